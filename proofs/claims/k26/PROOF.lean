import PyProof.Rows.All
import Wide.All
import OpenK.AllK
import Wide.FinOn
import Lean
import PyProof.EqAt
import PyProof.EqKinds
import PyProof.TupleCall
import PySem.Challenge.RW_bundlehouse_k26_walks
set_option Elab.async false
set_option linter.all false
set_option maxRecDepth 100000
section
open PySem PySem.Spec PyProof.Rows
def AA:=@wpAny_bind
def AB:=@wpAny_pure
def AC:=@Heap.get?_push_of_some
def AD:=@Nat.le_refl
def AE:=@Bool.false_ne_true
def AF:=@Paired.length
def AG:=@Heap.get?_push_size
def AH:=@List.mem_singleton
def AI:=@List.length_map
def AJ:=@Heap.lt_size
def AK:=@PassesOwn.never
def AL:=@List.mem_cons_self
def AM:=@List.mem_map_of_mem
def AN:=@List.mem_cons_of_mem
def AO:=@List.getElem?_eq_some_iff
def AQ:=@Nat.lt_of_lt_of_le
def AR:=@List.length_take
def AS:=@Nat.ne_of_lt
def AT:=@decide_eq_false
def AU:=@List.mem_append_right
def AV:=@List.map_append
def AW:=@List.getElem?_eq_getElem
def AX:=@List.mem_of_getElem?
def AY:=@List.mem_map
def AZ:=@List.nodup_append
end
theorem a1r:0<=PySem.sizeLine:=by decide
theorem a3y:1<=PySem.sizeLine:=by decide
theorem E1:2<=PySem.sizeLine:=by decide
theorem a2b:3<=PySem.sizeLine:=by decide
namespace HD
open PySem PySem.W
noncomputable abbrev b3r (p:Program) (ks:List Nat):Program:=
 {p with main:={p.main with body:=ks.filterMap fun i=>p.main.body[i]?}}
noncomputable abbrev en (P:Params) (x:Str) (t:Tok) (v:Value):DictEntry:=⟨PyData.keyHash P x,.str x t,v⟩
noncomputable abbrev tp (p:Program) (i:Nat):Stmt:=p.main.body.getD i (.Pass ⟨0,0,0,0⟩)
noncomputable def inC (s:Stmt) (i:Nat):Stmt:=match s with
 | .ClassDef _ _ _ b _ _ _ _ _ _ _=>b.getD i (.Pass ⟨0,0,0,0⟩)
 | _=> .Pass ⟨0,0,0,0⟩
noncomputable def dA (s:Stmt):Arguments:=match s with
 | .FunctionDef _ a _ _ _ _ _ _ _ _=>a
 | _=>⟨[],[],none,[],[],none,[]⟩
noncomputable def dB (s:Stmt):List Stmt:=match s with
 | .FunctionDef _ _ b _ _ _ _ _ _ _=>b
 | _=> []
noncomputable def dS (s:Stmt):Scope:=match s with
 | .FunctionDef _ _ _ _ _ _ c _ _ _=>c
 | _=>default
theorem b0P{p q:Program}{lo:List Str}{Xt:Shared->Bool}{K:Params->Frag}{as:List Addr}(n:Nat){e:∀P,as=(K P).map (·.1)}{N:Nat}
  (h1:∀w,((openEnds treeTable p w N).map fun s=>openSeen q lo (importedModules p.main.body) Xt true s)=some (openGood q lo))
  (h6:∀w,((openEnds treeTable p w N).map fun s=>(as.take n).map s.heap.get?)=some (((K w.params).take n).map fun p=>some p.2))
  (h7:∀w,((openEnds treeTable p w N).map fun s=>(as.drop n).map s.heap.get?)=some (((K w.params).drop n).map fun p=>some p.2)):LeftO p q lo Xt (kHook K as e).obs (kHook K as e).val N:=by
 intro w
 have a1:=h1 w
 have a6:=h6 w
 have a7:=h7 w
 generalize openEnds treeTable p w N=r at a1 a6 a7⊢
 cases r with
 | none=>cases a6
 | some s=>
  have b1:openSeen q lo (importedModules p.main.body) Xt true s=openGood q lo:=Option.some.inj a1
  have b6:(as.take n).map s.heap.get?=((K w.params).take n).map fun p=>some p.2:=Option.some.inj a6
  have b7:(as.drop n).map s.heap.get?=((K w.params).drop n).map fun p=>some p.2:=Option.some.inj a7
  have b8:as.map s.heap.get?=(K w.params).map fun p=>some p.2:=by rw[<-List.take_append_drop n as,AV,b6,b7,<-AV,List.take_append_drop]
  show some (openSeen q lo (importedModules p.main.body) Xt true s,as.map s.heap.get?)=some (openGood q lo,(K w.params).map fun p=>some p.2)
  rw[b1,b8]
theorem b2U{l:OpenLaw}{q:Program}{lo:List Str}{K:Params->Frag}{as:List Addr}{N:Nat}{d:DefRec}{kwd:List (Str×Expr)}
  (e:∀P,as=(K P).map (·.1))(b3C:l.wellSaid=true)
  (hl:LeftO l.row.prog q lo (fun s=>xlAt q [] s && recOk (RowW.records l.row.toRowW) s) (kHook K as e).obs (kHook K as e).val N)
  (h1:defOf q l.row.name=some (d,kwd))(h2:l.row.prog.theDef l.row.name=some (d.params,d.body,d.scope))
  (h3:kwWritten? d.params.kwonlyargs d.params.kw_defaults=some kwd)(h4:(!l.row.writes || l.row.records.isEmpty)=true)
  (h5:(chainsOk q && opensWell l.row.prog && (frees l.row.toRowW && l.row.within.isEmpty))=true)
  (h6:l.row.prog.bare)(h7:l.row.toRowW.promised)
  (go:WalkO q lo (XL q []) (kHook K as e).says l.row.toRowW d kwd fun f vs=>PySem.call f vs):l.Holds:=by
 refine holds_law b3C fun sd=>?_
 refine holds_open (XP:=XL q []) (YP:=(kHook K as e).says) hl (kHook K as e).of (kHook K as e).keeps ?_ XL.keeps h1 h2 h3 ?_ h4 sd h5 h6 h7 go
 ·intro s x
  exact xl_of s (Bool.and_eq_true_iff.mp x).1
 ·intro s x
  exact recFacts_of (Bool.and_eq_true_iff.mp x).2
end HD
namespace K26
open PySem PySem.W
abbrev zP:=PySem.Challenge.pw_bundlehouse_k26_walks
set_option maxHeartbeats 0
noncomputable def a6k (P:Params):W.Frag:=
 (nat_lit 2,{cls:= .none,data:= .dict #[]})::
 (nat_lit 3,{cls:= .type "dict",data:= .dict #[HD.en P "__name__" 165 (.str "law_bundlehouse_k26_walks" 576),HD.en P "__doc__" 166 (.none),HD.en P "__package__" 167 (.none),HD.en P "__loader__" 168 (.builtin "__main__.__loader__#opaque"),HD.en P "__spec__" 169 (.none),HD.en P "__annotations__" 170 (.ref 6),HD.en P "__builtins__" 171 (.ref 4),HD.en P "__file__" 173 (.str "/claim/cut.py" 172),HD.en P "__cached__" 174 (.none),HD.en P "words_of" 196 (.ref 21),HD.en P "pair_words" 206 (.ref 28),HD.en P "sum_words" 216 (.ref 35),HD.en P "when_words" 223 (.ref 42),HD.en P "read_names" 231 (.ref 49),HD.en P "sum_names" 242 (.ref 56),HD.en P "when_names" 249 (.ref 63),HD.en P "placed_rows" 263 (.ref 70),HD.en P "given_owns" 274 (.ref 77),HD.en P "links" 288 (.ref 84),HD.en P "makers" 301 (.ref 91),HD.en P "made" 312 (.ref 98),HD.en P "Walk" 377 (.ref 143),HD.en P "PartsWalk" 418 (.ref 176),HD.en P "Going" 575 (.ref 279),HD.en P "_law_cell_at" 585 (.ref 290),HD.en P "_law_whole" 592 (.ref 297),HD.en P "_law_name" 602 (.ref 304),HD.en P "_law_number" 609 (.ref 311),HD.en P "_law_parts" 615 (.ref 316),HD.en P "_law_due" 621 (.ref 321),HD.en P "_law_gone" 634 (.ref 328),HD.en P "_law_told" 640 (.ref 333),HD.en P "_law_bare" 651 (.ref 340),HD.en P "law" 665 (.ref 347)] 34})::
 (nat_lit 15,{cls:= .type "tuple",data:= .seq #[]})::
 (nat_lit 17,{cls:= .type "tuple",data:= .seq #[.str "row" 192,.str "kind" 193]})::
 (nat_lit 18,{cls:= .type "tuple",data:= .seq #[]})::
 (nat_lit 20,{cls:= .type "code",data:= .fields #[.str "words_of" 189,.str "words_of" 190,.str "/claim/cut.py" 191,.int 2 0,.int 1 0,.int 0 0,.int 0 0,.int 3 0,.ref 15,.bool true,.int 181 0,.ref 16,.none,.ref 17,.ref 18,.ref 19,.int 194 0,.int 2 0,.str "/claim/cut.py" 195]})::
 (nat_lit 21,⟨.type "function",none,.func (W.fnOf "words_of" "words_of" (HD.dA (HD.tp zP 1)) (HD.dB (HD.tp zP 1)) (HD.dS (HD.tp zP 1)) (.none) (.none) (.none) (.str "bundlehouse.rows" 187) (none) (.ref 20) (.none)), #[]⟩)::
 (nat_lit 22,{cls:= .type "tuple",data:= .seq #[]})::
 (nat_lit 24,{cls:= .type "tuple",data:= .seq #[.str "pairs" 200,.str "words" 201,.str "given" 202,.str "own" 203]})::
 (nat_lit 25,{cls:= .type "tuple",data:= .seq #[]})::
 (nat_lit 27,{cls:= .type "code",data:= .fields #[.str "pair_words" 197,.str "pair_words" 198,.str "/claim/cut.py" 199,.int 17 0,.int 1 0,.int 0 0,.int 0 0,.int 3 0,.ref 22,.bool true,.int 181 0,.ref 23,.none,.ref 24,.ref 25,.ref 26,.int 204 0,.int 17 0,.str "/claim/cut.py" 205]})::
 (nat_lit 28,⟨.type "function",none,.func (W.fnOf "pair_words" "pair_words" (HD.dA (HD.tp zP 2)) (HD.dB (HD.tp zP 2)) (HD.dS (HD.tp zP 2)) (.none) (.none) (.none) (.str "bundlehouse.rows" 187) (none) (.ref 27) (.none)), #[]⟩)::
 (nat_lit 29,{cls:= .type "tuple",data:= .seq #[]})::
 (nat_lit 31,{cls:= .type "tuple",data:= .seq #[.str "terms" 210,.str "words" 211,.str "sign" 212,.str "thing" 213]})::
 (nat_lit 32,{cls:= .type "tuple",data:= .seq #[]})::
 (nat_lit 34,{cls:= .type "code",data:= .fields #[.str "sum_words" 207,.str "sum_words" 208,.str "/claim/cut.py" 209,.int 22 0,.int 1 0,.int 0 0,.int 0 0,.int 3 0,.ref 29,.bool true,.int 181 0,.ref 30,.none,.ref 31,.ref 32,.ref 33,.int 214 0,.int 22 0,.str "/claim/cut.py" 215]})::
 (nat_lit 35,⟨.type "function",none,.func (W.fnOf "sum_words" "sum_words" (HD.dA (HD.tp zP 3)) (HD.dB (HD.tp zP 3)) (HD.dS (HD.tp zP 3)) (.none) (.none) (.none) (.str "bundlehouse.rows" 187) (none) (.ref 34) (.none)), #[]⟩)::
 (nat_lit 36,{cls:= .type "tuple",data:= .seq #[]})::
 (nat_lit 38,{cls:= .type "tuple",data:= .seq #[.str "when" 220]})::
 (nat_lit 39,{cls:= .type "tuple",data:= .seq #[]})::
 (nat_lit 41,{cls:= .type "code",data:= .fields #[.str "when_words" 217,.str "when_words" 218,.str "/claim/cut.py" 219,.int 29 0,.int 1 0,.int 0 0,.int 0 0,.int 3 0,.ref 36,.bool true,.int 181 0,.ref 37,.none,.ref 38,.ref 39,.ref 40,.int 221 0,.int 29 0,.str "/claim/cut.py" 222]})::
 (nat_lit 42,⟨.type "function",none,.func (W.fnOf "when_words" "when_words" (HD.dA (HD.tp zP 4)) (HD.dB (HD.tp zP 4)) (HD.dS (HD.tp zP 4)) (.none) (.none) (.none) (.str "bundlehouse.rows" 187) (none) (.ref 41) (.none)), #[]⟩)::
 (nat_lit 43,{cls:= .type "tuple",data:= .seq #[]})::
 (nat_lit 45,{cls:= .type "tuple",data:= .seq #[.str "row" 227,.str "kind" 228]})::
 (nat_lit 46,{cls:= .type "tuple",data:= .seq #[]})::
 (nat_lit 48,{cls:= .type "code",data:= .fields #[.str "read_names" 224,.str "read_names" 225,.str "/claim/cut.py" 226,.int 33 0,.int 1 0,.int 0 0,.int 0 0,.int 3 0,.ref 43,.bool true,.int 181 0,.ref 44,.none,.ref 45,.ref 46,.ref 47,.int 229 0,.int 33 0,.str "/claim/cut.py" 230]})::
 (nat_lit 49,⟨.type "function",none,.func (W.fnOf "read_names" "read_names" (HD.dA (HD.tp zP 5)) (HD.dB (HD.tp zP 5)) (HD.dS (HD.tp zP 5)) (.none) (.none) (.none) (.str "bundlehouse.rows" 187) (none) (.ref 48) (.none)), #[]⟩)::
 (nat_lit 50,{cls:= .type "tuple",data:= .seq #[]})::
 (nat_lit 52,{cls:= .type "tuple",data:= .seq #[.str "terms" 235,.str "first" 236,.str "names" 237,.str "place" 238,.str "term" 239]})::
 (nat_lit 53,{cls:= .type "tuple",data:= .seq #[]})::
 (nat_lit 55,{cls:= .type "code",data:= .fields #[.str "sum_names" 232,.str "sum_names" 233,.str "/claim/cut.py" 234,.int 44 0,.int 2 0,.int 0 0,.int 0 0,.int 3 0,.ref 50,.bool true,.int 181 0,.ref 51,.none,.ref 52,.ref 53,.ref 54,.int 240 0,.int 44 0,.str "/claim/cut.py" 241]})::
 (nat_lit 56,⟨.type "function",none,.func (W.fnOf "sum_names" "sum_names" (HD.dA (HD.tp zP 6)) (HD.dB (HD.tp zP 6)) (HD.dS (HD.tp zP 6)) (.none) (.none) (.none) (.str "bundlehouse.rows" 187) (none) (.ref 55) (.none)), #[]⟩)::
 (nat_lit 57,{cls:= .type "tuple",data:= .seq #[]})::
 (nat_lit 59,{cls:= .type "tuple",data:= .seq #[.str "row" 246]})::
 (nat_lit 60,{cls:= .type "tuple",data:= .seq #[]})::
 (nat_lit 62,{cls:= .type "code",data:= .fields #[.str "when_names" 243,.str "when_names" 244,.str "/claim/cut.py" 245,.int 50 0,.int 1 0,.int 0 0,.int 0 0,.int 3 0,.ref 57,.bool true,.int 181 0,.ref 58,.none,.ref 59,.ref 60,.ref 61,.int 247 0,.int 50 0,.str "/claim/cut.py" 248]})::
 (nat_lit 63,⟨.type "function",none,.func (W.fnOf "when_names" "when_names" (HD.dA (HD.tp zP 7)) (HD.dB (HD.tp zP 7)) (HD.dS (HD.tp zP 7)) (.none) (.none) (.none) (.str "bundlehouse.rows" 187) (none) (.ref 62) (.none)), #[]⟩)::
 (nat_lit 64,{cls:= .type "tuple",data:= .seq #[]})::
 (nat_lit 66,{cls:= .type "tuple",data:= .seq #[.str "parts" 255,.str "found" 256,.str "part" 257,.str "rows" 258,.str "number" 259,.str "row" 260]})::
 (nat_lit 67,{cls:= .type "tuple",data:= .seq #[]})::
 (nat_lit 69,{cls:= .type "code",data:= .fields #[.str "placed_rows" 252,.str "placed_rows" 253,.str "/claim/cut.py" 254,.int 55 0,.int 1 0,.int 0 0,.int 0 0,.int 3 0,.ref 64,.bool true,.int 181 0,.ref 65,.none,.ref 66,.ref 67,.ref 68,.int 261 0,.int 55 0,.str "/claim/cut.py" 262]})::
 (nat_lit 70,⟨.type "function",none,.func (W.fnOf "placed_rows" "placed_rows" (HD.dA (HD.tp zP 9)) (HD.dB (HD.tp zP 9)) (HD.dS (HD.tp zP 9)) (.none) (.none) (.none) (.str "bundlehouse.net" 250) (none) (.ref 69) (.none)), #[]⟩)::
 (nat_lit 71,{cls:= .type "tuple",data:= .seq #[]})::
 (nat_lit 73,{cls:= .type "tuple",data:= .seq #[.str "parts" 267,.str "owns" 268,.str "part" 269,.str "number" 270,.str "row" 271]})::
 (nat_lit 74,{cls:= .type "tuple",data:= .seq #[]})::
 (nat_lit 76,{cls:= .type "code",data:= .fields #[.str "given_owns" 264,.str "given_owns" 265,.str "/claim/cut.py" 266,.int 61 0,.int 1 0,.int 0 0,.int 0 0,.int 3 0,.ref 71,.bool true,.int 181 0,.ref 72,.none,.ref 73,.ref 74,.ref 75,.int 272 0,.int 61 0,.str "/claim/cut.py" 273]})::
 (nat_lit 77,⟨.type "function",none,.func (W.fnOf "given_owns" "given_owns" (HD.dA (HD.tp zP 10)) (HD.dB (HD.tp zP 10)) (HD.dS (HD.tp zP 10)) (.none) (.none) (.none) (.str "bundlehouse.net" 250) (none) (.ref 76) (.none)), #[]⟩)::
 (nat_lit 78,{cls:= .type "tuple",data:= .seq #[]})::
 (nat_lit 80,{cls:= .type "tuple",data:= .seq #[.str "parts" 278,.str "owns" 279,.str "onward" 280,.str "part" 281,.str "number" 282,.str "row" 283,.str "given" 284,.str "own" 285]})::
 (nat_lit 81,{cls:= .type "tuple",data:= .seq #[]})::
 (nat_lit 83,{cls:= .type "code",data:= .fields #[.str "links" 275,.str "links" 276,.str "/claim/cut.py" 277,.int 67 0,.int 1 0,.int 0 0,.int 0 0,.int 3 0,.ref 78,.bool true,.int 181 0,.ref 79,.none,.ref 80,.ref 81,.ref 82,.int 286 0,.int 67 0,.str "/claim/cut.py" 287]})::
 (nat_lit 84,⟨.type "function",none,.func (W.fnOf "links" "links" (HD.dA (HD.tp zP 11)) (HD.dB (HD.tp zP 11)) (HD.dS (HD.tp zP 11)) (.none) (.none) (.none) (.str "bundlehouse.net" 250) (none) (.ref 83) (.none)), #[]⟩)::
 (nat_lit 85,{cls:= .type "tuple",data:= .seq #[]})::
 (nat_lit 87,{cls:= .type "tuple",data:= .seq #[.str "parts" 292,.str "found" 293,.str "onward" 294,.str "start" 295,.str "way" 296,.str "here" 297,.str "name" 298]})::
 (nat_lit 88,{cls:= .type "tuple",data:= .seq #[]})::
 (nat_lit 90,{cls:= .type "code",data:= .fields #[.str "makers" 289,.str "makers" 290,.str "/claim/cut.py" 291,.int 75 0,.int 1 0,.int 0 0,.int 0 0,.int 3 0,.ref 85,.bool true,.int 181 0,.ref 86,.none,.ref 87,.ref 88,.ref 89,.int 299 0,.int 75 0,.str "/claim/cut.py" 300]})::
 (nat_lit 91,⟨.type "function",none,.func (W.fnOf "makers" "makers" (HD.dA (HD.tp zP 12)) (HD.dB (HD.tp zP 12)) (HD.dS (HD.tp zP 12)) (.none) (.none) (.none) (.str "bundlehouse.net" 250) (none) (.ref 90) (.none)), #[]⟩)::
 (nat_lit 92,{cls:= .type "tuple",data:= .seq #[]})::
 (nat_lit 94,{cls:= .type "tuple",data:= .seq #[.str "parts" 305,.str "found" 306,.str "part" 307,.str "number" 308,.str "row" 309]})::
 (nat_lit 95,{cls:= .type "tuple",data:= .seq #[]})::
 (nat_lit 97,{cls:= .type "code",data:= .fields #[.str "made" 302,.str "made" 303,.str "/claim/cut.py" 304,.int 87 0,.int 1 0,.int 0 0,.int 0 0,.int 3 0,.ref 92,.bool true,.int 181 0,.ref 93,.none,.ref 94,.ref 95,.ref 96,.int 310 0,.int 87 0,.str "/claim/cut.py" 311]})::
 (nat_lit 98,⟨.type "function",none,.func (W.fnOf "made" "made" (HD.dA (HD.tp zP 13)) (HD.dB (HD.tp zP 13)) (HD.dS (HD.tp zP 13)) (.none) (.none) (.none) (.str "bundlehouse.net" 250) (none) (.ref 97) (.none)), #[]⟩)::
 (nat_lit 106,{cls:= .type "tuple",data:= .seq #[]})::
 (nat_lit 108,{cls:= .type "tuple",data:= .seq #[.str "self" 330,.str "part" 331]})::
 (nat_lit 109,{cls:= .type "tuple",data:= .seq #[]})::
 (nat_lit 111,{cls:= .type "code",data:= .fields #[.str "rows_of" 327,.str "Walk.rows_of" 328,.str "/claim/cut.py" 329,.int 96 0,.int 2 0,.int 0 0,.int 0 0,.int 3 0,.ref 106,.bool true,.int 181 0,.ref 107,.none,.ref 108,.ref 109,.ref 110,.int 332 0,.int 96 0,.str "/claim/cut.py" 333]})::
 (nat_lit 112,⟨.type "function",none,.func (W.fnOf "rows_of" "Walk.rows_of" (HD.dA (HD.inC (HD.tp zP 15) 0)) (HD.dB (HD.inC (HD.tp zP 15) 0)) (HD.dS (HD.inC (HD.tp zP 15) 0)) (.none) (.none) (.none) (.str "bundlehouse.run" 313) (none) (.ref 111) (.none)), #[]⟩)::
 (nat_lit 113,{cls:= .type "tuple",data:= .seq #[]})::
 (nat_lit 115,{cls:= .type "tuple",data:= .seq #[.str "self" 338,.str "part" 339,.str "name" 340]})::
 (nat_lit 116,{cls:= .type "tuple",data:= .seq #[]})::
 (nat_lit 118,{cls:= .type "code",data:= .fields #[.str "key_of" 335,.str "Walk.key_of" 336,.str "/claim/cut.py" 337,.int 99 0,.int 3 0,.int 0 0,.int 0 0,.int 3 0,.ref 113,.bool true,.int 181 0,.ref 114,.none,.ref 115,.ref 116,.ref 117,.int 341 0,.int 99 0,.str "/claim/cut.py" 342]})::
 (nat_lit 119,⟨.type "function",none,.func (W.fnOf "key_of" "Walk.key_of" (HD.dA (HD.inC (HD.tp zP 15) 1)) (HD.dB (HD.inC (HD.tp zP 15) 1)) (HD.dS (HD.inC (HD.tp zP 15) 1)) (.none) (.none) (.none) (.str "bundlehouse.run" 313) (none) (.ref 118) (.none)), #[]⟩)::
 (nat_lit 120,{cls:= .type "tuple",data:= .seq #[]})::
 (nat_lit 122,{cls:= .type "tuple",data:= .seq #[.str "self" 347,.str "part" 348]})::
 (nat_lit 123,{cls:= .type "tuple",data:= .seq #[]})::
 (nat_lit 125,{cls:= .type "code",data:= .fields #[.str "loads_of" 344,.str "Walk.loads_of" 345,.str "/claim/cut.py" 346,.int 102 0,.int 2 0,.int 0 0,.int 0 0,.int 3 0,.ref 120,.bool true,.int 181 0,.ref 121,.none,.ref 122,.ref 123,.ref 124,.int 349 0,.int 102 0,.str "/claim/cut.py" 350]})::
 (nat_lit 126,⟨.type "function",none,.func (W.fnOf "loads_of" "Walk.loads_of" (HD.dA (HD.inC (HD.tp zP 15) 2)) (HD.dB (HD.inC (HD.tp zP 15) 2)) (HD.dS (HD.inC (HD.tp zP 15) 2)) (.none) (.none) (.none) (.str "bundlehouse.run" 313) (none) (.ref 125) (.none)), #[]⟩)::
 (nat_lit 127,{cls:= .type "tuple",data:= .seq #[]})::
 (nat_lit 129,{cls:= .type "tuple",data:= .seq #[.str "self" 355,.str "root" 356]})::
 (nat_lit 130,{cls:= .type "tuple",data:= .seq #[]})::
 (nat_lit 132,{cls:= .type "code",data:= .fields #[.str "ahead_of" 352,.str "Walk.ahead_of" 353,.str "/claim/cut.py" 354,.int 105 0,.int 2 0,.int 0 0,.int 0 0,.int 3 0,.ref 127,.bool true,.int 181 0,.ref 128,.none,.ref 129,.ref 130,.ref 131,.int 357 0,.int 105 0,.str "/claim/cut.py" 358]})::
 (nat_lit 133,⟨.type "function",none,.func (W.fnOf "ahead_of" "Walk.ahead_of" (HD.dA (HD.inC (HD.tp zP 15) 3)) (HD.dB (HD.inC (HD.tp zP 15) 3)) (HD.dS (HD.inC (HD.tp zP 15) 3)) (.none) (.none) (.none) (.str "bundlehouse.run" 313) (none) (.ref 132) (.none)), #[]⟩)::
 (nat_lit 134,{cls:= .type "tuple",data:= .seq #[]})::
 (nat_lit 136,{cls:= .type "tuple",data:= .seq #[.str "self" 363,.str "root" 364,.str "numbers" 365,.str "going" 366]})::
 (nat_lit 137,{cls:= .type "tuple",data:= .seq #[]})::
 (nat_lit 139,{cls:= .type "code",data:= .fields #[.str "go" 360,.str "Walk.go" 361,.str "/claim/cut.py" 362,.int 108 0,.int 3 0,.int 0 0,.int 0 0,.int 3 0,.ref 134,.bool true,.int 181 0,.ref 135,.none,.ref 136,.ref 137,.ref 138,.int 367 0,.int 108 0,.str "/claim/cut.py" 368]})::
 (nat_lit 140,⟨.type "function",none,.func (W.fnOf "go" "Walk.go" (HD.dA (HD.inC (HD.tp zP 15) 4)) (HD.dB (HD.inC (HD.tp zP 15) 4)) (HD.dS (HD.inC (HD.tp zP 15) 4)) (.none) (.none) (.none) (.str "bundlehouse.run" 313) (none) (.ref 139) (.none)), #[]⟩)::
 (nat_lit 141,{cls:= .type "tuple",data:= .seq #[]})::
 (nat_lit 142,{cls:= .type "dict",data:= .dict #[HD.en P "__module__" 322 (.str "bundlehouse.run" 313),HD.en P "__firstlineno__" 326 (.int 94 325),HD.en P "rows_of" 334 (.ref 112),HD.en P "key_of" 343 (.ref 119),HD.en P "loads_of" 351 (.ref 126),HD.en P "ahead_of" 359 (.ref 133),HD.en P "go" 369 (.ref 140),HD.en P "__static_attributes__" 370 (.ref 141),HD.en P "__dict__" 372 (.ref 144),HD.en P "__weakref__" 374 (.ref 145),HD.en P "__doc__" 375 (.none)] 4})::
 (nat_lit 143,{cls:= .type "type",data:= .cls {name:="Walk",bases:=[.type "object"],mro:=[.ref 143,.type "object"],ns:=142,qualname:="Walk",subclasses:=[.ref 176]},slots:= #[none,none,some (.str "Walk" 315),some (.str "Walk" 323),some (.builtin "object.__new__"),some (.bool true)]})::
 (nat_lit 144,{cls:= .type "getset_descriptor",data:= .fields #[.str "__dict__" 371,.ref 143,.builtin "function.__dict__",.builtin "function.__dict__#set"]})::
 (nat_lit 145,{cls:= .type "getset_descriptor",data:= .fields #[.str "__weakref__" 373,.ref 143,.builtin "ExceptionGroup.__weakref__",.none]})::
 (nat_lit 148,{cls:= .type "tuple",data:= .seq #[.ref 143]})::
 (nat_lit 155,{cls:= .type "tuple",data:= .seq #[]})::
 (nat_lit 157,{cls:= .type "tuple",data:= .seq #[.str "self" 393,.str "parts" 394]})::
 (nat_lit 158,{cls:= .type "tuple",data:= .seq #[]})::
 (nat_lit 160,{cls:= .type "code",data:= .fields #[.str "__init__" 390,.str "PartsWalk.__init__" 391,.str "/claim/cut.py" 392,.int 117 0,.int 2 0,.int 0 0,.int 0 0,.int 3 0,.ref 155,.bool true,.int 181 0,.ref 156,.none,.ref 157,.ref 158,.ref 159,.int 395 0,.int 117 0,.str "/claim/cut.py" 396]})::
 (nat_lit 161,⟨.type "function",none,.func (W.fnOf "__init__" "PartsWalk.__init__" (HD.dA (HD.inC (HD.tp zP 16) 0)) (HD.dB (HD.inC (HD.tp zP 16) 0)) (HD.dS (HD.inC (HD.tp zP 16) 0)) (.none) (.none) (.none) (.str "bundlehouse.run" 313) (none) (.ref 160) (.none)), #[]⟩)::
 (nat_lit 162,{cls:= .type "tuple",data:= .seq #[]})::
 (nat_lit 165,{cls:= .type "code",data:= .fields #[.str "rows_of" 398,.str "PartsWalk.rows_of" 399,.str "/claim/cut.py" 400,.int 121 0,.int 2 0,.int 0 0,.int 0 0,.int 3 0,.ref 162,.bool true,.int 181 0,.ref 163,.none,.none,.none,.ref 164,.int 401 0,.int 121 0,.str "/claim/cut.py" 402]})::
 (nat_lit 166,⟨.type "function",none,.func (W.fnOf "rows_of" "PartsWalk.rows_of" (HD.dA (HD.inC (HD.tp zP 16) 1)) (HD.dB (HD.inC (HD.tp zP 16) 1)) (HD.dS (HD.inC (HD.tp zP 16) 1)) (.none) (.none) (.none) (.str "bundlehouse.run" 313) (none) (.ref 165) (.none)), #[]⟩)::
 (nat_lit 167,{cls:= .type "tuple",data:= .seq #[]})::
 (nat_lit 169,{cls:= .type "tuple",data:= .seq #[.str "self" 407,.str "part" 408,.str "name" 409]})::
 (nat_lit 170,{cls:= .type "tuple",data:= .seq #[]})::
 (nat_lit 172,{cls:= .type "code",data:= .fields #[.str "key_of" 404,.str "PartsWalk.key_of" 405,.str "/claim/cut.py" 406,.int 124 0,.int 3 0,.int 0 0,.int 0 0,.int 3 0,.ref 167,.bool true,.int 181 0,.ref 168,.none,.ref 169,.ref 170,.ref 171,.int 410 0,.int 124 0,.str "/claim/cut.py" 411]})::
 (nat_lit 173,⟨.type "function",none,.func (W.fnOf "key_of" "PartsWalk.key_of" (HD.dA (HD.inC (HD.tp zP 16) 2)) (HD.dB (HD.inC (HD.tp zP 16) 2)) (HD.dS (HD.inC (HD.tp zP 16) 2)) (.none) (.none) (.none) (.str "bundlehouse.run" 313) (none) (.ref 172) (.none)), #[]⟩)::
 (nat_lit 174,{cls:= .type "tuple",data:= .seq #[.str "makers" 413,.str "rows" 414]})::
 (nat_lit 175,{cls:= .type "dict",data:= .dict #[HD.en P "__module__" 385 (.str "bundlehouse.run" 313),HD.en P "__firstlineno__" 389 (.int 115 388),HD.en P "__init__" 397 (.ref 161),HD.en P "rows_of" 403 (.ref 166),HD.en P "key_of" 412 (.ref 173),HD.en P "__static_attributes__" 415 (.ref 174),HD.en P "__doc__" 416 (.none)] 2})::
 (nat_lit 176,{cls:= .type "type",data:= .cls {name:="PartsWalk",bases:=[.ref 143],mro:=[.ref 176,.ref 143,.type "object"],ns:=175,qualname:="PartsWalk"},slots:= #[some (.ref 148),none,some (.str "PartsWalk" 378),some (.str "PartsWalk" 386),some (.builtin "object.__new__"),some (.bool true)]})::
 (nat_lit 186,{cls:= .type "tuple",data:= .seq #[]})::
 (nat_lit 188,{cls:= .type "tuple",data:= .seq #[.str "self" 434,.str "walk" 435,.str "numbers" 436]})::
 (nat_lit 189,{cls:= .type "tuple",data:= .seq #[]})::
 (nat_lit 191,{cls:= .type "code",data:= .fields #[.str "__init__" 431,.str "Going.__init__" 432,.str "/claim/cut.py" 433,.int 128 0,.int 3 0,.int 0 0,.int 0 0,.int 3 0,.ref 186,.bool true,.int 181 0,.ref 187,.none,.ref 188,.ref 189,.ref 190,.int 437 0,.int 128 0,.str "/claim/cut.py" 438]})::
 (nat_lit 192,⟨.type "function",none,.func (W.fnOf "__init__" "Going.__init__" (HD.dA (HD.inC (HD.tp zP 17) 0)) (HD.dB (HD.inC (HD.tp zP 17) 0)) (HD.dS (HD.inC (HD.tp zP 17) 0)) (.none) (.none) (.none) (.str "bundlehouse.run" 313) (none) (.ref 191) (.none)), #[]⟩)::
 (nat_lit 193,{cls:= .type "tuple",data:= .seq #[]})::
 (nat_lit 195,{cls:= .type "tuple",data:= .seq #[.str "self" 443,.str "packs" 444,.str "pack" 445]})::
 (nat_lit 196,{cls:= .type "tuple",data:= .seq #[]})::
 (nat_lit 198,{cls:= .type "code",data:= .fields #[.str "load" 440,.str "Going.load" 441,.str "/claim/cut.py" 442,.int 139 0,.int 2 0,.int 0 0,.int 0 0,.int 3 0,.ref 193,.bool true,.int 181 0,.ref 194,.none,.ref 195,.ref 196,.ref 197,.int 446 0,.int 139 0,.str "/claim/cut.py" 447]})::
 (nat_lit 199,⟨.type "function",none,.func (W.fnOf "load" "Going.load" (HD.dA (HD.inC (HD.tp zP 17) 1)) (HD.dB (HD.inC (HD.tp zP 17) 1)) (HD.dS (HD.inC (HD.tp zP 17) 1)) (.none) (.none) (.none) (.str "bundlehouse.run" 313) (none) (.ref 198) (.none)), #[]⟩)::
 (nat_lit 200,{cls:= .type "tuple",data:= .seq #[]})::
 (nat_lit 202,{cls:= .type "tuple",data:= .seq #[.str "self" 452,.str "part" 453,.str "place" 454,.str "number" 455,.str "row" 456]})::
 (nat_lit 203,{cls:= .type "tuple",data:= .seq #[]})::
 (nat_lit 205,{cls:= .type "code",data:= .fields #[.str "begin" 449,.str "Going.begin" 450,.str "/claim/cut.py" 451,.int 145 0,.int 2 0,.int 0 0,.int 0 0,.int 3 0,.ref 200,.bool true,.int 181 0,.ref 201,.none,.ref 202,.ref 203,.ref 204,.int 457 0,.int 145 0,.str "/claim/cut.py" 458]})::
 (nat_lit 206,⟨.type "function",none,.func (W.fnOf "begin" "Going.begin" (HD.dA (HD.inC (HD.tp zP 17) 2)) (HD.dB (HD.inC (HD.tp zP 17) 2)) (HD.dS (HD.inC (HD.tp zP 17) 2)) (.none) (.none) (.none) (.str "bundlehouse.run" 313) (none) (.ref 205) (.none)), #[]⟩)::
 (nat_lit 207,{cls:= .type "tuple",data:= .seq #[]})::
 (nat_lit 209,{cls:= .type "tuple",data:= .seq #[.str "self" 463,.str "step" 464]})::
 (nat_lit 210,{cls:= .type "tuple",data:= .seq #[]})::
 (nat_lit 212,{cls:= .type "code",data:= .fields #[.str "go_on" 460,.str "Going.go_on" 461,.str "/claim/cut.py" 462,.int 150 0,.int 1 0,.int 0 0,.int 0 0,.int 3 0,.ref 207,.bool true,.int 181 0,.ref 208,.none,.ref 209,.ref 210,.ref 211,.int 465 0,.int 150 0,.str "/claim/cut.py" 466]})::
 (nat_lit 213,⟨.type "function",none,.func (W.fnOf "go_on" "Going.go_on" (HD.dA (HD.inC (HD.tp zP 17) 3)) (HD.dB (HD.inC (HD.tp zP 17) 3)) (HD.dS (HD.inC (HD.tp zP 17) 3)) (.none) (.none) (.none) (.str "bundlehouse.run" 313) (none) (.ref 212) (.none)), #[]⟩)::
 (nat_lit 214,{cls:= .type "tuple",data:= .seq #[]})::
 (nat_lit 216,{cls:= .type "tuple",data:= .seq #[.str "self" 471,.str "part" 472,.str "where" 473,.str "row" 474,.str "word" 475]})::
 (nat_lit 217,{cls:= .type "tuple",data:= .seq #[]})::
 (nat_lit 219,{cls:= .type "code",data:= .fields #[.str "do_row" 468,.str "Going.do_row" 469,.str "/claim/cut.py" 470,.int 155 0,.int 4 0,.int 0 0,.int 0 0,.int 3 0,.ref 214,.bool true,.int 181 0,.ref 215,.none,.ref 216,.ref 217,.ref 218,.int 476 0,.int 155 0,.str "/claim/cut.py" 477]})::
 (nat_lit 220,⟨.type "function",none,.func (W.fnOf "do_row" "Going.do_row" (HD.dA (HD.inC (HD.tp zP 17) 4)) (HD.dB (HD.inC (HD.tp zP 17) 4)) (HD.dS (HD.inC (HD.tp zP 17) 4)) (.none) (.none) (.none) (.str "bundlehouse.run" 313) (none) (.ref 219) (.none)), #[]⟩)::
 (nat_lit 221,{cls:= .type "tuple",data:= .seq #[]})::
 (nat_lit 223,{cls:= .type "tuple",data:= .seq #[.str "self" 482,.str "part" 483,.str "row" 484,.str "key" 485]})::
 (nat_lit 224,{cls:= .type "tuple",data:= .seq #[]})::
 (nat_lit 226,{cls:= .type "code",data:= .fields #[.str "is_off" 479,.str "Going.is_off" 480,.str "/claim/cut.py" 481,.int 166 0,.int 3 0,.int 0 0,.int 0 0,.int 3 0,.ref 221,.bool true,.int 181 0,.ref 222,.none,.ref 223,.ref 224,.ref 225,.int 486 0,.int 166 0,.str "/claim/cut.py" 487]})::
 (nat_lit 227,⟨.type "function",none,.func (W.fnOf "is_off" "Going.is_off" (HD.dA (HD.inC (HD.tp zP 17) 5)) (HD.dB (HD.inC (HD.tp zP 17) 5)) (HD.dS (HD.inC (HD.tp zP 17) 5)) (.none) (.none) (.none) (.str "bundlehouse.run" 313) (none) (.ref 226) (.none)), #[]⟩)::
 (nat_lit 228,{cls:= .type "tuple",data:= .seq #[]})::
 (nat_lit 230,{cls:= .type "tuple",data:= .seq #[.str "self" 492,.str "part" 493,.str "row" 494,.str "word" 495,.str "name" 496]})::
 (nat_lit 231,{cls:= .type "tuple",data:= .seq #[]})::
 (nat_lit 233,{cls:= .type "code",data:= .fields #[.str "early_word" 489,.str "Going.early_word" 490,.str "/claim/cut.py" 491,.int 172 0,.int 3 0,.int 0 0,.int 0 0,.int 3 0,.ref 228,.bool true,.int 181 0,.ref 229,.none,.ref 230,.ref 231,.ref 232,.int 497 0,.int 172 0,.str "/claim/cut.py" 498]})::
 (nat_lit 234,⟨.type "function",none,.func (W.fnOf "early_word" "Going.early_word" (HD.dA (HD.inC (HD.tp zP 17) 6)) (HD.dB (HD.inC (HD.tp zP 17) 6)) (HD.dS (HD.inC (HD.tp zP 17) 6)) (.none) (.none) (.none) (.str "bundlehouse.run" 313) (none) (.ref 233) (.none)), #[]⟩)::
 (nat_lit 235,{cls:= .type "tuple",data:= .seq #[]})::
 (nat_lit 237,{cls:= .type "tuple",data:= .seq #[.str "self" 503,.str "kind" 504,.str "part" 505]})::
 (nat_lit 238,{cls:= .type "tuple",data:= .seq #[]})::
 (nat_lit 240,{cls:= .type "code",data:= .fields #[.str "enter" 500,.str "Going.enter" 501,.str "/claim/cut.py" 502,.int 178 0,.int 3 0,.int 0 0,.int 0 0,.int 3 0,.ref 235,.bool true,.int 181 0,.ref 236,.none,.ref 237,.ref 238,.ref 239,.int 506 0,.int 178 0,.str "/claim/cut.py" 507]})::
 (nat_lit 241,⟨.type "function",none,.func (W.fnOf "enter" "Going.enter" (HD.dA (HD.inC (HD.tp zP 17) 7)) (HD.dB (HD.inC (HD.tp zP 17) 7)) (HD.dS (HD.inC (HD.tp zP 17) 7)) (.none) (.none) (.none) (.str "bundlehouse.run" 313) (none) (.ref 240) (.none)), #[]⟩)::
 (nat_lit 242,{cls:= .type "tuple",data:= .seq #[]})::
 (nat_lit 244,{cls:= .type "tuple",data:= .seq #[.str "self" 512,.str "part" 513,.str "where" 514,.str "row" 515,.str "kind" 516,.str "value" 517]})::
 (nat_lit 245,{cls:= .type "tuple",data:= .seq #[]})::
 (nat_lit 247,{cls:= .type "code",data:= .fields #[.str "do_work" 509,.str "Going.do_work" 510,.str "/claim/cut.py" 511,.int 185 0,.int 4 0,.int 0 0,.int 0 0,.int 3 0,.ref 242,.bool true,.int 181 0,.ref 243,.none,.ref 244,.ref 245,.ref 246,.int 518 0,.int 185 0,.str "/claim/cut.py" 519]})::
 (nat_lit 248,⟨.type "function",none,.func (W.fnOf "do_work" "Going.do_work" (HD.dA (HD.inC (HD.tp zP 17) 8)) (HD.dB (HD.inC (HD.tp zP 17) 8)) (HD.dS (HD.inC (HD.tp zP 17) 8)) (.none) (.none) (.none) (.str "bundlehouse.run" 313) (none) (.ref 247) (.none)), #[]⟩)::
 (nat_lit 249,{cls:= .type "tuple",data:= .seq #[]})::
 (nat_lit 251,{cls:= .type "tuple",data:= .seq #[.str "self" 524,.str "part" 525,.str "name" 526,.str "value" 527]})::
 (nat_lit 252,{cls:= .type "tuple",data:= .seq #[]})::
 (nat_lit 254,{cls:= .type "code",data:= .fields #[.str "give" 521,.str "Going.give" 522,.str "/claim/cut.py" 523,.int 198 0,.int 4 0,.int 0 0,.int 0 0,.int 3 0,.ref 249,.bool true,.int 181 0,.ref 250,.none,.ref 251,.ref 252,.ref 253,.int 528 0,.int 198 0,.str "/claim/cut.py" 529]})::
 (nat_lit 255,⟨.type "function",none,.func (W.fnOf "give" "Going.give" (HD.dA (HD.inC (HD.tp zP 17) 9)) (HD.dB (HD.inC (HD.tp zP 17) 9)) (HD.dS (HD.inC (HD.tp zP 17) 9)) (.none) (.none) (.none) (.str "bundlehouse.run" 313) (none) (.ref 254) (.none)), #[]⟩)::
 (nat_lit 256,{cls:= .type "tuple",data:= .seq #[]})::
 (nat_lit 258,{cls:= .type "tuple",data:= .seq #[.str "self" 534]})::
 (nat_lit 259,{cls:= .type "tuple",data:= .seq #[]})::
 (nat_lit 261,{cls:= .type "code",data:= .fields #[.str "next_told" 531,.str "Going.next_told" 532,.str "/claim/cut.py" 533,.int 201 0,.int 1 0,.int 0 0,.int 0 0,.int 3 0,.ref 256,.bool true,.int 181 0,.ref 257,.none,.ref 258,.ref 259,.ref 260,.int 535 0,.int 201 0,.str "/claim/cut.py" 536]})::
 (nat_lit 262,⟨.type "function",none,.func (W.fnOf "next_told" "Going.next_told" (HD.dA (HD.inC (HD.tp zP 17) 10)) (HD.dB (HD.inC (HD.tp zP 17) 10)) (HD.dS (HD.inC (HD.tp zP 17) 10)) (.none) (.none) (.none) (.str "bundlehouse.run" 313) (none) (.ref 261) (.none)), #[]⟩)::
 (nat_lit 263,{cls:= .type "tuple",data:= .seq #[]})::
 (nat_lit 265,{cls:= .type "tuple",data:= .seq #[.str "self" 541,.str "part" 542,.str "terms" 543,.str "total" 544,.str "sign" 545,.str "thing" 546]})::
 (nat_lit 266,{cls:= .type "tuple",data:= .seq #[]})::
 (nat_lit 268,{cls:= .type "code",data:= .fields #[.str "value_of" 538,.str "Going.value_of" 539,.str "/claim/cut.py" 540,.int 207 0,.int 3 0,.int 0 0,.int 0 0,.int 3 0,.ref 263,.bool true,.int 181 0,.ref 264,.none,.ref 265,.ref 266,.ref 267,.int 547 0,.int 207 0,.str "/claim/cut.py" 548]})::
 (nat_lit 269,⟨.type "function",none,.func (W.fnOf "value_of" "Going.value_of" (HD.dA (HD.inC (HD.tp zP 17) 11)) (HD.dB (HD.inC (HD.tp zP 17) 11)) (HD.dS (HD.inC (HD.tp zP 17) 11)) (.none) (.none) (.none) (.str "bundlehouse.run" 313) (none) (.ref 268) (.none)), #[]⟩)::
 (nat_lit 270,{cls:= .type "tuple",data:= .seq #[]})::
 (nat_lit 272,{cls:= .type "tuple",data:= .seq #[.str "self" 553,.str "part" 554,.str "thing" 555]})::
 (nat_lit 273,{cls:= .type "tuple",data:= .seq #[]})::
 (nat_lit 275,{cls:= .type "code",data:= .fields #[.str "thing_value" 550,.str "Going.thing_value" 551,.str "/claim/cut.py" 552,.int 213 0,.int 3 0,.int 0 0,.int 0 0,.int 3 0,.ref 270,.bool true,.int 181 0,.ref 271,.none,.ref 272,.ref 273,.ref 274,.int 556 0,.int 213 0,.str "/claim/cut.py" 557]})::
 (nat_lit 276,⟨.type "function",none,.func (W.fnOf "thing_value" "Going.thing_value" (HD.dA (HD.inC (HD.tp zP 17) 12)) (HD.dB (HD.inC (HD.tp zP 17) 12)) (HD.dS (HD.inC (HD.tp zP 17) 12)) (.none) (.none) (.none) (.str "bundlehouse.run" 313) (none) (.ref 275) (.none)), #[]⟩)::
 (nat_lit 277,{cls:= .type "tuple",data:= .seq #[.str "begun" 559,.str "fault" 560,.str "given" 561,.str "loaded" 562,.str "numbers" 563,.str "taken" 564,.str "trace" 565,.str "waiting" 566,.str "walk" 567]})::
 (nat_lit 278,{cls:= .type "dict",data:= .dict #[HD.en P "__module__" 426 (.str "bundlehouse.run" 313),HD.en P "__firstlineno__" 430 (.int 126 429),HD.en P "__init__" 439 (.ref 192),HD.en P "load" 448 (.ref 199),HD.en P "begin" 459 (.ref 206),HD.en P "go_on" 467 (.ref 213),HD.en P "do_row" 478 (.ref 220),HD.en P "is_off" 488 (.ref 227),HD.en P "early_word" 499 (.ref 234),HD.en P "enter" 508 (.ref 241),HD.en P "do_work" 520 (.ref 248),HD.en P "give" 530 (.ref 255),HD.en P "next_told" 537 (.ref 262),HD.en P "value_of" 549 (.ref 269),HD.en P "thing_value" 558 (.ref 276),HD.en P "__static_attributes__" 568 (.ref 277),HD.en P "__dict__" 570 (.ref 280),HD.en P "__weakref__" 572 (.ref 281),HD.en P "__doc__" 573 (.none)] 4})::
 (nat_lit 279,{cls:= .type "type",data:= .cls {name:="Going",bases:=[.type "object"],mro:=[.ref 279,.type "object"],ns:=278,qualname:="Going"},slots:= #[none,none,some (.str "Going" 419),some (.str "Going" 427),some (.builtin "object.__new__"),some (.bool true)]})::
 (nat_lit 280,{cls:= .type "getset_descriptor",data:= .fields #[.str "__dict__" 569,.ref 279,.builtin "function.__dict__",.builtin "function.__dict__#set"]})::
 (nat_lit 281,{cls:= .type "getset_descriptor",data:= .fields #[.str "__weakref__" 571,.ref 279,.builtin "ExceptionGroup.__weakref__",.none]})::
 (nat_lit 284,{cls:= .type "tuple",data:= .seq #[]})::
 (nat_lit 286,{cls:= .type "tuple",data:= .seq #[.str "_law_script" 581,.str "_law_k" 582]})::
 (nat_lit 287,{cls:= .type "tuple",data:= .seq #[]})::
 (nat_lit 289,{cls:= .type "code",data:= .fields #[.str "_law_cell_at" 578,.str "_law_cell_at" 579,.str "/claim/cut.py" 580,.int 218 0,.int 2 0,.int 0 0,.int 0 0,.int 3 0,.ref 284,.bool true,.int 181 0,.ref 285,.none,.ref 286,.ref 287,.ref 288,.int 583 0,.int 218 0,.str "/claim/cut.py" 584]})::
 (nat_lit 290,⟨.type "function",none,.func (W.fnOf "_law_cell_at" "_law_cell_at" (HD.dA (HD.tp zP 19)) (HD.dB (HD.tp zP 19)) (HD.dS (HD.tp zP 19)) (.none) (.none) (.none) (.str "law_bundlehouse_k26_walks" 576) (none) (.ref 289) (.none)), #[]⟩)::
 (nat_lit 291,{cls:= .type "tuple",data:= .seq #[]})::
 (nat_lit 293,{cls:= .type "tuple",data:= .seq #[.str "_law_found" 589]})::
 (nat_lit 294,{cls:= .type "tuple",data:= .seq #[]})::
 (nat_lit 296,{cls:= .type "code",data:= .fields #[.str "_law_whole" 586,.str "_law_whole" 587,.str "/claim/cut.py" 588,.int 222 0,.int 1 0,.int 0 0,.int 0 0,.int 3 0,.ref 291,.bool true,.int 181 0,.ref 292,.none,.ref 293,.ref 294,.ref 295,.int 590 0,.int 222 0,.str "/claim/cut.py" 591]})::
 (nat_lit 297,⟨.type "function",none,.func (W.fnOf "_law_whole" "_law_whole" (HD.dA (HD.tp zP 20)) (HD.dB (HD.tp zP 20)) (HD.dS (HD.tp zP 20)) (.none) (.none) (.none) (.str "law_bundlehouse_k26_walks" 576) (none) (.ref 296) (.none)), #[]⟩)::
 (nat_lit 298,{cls:= .type "tuple",data:= .seq #[]})::
 (nat_lit 300,{cls:= .type "tuple",data:= .seq #[.str "_law_form" 596,.str "_law_k" 597,.str "_law_base" 598,.str "_law_at" 599]})::
 (nat_lit 301,{cls:= .type "tuple",data:= .seq #[]})::
 (nat_lit 303,{cls:= .type "code",data:= .fields #[.str "_law_name" 593,.str "_law_name" 594,.str "/claim/cut.py" 595,.int 224 0,.int 2 0,.int 0 0,.int 0 0,.int 3 0,.ref 298,.bool true,.int 181 0,.ref 299,.none,.ref 300,.ref 301,.ref 302,.int 600 0,.int 224 0,.str "/claim/cut.py" 601]})::
 (nat_lit 304,⟨.type "function",none,.func (W.fnOf "_law_name" "_law_name" (HD.dA (HD.tp zP 21)) (HD.dB (HD.tp zP 21)) (HD.dS (HD.tp zP 21)) (.none) (.none) (.none) (.str "law_bundlehouse_k26_walks" 576) (none) (.ref 303) (.none)), #[]⟩)::
 (nat_lit 305,{cls:= .type "tuple",data:= .seq #[]})::
 (nat_lit 307,{cls:= .type "tuple",data:= .seq #[.str "_law_cell" 606]})::
 (nat_lit 308,{cls:= .type "tuple",data:= .seq #[]})::
 (nat_lit 310,{cls:= .type "code",data:= .fields #[.str "_law_number" 603,.str "_law_number" 604,.str "/claim/cut.py" 605,.int 228 0,.int 1 0,.int 0 0,.int 0 0,.int 3 0,.ref 305,.bool true,.int 181 0,.ref 306,.none,.ref 307,.ref 308,.ref 309,.int 607 0,.int 228 0,.str "/claim/cut.py" 608]})::
 (nat_lit 311,⟨.type "function",none,.func (W.fnOf "_law_number" "_law_number" (HD.dA (HD.tp zP 22)) (HD.dB (HD.tp zP 22)) (HD.dS (HD.tp zP 22)) (.none) (.none) (.none) (.str "law_bundlehouse_k26_walks" 576) (none) (.ref 310) (.none)), #[]⟩)::
 (nat_lit 312,{cls:= .type "tuple",data:= .seq #[]})::
 (nat_lit 315,{cls:= .type "code",data:= .fields #[.str "_law_parts" 610,.str "_law_parts" 611,.str "/claim/cut.py" 612,.int 232 0,.int 1 0,.int 0 0,.int 0 0,.int 3 0,.ref 312,.bool true,.int 181 0,.ref 313,.none,.none,.none,.ref 314,.int 613 0,.int 232 0,.str "/claim/cut.py" 614]})::
 (nat_lit 316,⟨.type "function",none,.func (W.fnOf "_law_parts" "_law_parts" (HD.dA (HD.tp zP 23)) (HD.dB (HD.tp zP 23)) (HD.dS (HD.tp zP 23)) (.none) (.none) (.none) (.str "law_bundlehouse_k26_walks" 576) (none) (.ref 315) (.none)), #[]⟩)::
 (nat_lit 317,{cls:= .type "tuple",data:= .seq #[]})::
 (nat_lit 320,{cls:= .type "code",data:= .fields #[.str "_law_due" 616,.str "_law_due" 617,.str "/claim/cut.py" 618,.int 244 0,.int 3 0,.int 0 0,.int 0 0,.int 3 0,.ref 317,.bool true,.int 181 0,.ref 318,.none,.none,.none,.ref 319,.int 619 0,.int 244 0,.str "/claim/cut.py" 620]})::
 (nat_lit 321,⟨.type "function",none,.func (W.fnOf "_law_due" "_law_due" (HD.dA (HD.tp zP 24)) (HD.dB (HD.tp zP 24)) (HD.dS (HD.tp zP 24)) (.none) (.none) (.none) (.str "law_bundlehouse_k26_walks" 576) (none) (.ref 320) (.none)), #[]⟩)::
 (nat_lit 322,{cls:= .type "tuple",data:= .seq #[]})::
 (nat_lit 324,{cls:= .type "tuple",data:= .seq #[.str "_law_walk" 625,.str "_law_parts_here" 626,.str "_law_root" 627,.str "_law_numbers" 628,.str "_law_found" 629,.str "_law_value" 630,.str "_law_deed" 631]})::
 (nat_lit 325,{cls:= .type "tuple",data:= .seq #[]})::
 (nat_lit 327,{cls:= .type "code",data:= .fields #[.str "_law_gone" 622,.str "_law_gone" 623,.str "/claim/cut.py" 624,.int 262 0,.int 4 0,.int 0 0,.int 0 0,.int 3 0,.ref 322,.bool true,.int 181 0,.ref 323,.none,.ref 324,.ref 325,.ref 326,.int 632 0,.int 262 0,.str "/claim/cut.py" 633]})::
 (nat_lit 328,⟨.type "function",none,.func (W.fnOf "_law_gone" "_law_gone" (HD.dA (HD.tp zP 25)) (HD.dB (HD.tp zP 25)) (HD.dS (HD.tp zP 25)) (.none) (.none) (.none) (.str "law_bundlehouse_k26_walks" 576) (none) (.ref 327) (.none)), #[]⟩)::
 (nat_lit 329,{cls:= .type "tuple",data:= .seq #[]})::
 (nat_lit 332,{cls:= .type "code",data:= .fields #[.str "_law_told" 635,.str "_law_told" 636,.str "/claim/cut.py" 637,.int 273 0,.int 2 0,.int 0 0,.int 0 0,.int 3 0,.ref 329,.bool true,.int 181 0,.ref 330,.none,.none,.none,.ref 331,.int 638 0,.int 273 0,.str "/claim/cut.py" 639]})::
 (nat_lit 333,⟨.type "function",none,.func (W.fnOf "_law_told" "_law_told" (HD.dA (HD.tp zP 26)) (HD.dB (HD.tp zP 26)) (HD.dS (HD.tp zP 26)) (.none) (.none) (.none) (.str "law_bundlehouse_k26_walks" 576) (none) (.ref 332) (.none)), #[]⟩)::
 (nat_lit 334,{cls:= .type "tuple",data:= .seq #[]})::
 (nat_lit 336,{cls:= .type "tuple",data:= .seq #[.str "_law_parts_here" 644,.str "_law_numbers" 645,.str "_law_walk" 646,.str "_law_name_here" 647,.str "_law_rows" 648]})::
 (nat_lit 337,{cls:= .type "tuple",data:= .seq #[]})::
 (nat_lit 339,{cls:= .type "code",data:= .fields #[.str "_law_bare" 641,.str "_law_bare" 642,.str "/claim/cut.py" 643,.int 291 0,.int 2 0,.int 0 0,.int 0 0,.int 3 0,.ref 334,.bool true,.int 181 0,.ref 335,.none,.ref 336,.ref 337,.ref 338,.int 649 0,.int 291 0,.str "/claim/cut.py" 650]})::
 (nat_lit 340,⟨.type "function",none,.func (W.fnOf "_law_bare" "_law_bare" (HD.dA (HD.tp zP 27)) (HD.dB (HD.tp zP 27)) (HD.dS (HD.tp zP 27)) (.none) (.none) (.none) (.str "law_bundlehouse_k26_walks" 576) (none) (.ref 339) (.none)), #[]⟩)::
 (nat_lit 341,{cls:= .type "tuple",data:= .seq #[]})::
 (nat_lit 343,{cls:= .type "tuple",data:= .seq #[.str "_law_script" 655,.str "_law_parts_here" 656,.str "_law_less" 657,.str "_law_numbers" 658,.str "_law_walk" 659,.str "_law_other" 660,.str "_law_root" 661,.str "_law_some" 662]})::
 (nat_lit 344,{cls:= .type "tuple",data:= .seq #[]})::
 (nat_lit 346,{cls:= .type "code",data:= .fields #[.str "law" 652,.str "law" 653,.str "/claim/cut.py" 654,.int 299 0,.int 1 0,.int 0 0,.int 0 0,.int 3 0,.ref 341,.bool true,.int 181 0,.ref 342,.none,.ref 343,.ref 344,.ref 345,.int 663 0,.int 299 0,.str "/claim/cut.py" 664]})::
 (nat_lit 347,⟨.type "function",none,.func (W.fnOf "law" "law" (HD.dA (HD.tp zP 28)) (HD.dB (HD.tp zP 28)) (HD.dS (HD.tp zP 28)) (.none) (.none) (.none) (.str "law_bundlehouse_k26_walks" 576) (none) (.ref 346) (.none)), #[]⟩)::[]
noncomputable def a6f:List Addr:=[nat_lit 2,nat_lit 3,nat_lit 15,nat_lit 17,nat_lit 18,nat_lit 20,nat_lit 21,nat_lit 22,nat_lit 24,nat_lit 25,nat_lit 27,nat_lit 28,nat_lit 29,nat_lit 31,nat_lit 32,nat_lit 34,nat_lit 35,nat_lit 36,nat_lit 38,nat_lit 39,nat_lit 41,nat_lit 42,nat_lit 43,nat_lit 45,nat_lit 46,nat_lit 48,nat_lit 49,nat_lit 50,nat_lit 52,nat_lit 53,nat_lit 55,nat_lit 56,nat_lit 57,nat_lit 59,nat_lit 60,nat_lit 62,nat_lit 63,nat_lit 64,nat_lit 66,nat_lit 67,nat_lit 69,nat_lit 70,nat_lit 71,nat_lit 73,nat_lit 74,nat_lit 76,nat_lit 77,nat_lit 78,nat_lit 80,nat_lit 81,nat_lit 83,nat_lit 84,nat_lit 85,nat_lit 87,nat_lit 88,nat_lit 90,nat_lit 91,nat_lit 92,nat_lit 94,nat_lit 95,nat_lit 97,nat_lit 98,nat_lit 106,nat_lit 108,nat_lit 109,nat_lit 111,nat_lit 112,nat_lit 113,nat_lit 115,nat_lit 116,nat_lit 118,nat_lit 119,nat_lit 120,nat_lit 122,nat_lit 123,nat_lit 125,nat_lit 126,nat_lit 127,nat_lit 129,nat_lit 130,nat_lit 132,nat_lit 133,nat_lit 134,nat_lit 136,nat_lit 137,nat_lit 139,nat_lit 140,nat_lit 141,nat_lit 142,nat_lit 143,nat_lit 144,nat_lit 145,nat_lit 148,nat_lit 155,nat_lit 157,nat_lit 158,nat_lit 160,nat_lit 161,nat_lit 162,nat_lit 165,nat_lit 166,nat_lit 167,nat_lit 169,nat_lit 170,nat_lit 172,nat_lit 173,nat_lit 174,nat_lit 175,nat_lit 176,nat_lit 186,nat_lit 188,nat_lit 189,nat_lit 191,nat_lit 192,nat_lit 193,nat_lit 195,nat_lit 196,nat_lit 198,nat_lit 199,nat_lit 200,nat_lit 202,nat_lit 203,nat_lit 205,nat_lit 206,nat_lit 207,nat_lit 209,nat_lit 210,nat_lit 212,nat_lit 213,nat_lit 214,nat_lit 216,nat_lit 217,nat_lit 219,nat_lit 220,nat_lit 221,nat_lit 223,nat_lit 224,nat_lit 226,nat_lit 227,nat_lit 228,nat_lit 230,nat_lit 231,nat_lit 233,nat_lit 234,nat_lit 235,nat_lit 237,nat_lit 238,nat_lit 240,nat_lit 241,nat_lit 242,nat_lit 244,nat_lit 245,nat_lit 247,nat_lit 248,nat_lit 249,nat_lit 251,nat_lit 252,nat_lit 254,nat_lit 255,nat_lit 256,nat_lit 258,nat_lit 259,nat_lit 261,nat_lit 262,nat_lit 263,nat_lit 265,nat_lit 266,nat_lit 268,nat_lit 269,nat_lit 270,nat_lit 272,nat_lit 273,nat_lit 275,nat_lit 276,nat_lit 277,nat_lit 278,nat_lit 279,nat_lit 280,nat_lit 281,nat_lit 284,nat_lit 286,nat_lit 287,nat_lit 289,nat_lit 290,nat_lit 291,nat_lit 293,nat_lit 294,nat_lit 296,nat_lit 297,nat_lit 298,nat_lit 300,nat_lit 301,nat_lit 303,nat_lit 304,nat_lit 305,nat_lit 307,nat_lit 308,nat_lit 310,nat_lit 311,nat_lit 312,nat_lit 315,nat_lit 316,nat_lit 317,nat_lit 320,nat_lit 321,nat_lit 322,nat_lit 324,nat_lit 325,nat_lit 327,nat_lit 328,nat_lit 329,nat_lit 332,nat_lit 333,nat_lit 334,nat_lit 336,nat_lit 337,nat_lit 339,nat_lit 340,nat_lit 341,nat_lit 343,nat_lit 344,nat_lit 346,nat_lit 347]
theorem b1T:∀P,a6f=(a6k P).map (·.1):=fun _=>by kernel_rfl
theorem b3C:PySem.Challenge.rw_bundlehouse_k26_walks.wellSaid=true:=by kernel_rfl
noncomputable abbrev qP:Program:=(HD.b3r PySem.Challenge.rw_bundlehouse_k26_walks.prog [28])
noncomputable abbrev sE (w:World):=openEnds treeTable PySem.Challenge.rw_bundlehouse_k26_walks.row.prog w 4168
noncomputable abbrev sX:Shared->Bool:=(fun s=>xlAt qP [] s && recOk (RowW.records PySem.Challenge.rw_bundlehouse_k26_walks.row.toRowW) s)
noncomputable abbrev sL:List Str:="words_of"::"pair_words"::"sum_words"::"when_words"::"read_names"::"sum_names"::"when_names"::"placed_rows"::"given_owns"::"links"::"makers"::"made"::"Walk"::"PartsWalk"::"Going"::"_law_cell_at"::"_law_whole"::"_law_name"::"_law_number"::"_law_parts"::"_law_due"::"_law_gone"::"_law_told"::"_law_bare"::[]
noncomputable abbrev sS (s:Shared):=openSeen qP sL (importedModules PySem.Challenge.rw_bundlehouse_k26_walks.row.prog.main.body) sX true s
theorem b5T:∀w,((sE w).map fun s=>sS s)=some (openGood qP sL):=fun w=>by kernel_rfl
theorem b5F:∀w,((sE w).map fun s=>(a6f.take 111).map s.heap.get?)=some (((a6k w.params).take 111).map fun p=>some p.2):=fun w=>by kernel_rfl
theorem b5L:∀w,((sE w).map fun s=>(a6f.drop 111).map s.heap.get?)=some (((a6k w.params).drop 111).map fun p=>some p.2):=fun w=>by kernel_rfl
theorem b2J:LeftO PySem.Challenge.rw_bundlehouse_k26_walks.row.prog qP sL sX (kHook a6k a6f b1T).obs (kHook a6k a6f b1T).val 4168:=HD.b0P 111 b5T b5F b5L
end K26
namespace L2
open PySem PySem.Spec PyProof.Rows
noncomputable abbrev Key:=Sum Int Str
noncomputable def a6g:Key->Value->Bool
 | .inl k,v=>Value.isInt k v
 | .inr x,v=>Value.isStrOf x v
noncomputable def b5E (w:World):Key->Int
 | .inl k=>hashInt k
 | .inr x=>hashStr w x
theorem F1:∀{k:Key}{v:Value},a6g k v=true->(∃i t,k=Sum.inl i/\v=Value.int i t)\/(∃x t,k=Sum.inr x/\v=Value.str x t)
 | .inl i,v,h=>by
  obtain⟨t,e⟩:=Value.isInt_shape (k:=i) (v:=v) h
  exact .inl ⟨i,t,rfl,e⟩
 | .inr x,v,h=>by
  obtain⟨t,e⟩:=Value.isStrOf_shape (x:=x) (v:=v) h
  exact .inr ⟨x,t,rfl,e⟩
theorem a9E(i:Int)(t:Tok):a6g (.inl i) (.int i t)=true:=by simp[a6g,Value.isInt]
theorem b0v(x:Str)(t:Tok):a6g (.inr x) (.str x t)=true:=by simp[a6g,Value.isStrOf]
theorem b3x(a b:Int):decide ((Sum.inl a:Key)=Sum.inl b)=(a==b):=by
 by_cases e:a=b
 ·subst e;simp
 ·have h:¬(Sum.inl a:Key)=Sum.inl b:=fun q=>e (Sum.inl.inj q)
  rw[AT h]
  exact(beq_eq_false_iff_ne.mpr e).symm
theorem b4o(a b:Str):decide ((Sum.inr a:Key)=Sum.inr b)=decide (a=b):=by
 by_cases e:a=b
 ·subst e;simp
 ·have h:¬(Sum.inr a:Key)=Sum.inr b:=fun q=>e (Sum.inr.inj q)
  rw[AT h,AT e]
theorem b3J(a:Int)(b:Str):decide ((Sum.inl a:Key)=Sum.inr b)=false:=AT (fun q=>nomatch q)
theorem b3U(a:Str)(b:Int):decide ((Sum.inr a:Key)=Sum.inl b)=false:=AT (fun q=>nomatch q)
noncomputable def E8 (prog:Program) (w:World):PySem.KeyKind prog w Key where
 is:=a6g
 hash:=b5E w
 inj:=fun v a b ha hb=>by
  rcases F1 ha with⟨i,t,rfl,rfl⟩ | ⟨x,t,rfl,rfl⟩
  ·rcases F1 hb with⟨j,u,rfl,e⟩ | ⟨y,u,rfl,e⟩
   ·injection e with e1 _;rw[e1]
   ·exact nomatch e
  ·rcases F1 hb with⟨j,u,rfl,e⟩ | ⟨y,u,rfl,e⟩
   ·exact nomatch e
   ·injection e with e1 _;rw[e1]
 byValue:=fun k v h=>by
  rcases F1 h with⟨i,t,rfl,rfl⟩ | ⟨x,t,rfl,rfl⟩<;>rfl
 pyHash:=fun hv h=>by
  rcases F1 hv with⟨i,t,rfl,rfl⟩ | ⟨x,t,rfl,rfl⟩
  ·exact wpAny_pyHash_int h
  ·exact wpAny_pyHash_str h
 eqBool:=fun hu hv h=>by
  rcases F1 hu with⟨i,t,rfl,rfl⟩ | ⟨x,t,rfl,rfl⟩
  ·rcases F1 hv with⟨j,u,rfl,rfl⟩ | ⟨y,u,rfl,rfl⟩
   ·rw[b3x]at h;exact wpAny_eqBool_int h
   ·rw[b3J]at h;exact SeqAt.EqAt.int_str i t y u _ _ _ _ h
  ·rcases F1 hv with⟨j,u,rfl,rfl⟩ | ⟨y,u,rfl,rfl⟩
   ·rw[b3U]at h;exact SeqAt.EqAt.str_int x t j u _ _ _ _ h
   ·rw[b4o]at h;exact wpAny_eqBool_str h
 «strs»:=fun k x t v h=>by
  rcases F1 h with⟨i,u,rfl,e⟩ | ⟨y,u,rfl,e⟩
  ·exact nomatch e
  ·injection e with e1 _
   subst e1
   cases v<;>rfl
theorem a7l(prog:Program)(w:World)(i:Int)(t:Tok):(E8 prog w).is (.inl i) (.int i t)=true:=a9E i t
theorem a4c(prog:Program)(w:World)(x:Str)(t:Tok):(E8 prog w).is (.inr x) (.str x t)=true:=b0v x t
end L2
namespace L2
open PySem PySem.Spec PyProof.Rows
inductive V where
 | non | bl (b:Bool) | int (i:Int) | str (x:Str) | byt (b:Array UInt8) | flt (b:UInt64) | ref (a:Addr) | ty (n:String)
 deriving DecidableEq
noncomputable def W7:V->Value->Prop
 | .non,u=>u=Value.none
 | .bl b,u=>u=Value.bool b
 | .int i,u=>∃t,u=Value.int i t
 | .str x,u=>∃t,u=Value.str x t
 | .byt b,u=>∃t,u=Value.bytes b t
 | .flt b,u=>∃t,u=Value.float b t
 | .ref a,u=>u=Value.ref a
 | .ty n,u=>u=Value.type n
noncomputable abbrev W0:List V->List Value->Prop:=Paired W7
theorem W0.length{xs:List V}{us:List Value}(r:W0 xs us):xs.length=us.length:=AF r
theorem W0.get:∀{xs:List V}{us:List Value}{i:Nat}{x:V},W0 xs us->xs[i]?=some x->∃u,us[i]?=some u/\W7 x u
 | _,_,_,_,.nil,e=>by simp at e
 | _,_,0,_,.cons r _,e=>by simp at e;subst e;exact⟨_,rfl,r⟩
 | _,_,i+1,x,.cons _ t,e=>by
  obtain⟨u,h1,h2⟩:=W0.get (i:=i) (x:=x) t (by simpa using e)
  exact⟨u,by simpa using h1,h2⟩
theorem W0.append:∀{xs ys:List V}{us ws:List Value},W0 xs us->W0 ys ws->W0 (xs++ys) (us++ws)
 | _,_,_,_,.nil,s=>s
 | _,_,_,_,.cons r t,s=> .cons r (W0.append t s)
theorem W0.take:∀{xs:List V}{us:List Value}(n:Nat),W0 xs us->W0 (xs.take n) (us.take n)
 | _,_,0,_=> .nil
 | _,_,_+1,.nil=> .nil
 | _,_,n+1,.cons r t=> .cons r (W0.take n t)
theorem W0.drop:∀{xs:List V}{us:List Value}(n:Nat),W0 xs us->W0 (xs.drop n) (us.drop n)
 | _,_,0,r=>r
 | _,_,_+1,.nil=> .nil
 | _,_,n+1,.cons _ t=>W0.drop n t
noncomputable def a2D:Option V->Option Value->Prop
 | some v,some u=>W7 v u
 | none,none=>True
 | _,_=>False
noncomputable def KV {κ:Type}:List (κ×V)->List (κ×Value)->Prop:=Paired fun(p:κ×V)(q:κ×Value)=>p.1=q.1/\W7 p.2 q.2
noncomputable def kV:Key->V
 | .inl i=> .int i
 | .inr x=> .str x
inductive HO where
 | lst (xs:List V)
 | tup (xs:List V)
 | dK (kvs:List (Key×V)) | dT (kvs:List (List Key×V))
 | set (S:Int->Bool) (n:Nat)
 | ins (C dx:Addr) (fs:List (Str×V))
 | own (x:Addr)
 | xd (fs:List (Str×V))
 | met (f x:Addr)
 | rng (lo hi:Int)
 | frz (o:Obj) (u:HO)
 | tbl (ps:Array Value)
 | ext (φ:Heap->Prop)
noncomputable abbrev Hp:=Addr->Option HO
noncomputable def upd (H:Hp) (a:Addr) (o:HO):Hp:=fun b=>if b=a then some o else H b
theorem G7{H:Hp}{a:Addr}{o:HO}:upd H a o a=some o:=by unfold upd;rw[if_pos rfl]
theorem J0{H:Hp}{a b:Addr}{o:HO}(h:b≠a):upd H a o b=H b:=by unfold upd;rw[if_neg h]
theorem b2q{H:Hp}{a:Addr}{o u:HO}:upd (upd H a o) a u=upd H a u:=by
 funext b;unfold upd;split<;>rfl
theorem E9{H:Hp}{a b:Addr}{o u:HO}(h:H a=some o)(h':H b=some u)(d:o≠u):a≠b:=by
 intro e;subst e;rw[h]at h';exact d (Option.some.inj h')
theorem J3{H:Hp}{a b:Addr}{o:HO}(h:H a=some o)(h':H b=none):a≠b:=by
 intro e;subst e;rw[h]at h';cases h'
section
variable(P:Program)(w:World)
noncomputable def Z4 (H:Hp) (h:Heap) (a:Addr):HO->Prop
 | .lst xs=>xs.length<=sizeLine/\∃(its:List Value)(n:Nat),W0 xs its/\h.get? a=some {cls:= .type "list",data:= .seq its.toArray n}
 | .tup xs=>xs.length<=sizeLine/\∃its:List Value,W0 xs its/\IsTup h a its.toArray
 | .dK kvs=>kvs.length<=sizeLine/\(a==sysModules)=false/\∃vs,KV kvs vs/\h.DictOf (E8 P w) a vs
 | .dT kvs=>kvs.length<=sizeLine/\(a==sysModules)=false/\∃xs:List (List Key×Addr×Value),
   Paired (fun(p:List Key×V)(q:List Key×Addr×Value)=>p.1=q.1/\H q.2.1=some (.tup (p.1.map kV))/\W7 p.2 q.2.2) kvs xs/\
   ∃o es ep,h.get? a=some o/\o.ExactDict/\o.data= .dict es ep/\es.toList=xs.map (entryOfKey (tupleKind (E8 P w)))/\(xs.map (·.1)).Nodup
 | .set S n=>h.SetOf (intKind P w) a S n
 | .ins C dx fs=>H dx=some (.own a)/\fs.length<=1000/\dx≠a/\h.get? a=some (W.instObj C dx)/\
   ∃mA,h.Ns1 dx mA/\(∀f,a2D (fs.lookup f) (mA f))/\PySem.Within mA (fs.map (·.1))
 | .own _=>∃o,h.get? a=some o
 | .xd fs=>∃mA,h.Ns1 a mA/\∀f,a2D (fs.lookup f) (mA f)
 | .rng lo hi=>∃t u v,h.get? a=some {cls:= .type "range",data:= .fields #[.int lo t,.int hi u,.int 1 v]}
 | .frz o u=>h.get? a=some o/\Z4 H h a u
 | .tbl ps=>h.get? a=some {cls:= .none,data:= .fields ps}
 | .met f x=>h.get? a=some (W.methodObj (.ref f) (.ref x))
 | .ext φ=>φ h/\(∃o,h.get? a=some o)/\∀h1 h2:Heap,φ h1->(∀o,h1.get? a=some o->h2.get? a=some o)->φ h2
noncomputable def HOk (H:Hp) (h:Heap):Prop:=∀a o,H a=some o->Z4 P w H h a o
end
section
variable{P:Program}{w:World}{H H':Hp}{h h':Heap}{a:Addr}{o:HO}
theorem Z4.lt(x:Z4 P w H h a o):a < h.objs.size:=by
 cases o with
 | lst xs=>obtain⟨_,_,_,_,e⟩:=x;exact AJ e
 | tup xs=>obtain⟨_,_,_,p⟩:=x;exact p.lt
 | dK kvs=>obtain⟨_,_,_,_,o,_,_,e,_⟩:=x;exact AJ e
 | dT kvs=>obtain⟨_,_,_,_,o,_,_,e,_⟩:=x;exact AJ e
 | set S n=>obtain⟨o,_,_,_,e,_⟩:=x;exact AJ e
 | ins C dx fs=>obtain⟨_,_,_,e,_⟩:=x;exact AJ e
 | own y=>obtain⟨_,e⟩:=x;exact AJ e
 | xd fs=>obtain⟨_,⟨_,_,_,e,_⟩,_⟩:=x;exact AJ e
 | rng lo hi=>obtain⟨_,_,_,e⟩:=x;exact AJ e
 | frz ob u=>obtain⟨e,_⟩:=x;exact AJ e
 | tbl ps=>exact AJ (show h.get? a=some _ from x)
 | met f y=>exact AJ (show h.get? a=some _ from x)
 | ext φ=>obtain⟨_,⟨_,e⟩,_⟩:=x;exact AJ e
theorem Paired.mapP{α β:Type}{F G:α->β->Prop}:∀{l₁:List α}{l₂:List β},Paired F l₁ l₂->(∀a b,F a b->G a b)->Paired G l₁ l₂
 | _,_,.nil,_=> .nil
 | _,_,.cons r t,f=> .cons (f _ _ r) (Paired.mapP t f)
theorem Z4.stay(x:Z4 P w H h a o)(k:∀b u,(b=a\/H b=some (.own a))->h.get? b=some u->h'.get? b=some u)
  (ho:∀b,H b=some (.own a)->H' b=some (.own a))(ht:∀b xs,H b=some (.tup xs)->H' b=some (.tup xs)):Z4 P w H' h' a o:=by
 induction o with
 | lst xs=>obtain⟨z,its,n,r,e⟩:=x;exact⟨z,its,n,r,k _ _ (.inl rfl) e⟩
 | tup xs=>obtain⟨z,its,r,ob,e,c⟩:=x;exact⟨z,its,r,ob,k _ _ (.inl rfl) e,c⟩
 | dK kvs=>obtain⟨z,y,vs,r,ob,es,ep,e,c⟩:=x;exact⟨z,y,vs,r,ob,es,ep,k _ _ (.inl rfl) e,c⟩
 | dT kvs=>
  obtain⟨z,y,xs,r,ob,es,ep,e,c⟩:=x
  exact⟨z,y,xs,Paired.mapP r fun p q z=>⟨z.1,ht _ _ z.2.1,z.2.2⟩,ob,es,ep,k _ _ (.inl rfl) e,c⟩
 | set S n=>obtain⟨ob,es,ep,t,e,c⟩:=x;exact⟨ob,es,ep,t,k _ _ (.inl rfl) e,c⟩
 | ins C dx fs=>
  obtain⟨d,z,ne,e,mA,⟨od,es,ep,e2,c⟩,r⟩:=x
  exact⟨ho _ d,z,ne,k _ _ (.inl rfl) e,mA,⟨od,es,ep,k _ _ (.inr d) e2,c⟩,r⟩
 | own y=>obtain⟨ob,e⟩:=x;exact⟨ob,k _ _ (.inl rfl) e⟩
 | xd fs=>obtain⟨mA,⟨od,es,ep,e,c⟩,r⟩:=x;exact⟨mA,⟨od,es,ep,k _ _ (.inl rfl) e,c⟩,r⟩
 | rng lo hi=>obtain⟨t,u,v,e⟩:=x;exact⟨t,u,v,k _ _ (.inl rfl) e⟩
 | frz ob u ih=>obtain⟨e,q⟩:=x;exact⟨k _ _ (.inl rfl) e,ih q⟩
 | tbl ps=>
  have e:h.get? a=some {cls:= .none,data:= .fields ps}:=x
  show h'.get? a=some {cls:= .none,data:= .fields ps}
  exact k a _ (.inl rfl) e
 | met f y=>
  have e:h.get? a=some (W.methodObj (.ref f) (.ref y)):=x
  show h'.get? a=some (W.methodObj (.ref f) (.ref y))
  exact k a _ (.inl rfl) e
 | ext φ=>obtain⟨p,⟨o,e⟩,st⟩:=x;exact⟨st _ _ p fun o q=>k _ _ (.inl rfl) q,⟨o,k _ _ (.inl rfl) e⟩,st⟩
theorem HOk.lt(x:HOk P w H h)(e:H a=some o):a < h.objs.size:=(x a o e).lt
theorem HOk.fresh(x:HOk P w H h)(e:h.objs.size<=a):H a=none:=by
 cases q:H a with
 | none=>rfl
 | some u=>exact absurd (AQ (x.lt q) e) (Nat.lt_irrefl _)
theorem HOk.kept(x:HOk P w H h)(k:∀b u,h.get? b=some u->h'.get? b=some u):HOk P w H h':=fun a o e=>
 (x a o e).stay (fun b u _ q=>k b u q) (fun _ q=>q) fun _ _ q=>q
theorem HOk.laid(x:HOk P w H h)(k:∀b u,h.get? b=some u->h'.get? b=some u)(hp:h.objs.size<=a)(new:Z4 P w (upd H a o) h' a o):HOk P w (upd H a o) h':=fun b u e=>by
 have hn:=x.fresh hp
 by_cases hb:b=a
 ·subst hb;rw[G7]at e;cases e;exact new
 ·rw[J0 hb]at e
  exact(x b u e).stay (fun c v _ q=>k c v q) (fun c q=>by rw[J0 (J3 q hn)];exact q) fun c xs q=>by rw[J0 (J3 q hn)];exact q
end
noncomputable def Rd (H:Hp) (a:Addr) (u:HO):Prop:=H a=some u\/∃o,H a=some (.frz o u)
theorem Rd.ok{P:Program}{w:World}{H:Hp}{h:Heap}{a:Addr}{u:HO}(r:Rd H a u)(x:HOk P w H h):Z4 P w H h a u:=by
 rcases r with r | ⟨o,r⟩
 ·exact x a u r
 ·obtain⟨_,q⟩:=x a _ r
  exact q
noncomputable def Mut:Option HO->Prop
 | some (.lst _)=>True
 | some (.dK _)=>True
 | some (.dT _)=>True
 | some (.set _ _)=>True
 | some (.ins _ _ _)=>True
 | some (.ext _)=>True
 | _=>False
section
variable{P:Program}{w:World}{H:Hp}{h h':Heap}{x e:Addr}{o':HO}
theorem HOk.write(ok:HOk P w H h)(mu:Mut (H x))(he:e=x\/H e=some (.own x))(k:∀b u,b≠e->h.get? b=some u->h'.get? b=some u)(heo:∃u,h'.get? e=some u)
  (new:Z4 P w (upd H x o') h' x o'):HOk P w (upd H x o') h':=fun b u q=>by
 have nown:∀c y,H c=some (.own y)->c≠x:=fun c y r z=>by subst z;rw[r]at mu;exact mu
 have ntup:∀c xs,H c=some (.tup xs)->c≠x:=fun c xs r z=>by subst z;rw[r]at mu;exact mu
 by_cases hb:b=x
 ·subst hb;rw[G7]at q;cases q;exact new
 ·rw[J0 hb]at q
  by_cases hbe:b=e
  ·have q':H b=some (.own x):=by
    rcases he with z | z
    ·exact absurd (hbe.trans z) hb
    ·rw[hbe];exact z
   rw[q]at q';cases q'
   obtain⟨v,hv⟩:=heo
   exact⟨v,by rw[hbe];exact hv⟩
  ·refine(ok b u q).stay (fun c v hc r=>k c v ?_ r) (fun c r=>by rw[J0 (nown c b r)];exact r) fun c xs r=>by rw[J0 (ntup c xs r)];exact r
   rcases hc with rfl | hc
   ·exact hbe
   ·rintro rfl
    rcases he with z | z
    ·exact nown c b hc z
    ·rw[hc]at z;cases z;exact hb rfl
end
structure Un(fs ex:List Addr)(H H':Hp)(h h':Heap):Prop where
 keep:∀b o,h.get? b=some o->H b=none->b∉fs->b∉ex->h'.get? b=some o
 slot:∀b o,h.get? b=some o->H b=none->b∈fs->b∉ex->∃sl,h'.get? b=some {o with slots:=sl}
 free:∀b o,h.get? b=some o->H b=none->b∉ex->H' b=none
 there:∀b o,h.get? b=some o->b∉ex->∃o',h'.get? b=some o'
 tups:∀b xs,H b=some (.tup xs)->H' b=some (.tup xs)
 frzs:∀b o u,H b=some (.frz o u)->H' b=some (.frz o u)
 tbls:∀b ps,H b=some (.tbl ps)->∃more,H' b=some (.tbl (ps++more))
section
variable{fs fs' ex ex':List Addr}{H H1 H2:Hp}{h h1 h2 h':Heap}{a x e:Addr}{o:HO}
theorem Un.any(u:Un fs ex H H1 h h1){b:Addr}{ob:Obj}(q:h.get? b=some ob)(n:H b=none)(hx:b∉ex):∃sl,h1.get? b=some {ob with slots:=sl}:=by
 by_cases hb:b∈fs
 ·exact u.slot b ob q n hb hx
 ·exact⟨ob.slots,u.keep b ob q n hb hx⟩
theorem Un.kept(k:∀b u,h.get? b=some u->h'.get? b=some u):Un fs ex H H h h':=
 ⟨fun b ob q _ _ _=>k b ob q,fun b ob q _ _ _=>⟨ob.slots,k b ob q⟩,fun _ _ _ n _=>n,fun b ob q _=>⟨ob,k b ob q⟩,fun _ _ q=>q,fun _ _ _ q=>q,fun _ ps q=>⟨#[],by rw[q];simp⟩⟩
theorem Un.refl:Un fs ex H H h h:=Un.kept fun _ _ q=>q
theorem Un.laid(k:∀b u,h.get? b=some u->h'.get? b=some u)(hp:h.objs.size<=a)(hn:H a=none):Un fs ex H (upd H a o) h h' where
 keep:=fun b u q _ _ _=>k b u q
 slot:=fun b u q _ _ _=>⟨u.slots,k b u q⟩
 free:=fun b u q n _=>by rw[J0 (AS (AQ (AJ q) hp))];exact n
 there:=fun b u q _=>⟨u,k b u q⟩
 tups:=fun b xs q=>by rw[J0 (J3 q hn)];exact q
 frzs:=fun b u xs q=>by rw[J0 (J3 q hn)];exact q
 tbls:=fun b ps q=>⟨#[],by rw[J0 (J3 q hn),q];simp⟩
theorem Un.write(mu:Mut (H x))(he:e=x\/H e=some (.own x))(k:∀b u,b≠e->h.get? b=some u->h'.get? b=some u)(heo:∃u,h'.get? e=some u):Un fs ex H (upd H x o) h h':=by
 have hx:∀b,H b=none->b≠x:=fun b n z=>by subst z;rw[n]at mu;exact mu
 have hb:∀b,H b=none->b≠e:=fun b n z=>by
  subst z
  rcases he with r | r
  ·exact hx b n r
  ·rw[n]at r;cases r
 have hm:∀b u,H b=some u->¬Mut (some u)->b≠x:=fun b u q nm z=>by subst z;rw[q]at mu;exact nm mu
 refine⟨fun b u q n _ _=>k b u (hb b n) q,fun b u q n _ _=>⟨u.slots,k b u (hb b n) q⟩,fun b u q n _=>by rw[J0 (hx b n)];exact n,fun b u q _=>?_,
  fun b xs q=>by rw[J0 (hm b _ q fun z=>z)];exact q,fun b u xs q=>by rw[J0 (hm b _ q fun z=>z)];exact q,fun b ps q=>⟨#[],by rw[J0 (hm b _ q fun z=>z),q];simp⟩⟩
 by_cases hbe:b=e
 ·subst hbe;exact heo
 ·exact⟨u,k b u hbe q⟩
end
noncomputable def trk (h:Heap) (H:Hp):List Addr:=(List.range h.objs.size).filter fun a=>(H a).isSome
noncomputable def a6Y (h:Heap) (H:Hp):Heap:=W.hideAll h (trk h H)
theorem b0f(h:Heap)(H:Hp):(a6Y h H).objs.size=h.objs.size:=W.hideAll_size _ _
theorem b1A{h:Heap}{H:Hp}{b:Addr}{o:Obj}(e:h.get? b=some o)(n:H b=none):(a6Y h H).get? b=some o:=
 W.hideAll_get _ e fun hm=>by
  have q:(H b).isSome=true:=(List.mem_filter.mp hm).2
  rw[n]at q;simp at q
theorem b3j{h:Heap}{H:Hp}{b:Addr}{o:Obj}(e:(a6Y h H).get? b=some o):h.get? b=some o/\H b=none:=by
 have e':h.get? b=some o:=W.of_hideAll (trk h H) e
 refine⟨e',?_⟩
 cases q:H b with
 | none=>rfl
 | some x=>
  have hm:b∈trk h H:=List.mem_filter.mpr ⟨List.mem_range.mpr (AJ e'),by simp[q]⟩
  have z:(a6Y h H).get? b=none:=W.hideAll_none (trk h H) hm
  rw[z]at e;cases e
end L2
namespace L2
open PySem PySem.Spec PyProof.Rows
structure Mod(K:W.Frag)(mg:Str->Option Value)(base:Heap):Prop where
 kin:K.In base
 glob:base.Ns mainGlobals mg
 blt:∃mb,base.Ns builtinsNs mb/\∀x:Str,x≠ "__name__" ->mb x=bootBuiltins x
 nolimit:base.NoLimit
structure Cx where
 prog:Program
 w:World
 K:W.Frag
 mg:Str->Option Value
 base:Heap
 A:Around
 N:List Str
 s₀:Shared
 H₀:Hp
 env:Env
 outer:List Env
 stack:List Env
 ex:List Addr
 fn:Str->Bool
 calm:Bool
 pn:List (Addr×Obj)
 xe:Value->Shared->Prop
noncomputable def frs (l:List Env):List Addr:=l.filterMap (·.frame)
noncomputable abbrev Cx.fs (X:Cx):List Addr:=frs X.outer
noncomputable def Vis (sc:Scope) (x:Str):Prop:=sc.names.lookup x=some .local\/sc.names.lookup x=some .cell\/sc.names.lookup x=some .free
noncomputable def Loc (sc:Scope) (x:Str):Prop:=sc.names.lookup x=some .local\/sc.names.lookup x=some .cell
noncomputable def b5t (env:Env) (h:Heap) (m:Str->Option Value) (x:Str) (u:Value):Prop:=
 (env.kindOf x=some .local/\m x=some u)\/((env.kindOf x=some .cell\/env.kindOf x=some .free)/\∃c,env.cells.lookup x=some c/\h.IsCell c (some u))
structure Cx.Ok(X:Cx):Prop where
 mod:Mod X.K X.mg X.base
 kind:X.env.scope.kind= .function
 glob:X.env.globals=mainGlobals
 blt:X.env.builtins=builtinsNs
 above:X.s₀.heap.objs.size<=X.env.locals
 inj:∀x y c,X.env.cells.lookup x=some c->X.env.cells.lookup y=some c->x=y
 has:∀x,(X.env.kindOf x=some .cell\/X.env.kindOf x=some .free)->∃c,X.env.cells.lookup x=some c
 cab:∀x c,X.fn x=true->X.env.cells.lookup x=some c->X.s₀.heap.objs.size<=c
 hd:X.calm=true->X.A.handled=none
 frames:X.A.frames=some X.stack
 stk:X.stack=X.outer\/(X.stack=X.env::X.outer/\X.env.frame=some X.env.locals)
 exf:∀b∈X.ex,b≠X.env.locals/\∀x c,X.env.cells.lookup x=some c->c≠b
 bs:∀b o,X.base.get? b=some o->X.s₀.heap.get? b=some o/\X.H₀ b=none
 bsz:X.base.objs.size<=X.s₀.heap.objs.size
 noex:∀b o,X.base.get? b=some o->b∉X.ex
 exfs:∀b∈X.ex,b∉X.fs
 funs:X.s₀.heap.FunFrames X.base X.outer
 frf:∀b∈X.fs,X.H₀ b=none
structure Inv(X:Cx)(pins:List (Addr×Obj))(σ:List (Option V))(H:Hp)(s:Shared):Prop where
 ok:X.Ok
 os:s.os=X.s₀.os
 bare:AllBare s.gens
 base:Un X.fs X.ex X.H₀ H X.s₀.heap s.heap
 loc:∃m,s.heap.Ns X.env.locals m/\∀(i:Nat)(x:Str)(v:V),X.N[i]?=some x->σ[i]?=some (some v)->Vis X.env.scope x->∃u,W7 v u/\b5t X.env s.heap m x u
 cell:∀x c,X.env.cells.lookup x=some c->∃v,s.heap.IsCell c v
 free:H X.env.locals=none
 freeC:∀x c,X.env.cells.lookup x=some c->H c=none
 pin:∀p∈X.pn++pins,s.heap.get? p.1=some p.2/\H p.1=none/\p.1≠X.env.locals/\p.1∉X.fs/\∀v,p.2.data≠ .cell v
 hok:HOk X.prog X.w H s.heap
 len:σ.length=X.N.length
section
variable{X:Cx}{pins:List (Addr×Obj)}{σ:List (Option V)}{H H':Hp}{s:Shared}{h':Heap}
theorem Cx.Ok.nofr(ok:X.Ok){b:Addr}{o:Obj}(e:X.base.get? b=some o):b∉X.fs:=fun hb=>by
 have:=(ok.funs.mem hb).1
 rw[e]at this;cases this
theorem Inv.bs(I:Inv X pins σ H s):∀b o,X.base.get? b=some o->s.heap.get? b=some o/\H b=none:=fun b o e=>
 ⟨I.base.keep b o (I.ok.bs b o e).1 (I.ok.bs b o e).2 (I.ok.nofr e) (I.ok.noex b o e),I.base.free b o (I.ok.bs b o e).1 (I.ok.bs b o e).2 (I.ok.noex b o e)⟩
theorem Inv.bk(I:Inv X pins σ H s):∀b o,X.base.get? b=some o->s.heap.get? b=some o:=fun b o e=>(I.bs b o e).1
theorem Inv.mod(I:Inv X pins σ H s):Mod X.K X.mg X.base:=I.ok.mod
theorem Inv.kIn(I:Inv X pins σ H s):X.K.In s.heap:=I.ok.mod.kin.keeps I.bk
theorem Inv.lt(I:Inv X pins σ H s):X.env.locals < s.heap.objs.size:=let⟨_,hn,_⟩:=I.loc;hn.lt
theorem Inv.sz(I:Inv X pins σ H s):X.s₀.heap.objs.size<=s.heap.objs.size:=Nat.le_trans I.ok.above (Nat.le_of_lt I.lt)
theorem Inv.nofs(I:Inv X pins σ H s){a:Addr}(h:s.heap.objs.size<=a):a∉X.fs:=fun hb=>by
 obtain⟨_,o,ho,_⟩:=I.ok.funs.mem hb
 exact absurd (AQ (AJ ho) (Nat.le_trans I.sz h)) (Nat.lt_irrefl _)
theorem Inv.cne(I:Inv X pins σ H s):∀x c,X.env.cells.lookup x=some c->c≠X.env.locals:=fun x c e z=>by
 obtain⟨v,o,ho,hd⟩:=I.cell x c e
 obtain⟨m,⟨o',es,ep,ho',hd',_⟩,_⟩:=I.loc
 rw[z,ho']at ho;cases ho;rw[hd']at hd;cases hd
theorem Inv.funs(I:Inv X pins σ H s):s.heap.FunFrames X.base X.outer:=by
 have all:∀(l:List Env),(∀b∈frs l,b∈X.fs)->X.s₀.heap.FunFrames X.base l->s.heap.FunFrames X.base l:=by
  intro l
  induction l with
  | nil=>intro _ _;trivial
  | cons env r ih=>
   intro hs hl
   obtain⟨hk,⟨L,o,hf,hn,ho,hd⟩,hr⟩:=hl
   have hL:L∈X.fs:=hs L (by unfold frs;rw[List.filterMap_cons,hf];exact AL)
   obtain⟨sl,e⟩:=I.base.slot L o ho (I.ok.frf L hL) hL fun z=>I.ok.exfs L z hL
   exact⟨hk,⟨L,_,hf,hn,e,hd⟩,ih (fun b hb=>hs b (by unfold frs;rw[List.filterMap_cons,hf];exact AN _ hb)) hr⟩
 exact all X.outer (fun _ hb=>hb) I.ok.funs
theorem Inv.stack(I:Inv X pins σ H s):s.heap.FunFrames X.base X.stack:=by
 rcases I.ok.stk with e | ⟨e,hf⟩
 ·rw[e];exact I.funs
 ·rw[e]
  obtain⟨m,hn,_⟩:=I.loc
  refine .cons (by rw[I.ok.kind];decide) hf hn ?_ I.funs
  exact Heap.get?_none_of_le (Nat.le_trans I.ok.bsz I.ok.above)
theorem Inv.stkSub(I:Inv X pins σ H s):∀b∈frs X.stack,b∈X.env.locals::X.fs:=fun b hb=>by
 rcases I.ok.stk with e | ⟨e,hf⟩
 ·rw[e]at hb;exact AN _ hb
 ·rw[e]at hb
  unfold frs at hb
  rw[List.filterMap_cons,hf]at hb
  exact hb
theorem Inv.stkFree(I:Inv X pins σ H s):∀b∈frs X.stack,H b=none:=fun b hb=>by
 rcases List.mem_cons.mp (I.stkSub b hb)with e | hb
 ·rw[e];exact I.free
 ·obtain⟨_,o,ho,_⟩:=I.ok.funs.mem hb
  exact I.base.free b o ho (I.ok.frf b hb) fun z=>I.ok.exfs b z hb
theorem Inv.step{g':Array GenState}{t':Nat}{d':Drawn}{ch:List Addr}(I:Inv X pins σ H s)
  (hch:∀b∈ch,(b∈X.ex\/X.s₀.heap.objs.size<=b)/\b≠X.env.locals/\(∀x c,X.env.cells.lookup x=some c->c≠b)/\∀p∈X.pn++pins,p.1≠b)
  (keep:∀b o,b≠X.env.locals->b∉X.fs->b∉ch->s.heap.get? b=some o->H b=none->h'.get? b=some o)
  (slot:∀b o,b≠X.env.locals->b∈X.fs->b∉ch->s.heap.get? b=some o->H b=none->∃sl,h'.get? b=some {o with slots:=sl})(free:∀b o,b∉ch->s.heap.get? b=some o->H b=none->H' b=none)
  (there:∀b o,b∉ch->s.heap.get? b=some o->∃o',h'.get? b=some o')
  (tups:∀b xs,H b=some (.tup xs)->H' b=some (.tup xs))(frzs:∀b o u,H b=some (.frz o u)->H' b=some (.frz o u))(tbls:∀b ps,H b=some (.tbl ps)->∃more,H' b=some (.tbl (ps++more)))
  (ns:∀m,s.heap.Ns X.env.locals m->h'.Ns X.env.locals m)(hok:HOk X.prog X.w H' h')(hg:AllBare g'):
  Inv X pins σ H' {s with heap:=h',gens:=g',drawn:=d',toks:=t'}:=by
 have neL:∀b o,X.s₀.heap.get? b=some o->b≠X.env.locals:=fun b o e=>AS (AQ (AJ e) I.ok.above)
 have neC:∀b o,X.s₀.heap.get? b=some o->b∉X.ex->b∉ch:=fun b o e hx hb=>by
  rcases(hch b hb).1 with z | z
  ·exact hx z
  ·exact absurd (AQ (AJ e) z) (Nat.lt_irrefl _)
 have cellK:∀x c,X.env.cells.lookup x=some c->∀v,s.heap.IsCell c v->h'.IsCell c v:=fun x c e v⟨o,ho,hd⟩=>by
  have nch:c∉ch:=fun z=>(hch c z).2.2.1 x c e rfl
  by_cases hc:c∈X.fs
  ·obtain⟨sl,q⟩:=slot c o (I.cne x c e) hc nch ho (I.freeC x c e)
   exact⟨_,q,hd⟩
  ·exact⟨o,keep c o (I.cne x c e) hc nch ho (I.freeC x c e),hd⟩
 refine⟨I.ok,I.os,hg,⟨fun b o e n hb hx=>?_,fun b o e n hb hx=>?_,fun b o e n hx=>?_,fun b o e hx=>?_,fun b xs e=>tups b xs (I.base.tups b xs e),fun b o xs e=>frzs b o xs (I.base.frzs b o xs e),fun b ps e=>?_⟩,?_,fun x c e=>?_,?_,fun x c e=>?_,fun p hp=>?_,hok,I.len⟩
 ·exact keep b o (neL b o e) hb (neC b o e hx) (I.base.keep b o e n hb hx) (I.base.free b o e n hx)
 ·obtain⟨sl,e1⟩:=I.base.slot b o e n hb hx
  obtain⟨sl',e2⟩:=slot b _ (neL b o e) hb (neC b o e hx) e1 (I.base.free b o e n hx)
  exact⟨sl',e2⟩
 ·obtain⟨o',e1⟩:=I.base.there b o e hx
  exact free b o' (neC b o e hx) e1 (I.base.free b o e n hx)
 ·obtain⟨o',e1⟩:=I.base.there b o e hx
  exact there b o' (neC b o e hx) e1
 ·obtain⟨m1,e1⟩:=I.base.tbls b ps e
  obtain⟨m2,e2⟩:=tbls b _ e1
  exact⟨m1++m2,by rw[e2,Array.append_assoc]⟩
 ·obtain⟨m,hn,hl⟩:=I.loc
  refine⟨m,ns m hn,fun i x v e1 e2 e3=>?_⟩
  obtain⟨u,r,l⟩:=hl i x v e1 e2 e3
  refine⟨u,r,?_⟩
  rcases l with l | ⟨k,c,e,z⟩
  ·exact .inl l
  ·exact .inr ⟨k,c,e,cellK x c e _ z⟩
 ·obtain⟨v,z⟩:=I.cell x c e
  exact⟨v,cellK x c e v z⟩
 ·obtain⟨m,⟨o,_,_,ho,_⟩,_⟩:=I.loc
  exact free _ o (fun z=>(hch _ z).2.1 rfl) ho I.free
 ·obtain⟨v,o,ho,hd⟩:=I.cell x c e
  exact free c o (fun z=>(hch c z).2.2.1 x c e rfl) ho (I.freeC x c e)
 ·obtain⟨e,n,ne,nf,d⟩:=I.pin p hp
  have nch:p.1∉ch:=fun z=>(hch p.1 z).2.2.2 p hp rfl
  exact⟨keep p.1 p.2 ne nf nch e n,free p.1 p.2 nch e n,ne,nf,d⟩
theorem Inv.un{t':Nat}(I:Inv X pins σ H s)(u:Un X.fs [] H H' s.heap h')(hok:HOk X.prog X.w H' h'):Inv X pins σ H' {s with heap:=h',toks:=t'}:=by
 obtain⟨m,⟨o,es,ep,ho,r⟩,_⟩:=id I.loc
 obtain⟨sl,hL⟩:=u.any ho I.free (by simp)
 exact I.step (g':=s.gens) (d':=s.drawn) (ch:=[]) (fun _ z=>nomatch z) (fun b o _ hb _ e n=>u.keep b o e n hb (by simp)) (fun b o _ hb _ e n=>u.slot b o e n hb (by simp)) (fun b o _ e n=>u.free b o e n (by simp)) (fun b o _ e=>u.there b o e (by simp)) u.tups u.frzs u.tbls (fun m' hm=>by
  obtain⟨o',es',ep',ho',r'⟩:=hm
  rw[ho]at ho';cases ho'
  exact⟨_,es',ep',hL,r'⟩) hok I.bare
theorem Inv.call{g':Array GenState}{t':Nat}{d':Drawn}{ch:List Addr}(I:Inv X pins σ H s)(u:Un (frs X.stack) ch H H' s.heap h')(hok:HOk X.prog X.w H' h')(hg:AllBare g')
  (hch:∀b∈ch,(b∈X.ex\/X.s₀.heap.objs.size<=b)/\b≠X.env.locals/\(∀x c,X.env.cells.lookup x=some c->c≠b)/\∀p∈X.pn++pins,p.1≠b):
  Inv X pins σ H' {s with heap:=h',gens:=g',drawn:=d',toks:=t'}:=by
 obtain⟨m,⟨o,es,ep,ho,r⟩,_⟩:=id I.loc
 obtain⟨sl,hL⟩:=u.any ho I.free fun z=>(hch _ z).2.1 rfl
 exact I.step (ch:=ch) hch (fun b o hL hb hc e n=>u.keep b o e n (fun z=>(List.mem_cons.mp (I.stkSub b z)).elim hL hb) hc) (fun b o _ _ hc e n=>u.any e n hc) (fun b o hc e n=>u.free b o e n hc) (fun b o hc e=>u.there b o e hc) u.tups u.frzs u.tbls (fun m' hm=>by
  obtain⟨o',es',ep',ho',r'⟩:=hm
  rw[ho]at ho';cases ho'
  exact⟨_,es',ep',hL,r'⟩) hok hg
theorem Inv.turned{t':Nat}{it:Addr}(I:Inv X pins σ H s)(k:∀b o,b≠it->s.heap.get? b=some o->h'.get? b=some o)(hn:H it=none)(hL:it≠X.env.locals)
  (h1:it∈X.ex\/X.s₀.heap.objs.size<=it)(h2:∀x c,X.env.cells.lookup x=some c->c≠it)(h3:∀p∈X.pn++pins,p.1≠it):Inv X pins σ H {s with heap:=h',toks:=t'}:=by
 have nit:∀b u,H b=some u->b≠it:=fun b u e z=>by rw[z,hn]at e;cases e
 refine I.step (g':=s.gens) (d':=s.drawn) (ch:=[it]) (fun b hb=>?_) (fun b o _ _ hc e _=>k b o (fun z=>hc (by simp[z])) e) (fun b o _ _ hc e _=>⟨o.slots,k b o (fun z=>hc (by simp[z])) e⟩) (fun _ _ _ _ n=>n)
  (fun b o hc e=>⟨o,k b o (fun z=>hc (by simp[z])) e⟩) (fun _ _ e=>e) (fun _ _ _ e=>e) (fun b ps e=>⟨#[],by rw[e];simp⟩) (fun m hm=>?_) (fun b u e=>?_) I.bare
 ·have e:b=it:=by simpa using hb
  subst e
  exact⟨h1,hL,h2,h3⟩
 ·obtain⟨o,es,ep,ho,r⟩:=hm
  exact⟨o,es,ep,k _ o (Ne.symm hL) ho,r⟩
 ·refine(I.hok b u e).stay (fun c v hc q=>k c v ?_ q) (fun _ q=>q) fun _ _ q=>q
  rcases hc with z | z
  ·rw[z];exact nit b u e
  ·exact nit c _ z
theorem Inv.tok(I:Inv X pins σ H s)(t:Nat):Inv X pins σ H {s with toks:=t}:=I.un (h':=s.heap) (t':=t) Un.refl I.hok
theorem Inv.kept{t':Nat}(I:Inv X pins σ H s)(k:∀b u,s.heap.get? b=some u->h'.get? b=some u):Inv X pins σ H {s with heap:=h',toks:=t'}:=I.un (Un.kept k) (I.hok.kept k)
theorem Inv.laid{a:Addr}{o:HO}{t':Nat}(I:Inv X pins σ H s)(k:∀b u,s.heap.get? b=some u->h'.get? b=some u)(hp:s.heap.objs.size<=a)(new:Z4 X.prog X.w (upd H a o) h' a o):
  Inv X pins σ (upd H a o) {s with heap:=h',toks:=t'}:=I.un (Un.laid k hp (I.hok.fresh hp)) (I.hok.laid k hp new)
theorem Inv.write{x e:Addr}{o:HO}{t':Nat}(I:Inv X pins σ H s)(mu:Mut (H x))(he:e=x\/H e=some (.own x))(k:∀b u,b≠e->s.heap.get? b=some u->h'.get? b=some u)(heo:∃u,h'.get? e=some u)
  (new:Z4 X.prog X.w (upd H x o) h' x o):Inv X pins σ (upd H x o) {s with heap:=h',toks:=t'}:=I.un (Un.write mu he k heo) (I.hok.write mu he k heo new)
theorem Inv.pins_of{pins':List (Addr×Obj)}(I:Inv X pins σ H s)(h:∀p∈pins',s.heap.get? p.1=some p.2/\H p.1=none/\p.1≠X.env.locals/\p.1∉X.fs/\∀v,p.2.data≠ .cell v):Inv X pins' σ H s:=
 ⟨I.ok,I.os,I.bare,I.base,I.loc,I.cell,I.free,I.freeC,fun p hp=>(List.mem_append.mp hp).elim (fun z=>I.pin p (List.mem_append_left _ z)) (h p),I.hok,I.len⟩
theorem a7h{N:List Str}(hN:N.Nodup){i j:Nat}{x:Str}(a:N[i]?=some x)(b:N[j]?=some x):i=j:=by
 obtain⟨h1,e1⟩:=AO.mp a
 obtain⟨h2,e2⟩:=AO.mp b
 exact(List.getElem_inj hN).mp (e1.trans e2.symm)
theorem a5Q{M:Model}{A:Around}{E:Value->Shared->Prop}{i:Nat}{x:Str}{v:V}{u:Value}{Q:Unit->Shared->Prop}(I:Inv X pins σ H s)(hN:X.N.Nodup)(hi:X.N[i]?=some x)(hx:Loc X.env.scope x)(r:W7 v u)
  (h:∀s',Inv X pins (σ.set i (some v)) H s'->(∃a,Heap.SameBut a s.heap s'.heap/\(a=X.env.locals\/X.env.cells.lookup x=some a))->Q () s')(hf:X.fn x=true\/X.env.scope.names.lookup x=some .local:=by first | exact .inl rfl | exact .inr rfl | assumption):wpAny M A (storeName X.env x u) Q E s:=by
 obtain⟨m,hn,hl⟩:=id I.loc
 have hcls:(X.env.scope.kind== .class || (X.env.scope.kind== .module && X.env.locals != X.env.globals))=false:=by rw[I.ok.kind];rfl
 have hiσ:i < σ.length:=by rw[I.len];exact(AO.mp hi).1
 have cne:=I.cne
 have tracked:∀{a:Addr}{h':Heap},(∃o,s.heap.get? a=some o/\H a=none)->Heap.SameBut a s.heap h'->HOk X.prog X.w H h':=fun{a h'}ha hs b ob e=>by
  obtain⟨_,_,hfree⟩:=ha
  refine(I.hok b ob e).stay (fun c w' hc q=>(hs.2 c ?_).trans q) (fun _ q=>q) fun _ _ q=>q
  rintro rfl
  rcases hc with rfl | hc
  ·rw[hfree]at e;cases e
  ·rw[hfree]at hc;cases hc
 rcases hx with hk | hk
 ·refine wpAny_storeName_local hk hn (fun h' hn' hs=>?_) hcls
  obtain⟨oL,_,_,hoL,_⟩:=id hn
  refine h _ ⟨I.ok,I.os,I.bare,⟨fun b o e n hb hx=>?_,fun b o e n hb hx=>?_,I.base.free,fun b o e hx=>?_,I.base.tups,I.base.frzs,I.base.tbls⟩,⟨_,hn',fun j y v' e1 e2 e3=>?_⟩,fun y c e=>?_,I.free,I.freeC,fun p hp=>?_,tracked ⟨oL,hoL,I.free⟩ hs,by simpa using I.len⟩ ⟨_,hs,.inl rfl⟩
  ·exact(hs.2 b (AS (AQ (AJ e) I.ok.above))).trans (I.base.keep b o e n hb hx)
  ·obtain⟨sl,e1⟩:=I.base.slot b o e n hb hx
   exact⟨sl,(hs.2 b (AS (AQ (AJ e) I.ok.above))).trans e1⟩
  ·obtain⟨o',e1⟩:=I.base.there b o e hx
   exact⟨o',(hs.2 b (AS (AQ (AJ e) I.ok.above))).trans e1⟩
  ·by_cases hj:j=i
   ·subst hj
    rw[hi]at e1;cases e1
    rw[List.getElem?_set_self hiσ]at e2
    cases e2
    exact⟨u,r,.inl ⟨hk,by simp⟩⟩
   ·rw[List.getElem?_set_ne (Ne.symm hj)]at e2
    obtain⟨u',r',q⟩:=hl j y v' e1 e2 e3
    refine⟨u',r',?_⟩
    rcases q with⟨k,e⟩ | ⟨k,c,e,z⟩
    ·refine .inl ⟨k,?_⟩
     have:y≠x:=fun e=>hj (a7h hN e1 (e▸hi))
     simp[this,e]
    ·exact .inr ⟨k,c,e,z.sameBut hs (cne y c e)⟩
  ·obtain⟨w',z⟩:=I.cell y c e
   exact⟨w',z.sameBut hs (cne y c e)⟩
  ·obtain⟨e,n,ne,nf,d⟩:=I.pin p hp
   exact⟨(hs.2 p.1 ne).trans e,n,ne,nf,d⟩
 ·have hfn:X.fn x=true:=by
   rcases hf with z | z
   ·exact z
   ·rw[z]at hk;cases hk
  obtain⟨c,hc⟩:=I.ok.has x (.inl hk)
  obtain⟨w',z⟩:=I.cell x c hc
  refine wpAny_storeName_cell I.ok.kind hk hc z (fun h' hc' hs=>?_)
  obtain⟨oc,hoc,hocd⟩:=id z
  refine h {s with heap:=h'} ⟨I.ok,I.os,I.bare,⟨fun b o e n hb hx=>?_,fun b o e n hb hx=>?_,I.base.free,fun b o e hx=>?_,I.base.tups,I.base.frzs,I.base.tbls⟩,⟨m,hn.sameBut hs (Ne.symm (cne x c hc)),fun j y v' e1 e2 e3=>?_⟩,fun y c' e=>?_,I.free,I.freeC,fun p hp=>?_,tracked ⟨oc,hoc,I.freeC x c hc⟩ hs,by simpa using I.len⟩ ⟨c,hs,.inr hc⟩
  ·exact(hs.2 b (AS (AQ (AJ e) (I.ok.cab x c hfn hc)))).trans (I.base.keep b o e n hb hx)
  ·obtain⟨sl,e1⟩:=I.base.slot b o e n hb hx
   exact⟨sl,(hs.2 b (AS (AQ (AJ e) (I.ok.cab x c hfn hc)))).trans e1⟩
  ·obtain⟨o',e1⟩:=I.base.there b o e hx
   exact⟨o',(hs.2 b (AS (AQ (AJ e) (I.ok.cab x c hfn hc)))).trans e1⟩
  ·by_cases hj:j=i
   ·subst hj
    rw[hi]at e1;cases e1
    rw[List.getElem?_set_self hiσ]at e2
    cases e2
    exact⟨u,r,.inr ⟨.inl hk,c,hc,hc'⟩⟩
   ·rw[List.getElem?_set_ne (Ne.symm hj)]at e2
    obtain⟨u',r',q⟩:=hl j y v' e1 e2 e3
    refine⟨u',r',?_⟩
    rcases q with q | ⟨k,c',e,z'⟩
    ·exact .inl q
    ·refine .inr ⟨k,c',e,z'.sameBut hs ?_⟩
     rintro rfl
     exact hj (a7h hN e1 (I.ok.inj _ _ _ e hc▸hi))
  ·by_cases hcc:c'=c
   ·subst hcc;exact⟨_,hc'⟩
   ·obtain⟨w2,z2⟩:=I.cell y c' e
    exact⟨w2,z2.sameBut hs hcc⟩
  ·obtain⟨e,n,ne,nf,d⟩:=I.pin p hp
   refine⟨(hs.2 p.1 ?_).trans e,n,ne,nf,d⟩
   intro q
   rw[q,hoc]at e
   have q':oc=p.2:=Option.some.inj e
   exact d w' (by rw[<-q'];exact hocd)
theorem a4P{M:Model}{A:Around}{E:Value->Shared->Prop}{i:Nat}{x:Str}{v:V}{u:Value}{Q:Unit->Shared->Prop}(I:Inv X pins σ H s)(hN:X.N.Nodup)(hi:X.N[i]?=some x)(hx:Loc X.env.scope x)(r:W7 v u)
  (h:∀s',Inv X pins (σ.set i (some v)) H s'->Q () s')(hf:X.fn x=true\/X.env.scope.names.lookup x=some .local:=by first | exact .inl rfl | exact .inr rfl | assumption):wpAny M A (storeName X.env x u) Q E s:=
 a5Q I hN hi hx r (fun s' I' _=>h s' I') hf
theorem Inv.call'{s':Shared}{ch:List Addr}(I:Inv X pins σ H s)(ho:s'.os=s.os)(u:Un (frs X.stack) ch H H' s.heap s'.heap)(hok:HOk X.prog X.w H' s'.heap)(hg:AllBare s'.gens)
  (hch:∀b∈ch,(b∈X.ex\/X.s₀.heap.objs.size<=b)/\b≠X.env.locals/\(∀x c,X.env.cells.lookup x=some c->c≠b)/\∀p∈X.pn++pins,p.1≠b):Inv X pins σ H' s':=by
 obtain⟨h',g',d',t',o'⟩:=s'
 have e:o'=s.os:=ho
 subst e
 exact I.call (g':=g') (t':=t') (d':=d') u hok hg hch
end
noncomputable abbrev XK:=Value->Option Addr->Hp->Prop
noncomputable abbrev St:=List (Option V)
noncomputable abbrev VK:=V->Hp->Prop
noncomputable abbrev TE:=St->Hp->VK->Prop
noncomputable abbrev TT:=St->Hp->(Bool->Hp->Prop)->Prop
noncomputable abbrev TA:=St->Hp->(List V->Hp->Prop)->Prop
structure a1T where
 nx:St->Hp->Prop
 rt:VK
 bk:St->Hp->Prop:=fun _ _=>False
 ct:St->Hp->Prop:=fun _ _=>False
noncomputable abbrev TS:=a1T->St->Hp->Prop
noncomputable def EP (X:Cx) (pins:List (Addr×Obj)) (σ:St) (Q:VK) (u:Value) (s':Shared):Prop:=∃v H',Inv X pins σ H' s'/\W7 v u/\Q v H'
noncomputable def TP (X:Cx) (pins:List (Addr×Obj)) (σ:St) (Q:Bool->Hp->Prop) (b:Bool) (s':Shared):Prop:=∃H',Inv X pins σ H' s'/\Q b H'
noncomputable def AP (X:Cx) (pins:List (Addr×Obj)) (σ:St) (Q:List V->Hp->Prop) (us:List Value) (s':Shared):Prop:=∃vs H',Inv X pins σ H' s'/\W0 vs us/\Q vs H'
noncomputable def SP (X:Cx) (pins:List (Addr×Obj)) (D:a1T) (f:Flow) (s':Shared):Prop:=
 match f with
 | .next=>∃σ' H',Inv X pins σ' H' s'/\D.nx σ' H'
 | .brk=>∃σ' H',Inv X pins σ' H' s'/\D.bk σ' H'
 | .cont=>∃σ' H',Inv X pins σ' H' s'/\D.ct σ' H'
 | .ret u=>∃v σ' H',Inv X pins σ' H' s'/\W7 v u/\D.rt v H'
noncomputable def PE (X:Cx) (e:Expr) (t:TE):Prop:=
 ∀(pins:List (Addr×Obj))(s:Shared)(σ:St)(H:Hp)(Q:VK),Inv X pins σ H s->t σ H Q->wpAny (model X.prog X.w) X.A (eval e X.env) (EP X pins σ Q) X.xe s
noncomputable def PT (X:Cx) (e:Expr) (t:TT):Prop:=
 ∀(pins:List (Addr×Obj))(s:Shared)(σ:St)(H:Hp)(Q:Bool->Hp->Prop),Inv X pins σ H s->t σ H Q->wpAny (model X.prog X.w) X.A (isTrue e X.env (eval e X.env)) (TP X pins σ Q) X.xe s
noncomputable def PW (X:Cx) (e:Expr) (t:TT):Prop:=
 ∀(whole:Sem Value)(pins:List (Addr×Obj))(s:Shared)(σ:St)(H:Hp)(Q:Bool->Hp->Prop),Inv X pins σ H s->t σ H Q->wpAny (model X.prog X.w) X.A (isTrue e X.env whole) (TP X pins σ Q) X.xe s
theorem PW.pt{X:Cx}{e:Expr}{t:TT}(h:PW X e t):PT X e t:=h _
noncomputable def PA (X:Cx) (es:List Expr) (t:TA):Prop:=
 ∀(pos:Pos)(pins:List (Addr×Obj))(s:Shared)(σ:St)(H:Hp)(Q:List V->Hp->Prop),Inv X pins σ H s->t σ H Q->wpAny (model X.prog X.w) X.A (spliced (backTo pos (starEach es X.env))) (AP X pins σ Q) X.xe s
noncomputable def PS (X:Cx) (st:Stmt) (t:TS):Prop:=
 ∀(pins:List (Addr×Obj))(s:Shared)(σ:St)(H:Hp)(D:a1T),Inv X pins σ H s->t D σ H->wpAny (model X.prog X.w) X.A (exec st X.env) (SP X pins D) X.xe s
noncomputable def PSs (X:Cx) (st:List Stmt) (t:TS):Prop:=
 ∀(pins:List (Addr×Obj))(s:Shared)(σ:St)(H:Hp)(D:a1T),Inv X pins σ H s->t D σ H->wpAny (model X.prog X.w) X.A (execs st X.env) (SP X pins D) X.xe s
theorem thn{α:Type}{t:Sem α}{Q Q':α->Shared->Prop}{M:Model}{A:Around}{E:Value->Shared->Prop}{s:Shared}(h:wpAny M A t Q E s)(hQ:∀a s,Q a s->Q' a s):wpAny M A t Q' E s:=wpAny_mono h hQ fun _ _ x=>x
end L2
namespace L2
open PySem PySem.Spec PyProof.Rows
section
variable{X:Cx}
noncomputable def b3f (i:Nat):TE:=fun σ H Q=>∃v,σ[i]?=some (some v)/\Q v H
noncomputable def tC (v:V):TE:=fun _ H Q=>Q v H
theorem b3H{i:Nat}{x:Str}{pos:Pos}(hN:X.N[i]?=some x)(hv:Vis X.env.scope x)(hd:(x==("__debug__":Str))=false:=by decide)(hcd:(x==("__classdict__":Str))=false:=by decide):PE X (.Name x pos) (b3f i):=by
 intro pins s σ H Q I h
 obtain⟨v,e,h⟩:=h
 obtain⟨m,hn,hl⟩:=I.loc
 obtain⟨u,r,l⟩:=hl i x v hN e hv
 have fin:EP X pins σ Q u s:=⟨v,H,I,r,h⟩
 rcases l with⟨hk,hm⟩ | ⟨hk,c,hc,hcell⟩
 ·exact wpAny_Name (wpAny_loadName_local I.ok.kind hk hn hm fin) hd
 ·rcases hk with hk | hk
  ·exact wpAny_Name (wpAny_loadName_cell I.ok.kind hk hc hcell fin) hd
  ·exact wpAny_Name (wpAny_loadName_free I.ok.kind hk hc hcell fin hcd) hd
theorem G9{i j pos}:PE X (.Constant (.int i) j pos) (tC (.int i)):=fun _ _ _ H _ I h=>wpAny_Constant_int ⟨.int i,H,I.tok _,⟨_,rfl⟩,h⟩
theorem a0P{b j pos}:PE X (.Constant (.bool b) j pos) (tC (.bl b)):=fun _ _ _ H _ I h=>Constant_bool ⟨.bl b,H,I,rfl,h⟩
theorem a1q{j pos}:PE X (.Constant .none j pos) (tC .non):=fun _ _ _ H _ I h=>Constant_none ⟨.non,H,I,rfl,h⟩
theorem R4{x j pos}:PE X (.Constant (.str x) j pos) (tC (.str x)):=fun _ _ _ H _ I h=>Calls.Constant_str ⟨.str x,H,I.tok _,⟨_,rfl⟩,h⟩
noncomputable def Gl (X:Cx) (x:Str):Prop:=X.env.kindOf x=some .globalImplicit
theorem a4q{E:Value->Shared->Prop}{pins:List (Addr×Obj)}{s:Shared}{σ:St}{H:Hp}{x:Str}{u:Value}{pos:Pos}{Q:Value->Shared->Prop}(I:Inv X pins σ H s)(hg:Gl X x)(hm:X.mg x=some u)(h:Q u s)
  (hd:(x==("__debug__":Str))=false:=by decide):wpAny (model X.prog X.w) X.A (eval (.Name x pos) X.env) Q E s:=
 Calls.Name_function_global I.ok.kind hg (Calls.loadGlobal_global (by rw[I.ok.glob];exact I.mod.glob.keeps I.bk) hm h) hd
theorem a2t{E:Value->Shared->Prop}{pins:List (Addr×Obj)}{s:Shared}{σ:St}{H:Hp}{x:Str}{u:Value}{pos:Pos}{Q:Value->Shared->Prop}(I:Inv X pins σ H s)(hg:Gl X x)(hm:X.mg x=none)(hv:bootBuiltins x=some u)(h:Q u s)
  (hn:x≠ "__name__":=by decide)(hd:(x==("__debug__":Str))=false:=by decide):wpAny (model X.prog X.w) X.A (eval (.Name x pos) X.env) Q E s:=by
 obtain⟨mb,h1,h2⟩:=I.mod.blt
 exact Calls.Name_function_global I.ok.kind hg (Calls.loadGlobal_builtin (by rw[I.ok.glob];exact I.mod.glob.keeps I.bk) hm (by rw[I.ok.blt];exact h1.keeps I.bk) ((h2 x hn).trans hv) h) hd
theorem b3d{x:Str}{v:V}{u:Value}{pos:Pos}(hg:Gl X x)(hm:X.mg x=some u)(r:W7 v u)(hd:(x==("__debug__":Str))=false:=by decide):PE X (.Name x pos) (tC v):=
 fun _ _ _ H _ I h=>a4q I hg hm ⟨v,H,I,r,h⟩ hd
theorem a0E{x:Str}{v:V}{u:Value}{pos:Pos}(hg:Gl X x)(hm:X.mg x=none)(hv:bootBuiltins x=some u)(r:W7 v u)(hn:x≠ "__name__":=by decide)(hd:(x==("__debug__":Str))=false:=by decide):PE X (.Name x pos) (tC v):=
 fun _ _ _ H _ I h=>a2t I hg hm hv ⟨v,H,I,r,h⟩ hn hd
variable{a b:Expr}{ta tb:TE}{pos:Pos}
noncomputable def PC (X:Cx) (op:CmpOp) (a b:Expr) (t:TE):Prop:=
 ∀(pins:List (Addr×Obj))(s:Shared)(σ:St)(H:Hp)(Q:VK),Inv X pins σ H s->t σ H Q->
  wpAny (model X.prog X.w) X.A (eval a X.env) (fun v s₁=>wpAny (model X.prog X.w) X.A (eval b X.env) (fun u s₂=>wpAny (model X.prog X.w) X.A (compareOp op v u) (EP X pins σ Q) X.xe s₂) X.xe s₁) X.xe s
theorem a4Y(b:Expr){op:CmpOp}(h:op≠ .In)(h2:op≠ .NotIn):behindInMarks op b=false:=by
 have e1:(op==CmpOp.In)=false:=by cases op<;>first | rfl | exact absurd rfl h
 have e2:(op==CmpOp.NotIn)=false:=by cases op<;>first | rfl | exact absurd rfl h2
 cases b<;>simp[behindInMarks,e1,e2]
noncomputable def b5y (ta:TE):TE:=fun σ H Q=>ta σ H fun x H1=>Q (.bl (decide (x= .non))) H1
noncomputable def b5l (ta:TE):TE:=fun σ H Q=>ta σ H fun x H1=>Q (.bl (!decide (x= .non))) H1
theorem W7.none_iff{x:V}{v:Value}(r:W7 x v):(v==Value.none)=decide (x= .non):=by
 cases x with
 | non=>cases r;rfl
 | bl _=>cases r;rfl
 | int _=>obtain⟨t,rfl⟩:=r;rfl
 | str _=>obtain⟨t,rfl⟩:=r;rfl
 | byt _=>obtain⟨t,rfl⟩:=r;rfl
 | flt _=>obtain⟨t,rfl⟩:=r;rfl
 | ref _=>cases r;rfl
 | ty _=>cases r;rfl
theorem a4u{j pos'}(ha:PE X a ta):PC X .Is a (.Constant .none j pos') (b5y ta):=by
 intro pins s σ H Q I h
 refine thn (ha pins s σ H _ I h) fun v s1⟨x,H1,I1,r1,q1⟩=>?_
 exact Constant_none (is_none_gen ⟨.bl _,H1,I1,by rw[r1.none_iff];rfl,q1⟩)
theorem a8U{j pos'}(ha:PE X a ta):PC X .IsNot a (.Constant .none j pos') (b5l ta):=by
 intro pins s σ H Q I h
 refine thn (ha pins s σ H _ I h) fun v s1⟨x,H1,I1,r1,q1⟩=>?_
 exact Constant_none (isnot_none_gen ⟨.bl _,H1,I1,by rw[r1.none_iff];rfl,q1⟩)
noncomputable def tB (t:TE):TT:=fun σ H Q=>t σ H fun x H1=>∃c,x= .bl c/\Q c H1
theorem b3I{op:CmpOp}{t:TE}(h:PC X op a b t)(h1:behindInMarks op b=false:=by first | exact a4Y _ (by decide) (by decide) | rfl):PE X (.Compare a [op] [b] pos) t:=fun pins s σ H Q I hw=>wpAny_Compare1 (h pins s σ H Q I hw) h1
theorem a1n{op:CmpOp}{t:TE}(h:PC X op a b t)(h1:behindInMarks op b=false:=by first | exact a4Y _ (by decide) (by decide) | rfl):PT X (.Compare a [op] [b] pos) (tB t):=by
 intro pins s σ H Q I hw
 refine wpAny_isTrue_Compare1 (thn (h pins s σ H _ I hw) fun v s1 h1=>thn h1 fun u s2 h2=>thn h2 fun c s3⟨x,H1,I1,r1,q1⟩=>?_) h1
 obtain⟨d,rfl,q⟩:=q1
 cases r1
 exact wpAny_truthy_bool ⟨H1,I1,q⟩
theorem D9{e:Expr}{t:TE}(h:PE X e t)(he:∀whole,isTrue e X.env whole=(do let v<-whole;standAt e.pos;holding [v] (truthy v)):=by intro _;rfl):PT X e (tB t):=by
 intro pins s σ H Q I hw
 refine isTrue_plain (thn (h pins s σ H _ I hw) fun v s1⟨x,H1,I1,r1,q1⟩=>?_) (he _)
 obtain⟨d,rfl,q⟩:=q1
 cases r1
 exact wpAny_truthy_bool ⟨H1,I1,q⟩
variable{tA tB':TT}{rest:List Expr}
noncomputable def b5Q (t u:TT):TT:=fun σ H Q=>t σ H fun c H1=>if c=true then u σ H1 Q else Q false H1
noncomputable def tOr (t u:TT):TT:=fun σ H Q=>t σ H fun c H1=>if c=true then Q true H1 else u σ H1 Q
noncomputable def b5D (t:TT):TT:=fun σ H Q=>t σ H fun c H1=>Q (!c) H1
theorem a4p(ha:PT X a tA):PW X (.BoolOp .And [a] pos) tA:=by
 intro wh pins s σ H Q I h
 refine isTrue_and (thn (ha pins s σ H Q I h) fun c s1 e=>?_)
 cases c with
 | true=>exact isTrue_and_nil e
 | false=>exact e
theorem a1k(ha:PT X a tA):PW X (.BoolOp .Or [a] pos) tA:=by
 intro wh pins s σ H Q I h
 refine isTrue_or (thn (ha pins s σ H Q I h) fun c s1 e=>?_)
 cases c with
 | false=>exact isTrue_or_nil e
 | true=>exact e
theorem a6U(ha:PT X a tA)(hb:PW X (.BoolOp .And (b::rest) pos) tB'):PW X (.BoolOp .And (a::b::rest) pos) (b5Q tA tB'):=by
 intro wh pins s σ H Q I h
 refine isTrue_and (thn (ha pins s σ H _ I h) fun c s1⟨H1,I1,q1⟩=>?_)
 cases c with
 | true=>exact hb wh pins s1 σ H1 Q I1 q1
 | false=>exact⟨H1,I1,q1⟩
theorem a0Q(ha:PT X a tA)(hb:PW X (.BoolOp .Or (b::rest) pos) tB'):PW X (.BoolOp .Or (a::b::rest) pos) (tOr tA tB'):=by
 intro wh pins s σ H Q I h
 refine isTrue_or (thn (ha pins s σ H _ I h) fun c s1⟨H1,I1,q1⟩=>?_)
 cases c with
 | true=>exact⟨H1,I1,q1⟩
 | false=>exact hb wh pins s1 σ H1 Q I1 q1
theorem a0f(ha:PT X a tA):PT X (.UnaryOp .Not a pos) (b5D tA):=by
 intro pins s σ H Q I h
 exact isTrue_not (ha pins s σ H (fun c H1=>Q (!c) H1) I h)
noncomputable def b5p (ta tb:TE):TE:=fun σ H Q=>ta σ H fun x H1=>∃c,x= .bl c/\if c=true then tb σ H1 Q else Q (.bl false) H1
noncomputable def b4H (ta:TE):TE:=fun σ H Q=>ta σ H fun x H1=>∃c,x= .bl c/\Q (.bl (!c)) H1
theorem a7Q{op}{t:TE}(h:PE X a t):PE X (.BoolOp op [a] pos) t:=fun pins s σ H Q I hw=>BoolOp_one (h pins s σ H Q I hw)
theorem a8r(ha:PE X a ta)(hb:PE X (.BoolOp .And (b::rest) pos) tb):PE X (.BoolOp .And (a::b::rest) pos) (b5p ta tb):=by
 intro pins s σ H Q I h
 refine BoolOp_and (thn (ha pins s σ H _ I h) fun v s1⟨x,H1,I1,r1,q1⟩=>?_)
 obtain⟨c,rfl,q1⟩:=q1
 cases r1
 refine wpAny_truthy_bool ?_
 cases c with
 | true=>exact hb pins s1 σ H1 Q I1 q1
 | false=>exact⟨.bl false,H1,I1,rfl,q1⟩
theorem b3Q(ha:PE X a ta):PE X (.UnaryOp .Not a pos) (b4H ta):=by
 intro pins s σ H Q I h
 refine UnaryOp_ (thn (ha pins s σ H _ I h) fun v s1⟨x,H1,I1,r1,q1⟩=>?_)
 obtain⟨c,rfl,q1⟩:=q1
 cases r1
 exact not_of (wpAny_truthy_bool ⟨.bl (!c),H1,I1,rfl,q1⟩)
noncomputable def tIf (t:TT) (ta tb:TE):TE:=fun σ H Q=>t σ H fun c H1=>if c=true then ta σ H1 Q else tb σ H1 Q
theorem b2b{c:Expr}(hc:PT X c tA)(ha:PE X a ta)(hb:PE X b tb):PE X (.IfExp c a b pos) (tIf tA ta tb):=by
 intro pins s σ H Q I h
 refine wpAny_IfExp (thn (hc pins s σ H _ I h) fun d s1⟨H1,I1,q1⟩=>?_)
 cases d with
 | true=>exact ha pins s1 σ H1 Q I1 q1
 | false=>exact hb pins s1 σ H1 Q I1 q1
end
end L2
namespace L2
open PySem PySem.Spec PyProof.Rows
noncomputable def SqL (K:W.Frag) (H:Hp) (a:Addr) (xs:List V):Prop:=
 Rd H a (.lst xs)\/
  ∃(o:Obj)(its:Array Value)(n:Nat),K.lookup a=some o/\o.cls= .type "list"/\o.dict=none/\o.data= .seq its n/\its.size<=sizeLine/\W0 xs its.toList
noncomputable def SqT (K:W.Frag) (H:Hp) (a:Addr) (xs:List V):Prop:=
 Rd H a (.tup xs)\/
  ∃(o:Obj)(its:Array Value)(n:Nat),K.lookup a=some o/\o.cls= .type "tuple"/\o.data= .seq its n/\its.size<=sizeLine/\W0 xs its.toList
noncomputable def b5J:Value->Option V
 | .none=>some .non
 | .bool b=>some (.bl b)
 | .int i _=>some (.int i)
 | .str x _=>some (.str x)
 | .bytes b _=>some (.byt b)
 | .float b _=>some (.flt b)
 | .ref a=>some (.ref a)
 | .type n=>some (.ty n)
 | _=>none
theorem W7.abs{x:V}{u:Value}(r:W7 x u):b5J u=some x:=by
 cases x with
 | non=>cases r;rfl
 | bl _=>cases r;rfl
 | int _=>obtain⟨t,rfl⟩:=r;rfl
 | str _=>obtain⟨t,rfl⟩:=r;rfl
 | byt _=>obtain⟨t,rfl⟩:=r;rfl
 | flt _=>obtain⟨t,rfl⟩:=r;rfl
 | ref _=>cases r;rfl
 | ty _=>cases r;rfl
theorem W7.inj{x y:V}{u:Value}(r:W7 x u)(q:W7 y u):x=y:=Option.some.inj (r.abs.symm.trans q.abs)
theorem W0.inj:∀{xs ys:List V}{us:List Value},W0 xs us->W0 ys us->xs=ys
 | _,_,_,.nil,.nil=>rfl
 | _,_,_,.cons r t,.cons r' t'=>by rw[r.inj r',W0.inj t t']
section
variable{X:Cx}{pins:List (Addr×Obj)}{σ:St}{H:Hp}{s:Shared}{a:Addr}{xs ys:List V}
theorem SqL.of{K:W.Frag}(h:H a=some (.lst xs)):SqL K H a xs:= .inl (.inl h)
theorem SqT.of{K:W.Frag}(h:H a=some (.tup xs)):SqT K H a xs:= .inl (.inl h)
theorem Inv.list(I:Inv X pins σ H s)(h:SqL X.K H a xs):∃its:List Value,W0 xs its/\PlainL s.heap a its.toArray/\xs.length<=sizeLine:=by
 rcases h with h | ⟨o,its,n,hk,hc,hd,hs,hz,r⟩
 ·obtain⟨z,its,n,r,e⟩:=h.ok I.hok
  exact⟨its,r,⟨_,n,e,rfl,rfl,rfl⟩,z⟩
 ·refine⟨its.toList,r,⟨o,n,I.kIn a o hk,hc,hd,by simpa using hs⟩,?_⟩
  have e:=r.length
  simp only[Array.length_toList]at e
  omega
theorem Inv.tuple(I:Inv X pins σ H s)(h:SqT X.K H a xs):∃its:List Value,W0 xs its/\IsTup s.heap a its.toArray/\xs.length<=sizeLine:=by
 rcases h with h | ⟨o,its,n,hk,hc,hs,hz,r⟩
 ·obtain⟨z,its,r,p⟩:=h.ok I.hok
  exact⟨its,r,p,z⟩
 ·refine⟨its.toList,r,⟨o,I.kIn a o hk,hc,n,by simpa using hs⟩,?_⟩
  have e:=r.length
  simp only[Array.length_toList]at e
  omega
theorem Inv.list_inj(I:Inv X pins σ H s)(h:SqL X.K H a xs)(h':SqL X.K H a ys):xs=ys:=by
 obtain⟨its,r,⟨o,n,e,_,_,d⟩,_⟩:=I.list h
 obtain⟨its',r',⟨o',n',e',_,_,d'⟩,_⟩:=I.list h'
 rw[e]at e';cases e'
 rw[d]at d'
 injection d' with d1 _
 have:its=its':=by simpa using congrArg Array.toList d1
 subst this
 exact r.inj r'
theorem Inv.tuple_inj(I:Inv X pins σ H s)(h:SqT X.K H a xs)(h':SqT X.K H a ys):xs=ys:=by
 obtain⟨its,r,⟨o,e,_,n,d⟩,_⟩:=I.tuple h
 obtain⟨its',r',⟨o',e',_,n',d'⟩,_⟩:=I.tuple h'
 rw[e]at e';cases e'
 rw[d]at d'
 injection d' with d1 _
 have:its=its':=by simpa using congrArg Array.toList d1
 subst this
 exact r.inj r'
end
noncomputable abbrev Cx.wish (X:Cx) (E:Value->Shared->Prop):Cx:={X with xe:=E}
noncomputable abbrev Cx.nox (X:Cx):Cx:=X.wish fun _ _=>False
theorem Cx.Ok.wish{X:Cx}(ok:X.Ok)(E:Value->Shared->Prop):(X.wish E).Ok:=
 ⟨ok.mod,ok.kind,ok.glob,ok.blt,ok.above,ok.inj,ok.has,ok.cab,ok.hd,ok.frames,ok.stk,ok.exf,ok.bs,ok.bsz,ok.noex,ok.exfs,ok.funs,ok.frf⟩
theorem Cx.Ok.unwish{X:Cx}{E:Value->Shared->Prop}(ok:(X.wish E).Ok):X.Ok:=
 ⟨ok.mod,ok.kind,ok.glob,ok.blt,ok.above,ok.inj,ok.has,ok.cab,ok.hd,ok.frames,ok.stk,ok.exf,ok.bs,ok.bsz,ok.noex,ok.exfs,ok.funs,ok.frf⟩
section
variable{X:Cx}{pins:List (Addr×Obj)}{σ:St}{H:Hp}{s:Shared}{E:Value->Shared->Prop}
theorem Inv.wish(I:Inv X pins σ H s)(E:Value->Shared->Prop):Inv (X.wish E) pins σ H s:=⟨I.ok.wish E,I.os,I.bare,I.base,I.loc,I.cell,I.free,I.freeC,I.pin,I.hok,I.len⟩
theorem Inv.unwish(I:Inv (X.wish E) pins σ H s):Inv X pins σ H s:=⟨I.ok.unwish,I.os,I.bare,I.base,I.loc,I.cell,I.free,I.freeC,I.pin,I.hok,I.len⟩
theorem SP.unwish{D:a1T}{f:Flow}{s':Shared}(h:SP (X.wish E) pins D f s'):SP X pins D f s':=by
 cases f with
 | next=>obtain⟨σ',H',I,q⟩:=h;exact⟨σ',H',I.unwish,q⟩
 | brk=>obtain⟨σ',H',I,q⟩:=h;exact⟨σ',H',I.unwish,q⟩
 | cont=>obtain⟨σ',H',I,q⟩:=h;exact⟨σ',H',I.unwish,q⟩
 | ret u=>obtain⟨v,σ',H',I,r,q⟩:=h;exact⟨v,σ',H',I.unwish,r,q⟩
theorem PSs.nox{st:List Stmt}{t:TS}(h:PSs X.nox st t):PSs X st t:=fun pins s σ H D I hw=>
 wpAny_mono (h pins s σ H D (I.wish _) hw) (fun _ _ q=>q.unwish) fun _ _ z=>False.elim z
end
section
variable{X:Cx}{st:Stmt}{rest:List Stmt}{t u:TS}{e:Expr}{te:TE}{pos:Pos}
noncomputable def b1y:TS:=fun D σ H=>D.nx σ H
noncomputable def a6C (t u:TS):TS:=fun D σ H=>t {D with nx:=u D} σ H
theorem R8:PSs X [] b1y:=fun _ _ σ H _ I h=>wpAny_execs_nil ⟨σ,H,I,h⟩
theorem I0(h1:PS X st t)(h2:PSs X rest u):PSs X (st::rest) (a6C t u):=by
 intro pins s σ H D I h
 refine wpAny_execs_cons (thn (h1 pins s σ H {D with nx:=u D} I h) fun f s1 q=>?_)
 cases f with
 | next=>
  obtain⟨σ',H',I',q⟩:=q
  exact h2 pins s1 σ' H' D I' q
 | ret v=>exact q
 | brk=>exact q
 | cont=>exact q
theorem J1(h1:PS X st t):PSs X [st] t:=by
 intro pins s σ H D I h
 refine wpAny_execs_cons (thn (h1 pins s σ H D I h) fun f s1 q=>?_)
 cases f with
 | next=>exact wpAny_execs_nil q
 | ret v=>exact q
 | brk=>exact q
 | cont=>exact q
theorem Inv.quiet{pins:List (Addr×Obj)}{σ:St}{H:Hp}{s:Shared}(I:Inv X pins σ H s):interactive X.env=false:=by simp[interactive,I.ok.kind]
noncomputable def b3t (te:TE):TS:=fun D σ H=>te σ H fun _ H1=>D.nx σ H1
theorem Y0(he:PE X e te)(hs:swapsWith e none pos.line X.env=pure false:=by rfl):PS X (.Expr e pos) (b3t te):=by
 intro pins s σ H D I h
 exact wpAny_Expr_any (thn (he pins s σ H _ I h) fun v s1⟨x,H1,I1,r1,q1⟩=>⟨σ,H1,I1,q1⟩) I.quiet hs
noncomputable def b5N (te:TE):TS:=fun D σ H=>te σ H D.rt
theorem R3(he:PE X e te):PS X (.Return (some e) pos) (b5N te):=by
 intro pins s σ H D I h
 exact wpAny_Return_some (thn (he pins s σ H _ I h) fun v s1⟨x,H1,I1,r1,q1⟩=>⟨x,σ,H1,I1,r1,q1⟩)
noncomputable def b4M:TS:=fun D _ H=>D.rt .non H
theorem a8D:PS X (.Return none pos) b4M:=fun _ _ σ H _ I h=>wpAny_Return_none ⟨.non,σ,H,I,rfl,h⟩
noncomputable def b4K (c:TT) (t u:TS):TS:=fun D σ H=>c σ H fun b H1=>if b=true then t D σ H1 else u D σ H1
theorem W1{c:Expr}{a b:List Stmt}{tc:TT}(hc:PT X c tc)(ha:PSs X a t)(hb:PSs X b u):PS X (.If c a b pos) (b4K tc t u):=by
 intro pins s σ H D I h
 refine wpAny_If (thn (hc pins s σ H _ I h) fun d s1⟨H1,I1,q1⟩=>?_)
 cases d with
 | true=>exact ha pins s1 σ H1 D I1 q1
 | false=>exact hb pins s1 σ H1 D I1 q1
end
noncomputable abbrev TG:=V->St->Hp->(St->Hp->Prop)->Prop
noncomputable abbrev TGs:=List V->St->Hp->(St->Hp->Prop)->Prop
noncomputable def PG (X:Cx) (target:Expr) (t:TG):Prop:=
 ∀(pins:List (Addr×Obj))(s:Shared)(σ:St)(H:Hp)(v:V)(u:Value)(Q:St->Hp->Prop),Inv X pins σ H s->W7 v u->t v σ H Q->
  wpAny (model X.prog X.w) X.A (assign target X.env u) (fun _ s'=>∃σ' H',Inv X pins σ' H' s'/\Q σ' H') X.xe s
noncomputable def PGs (X:Cx) (ts:List Expr) (t:TGs):Prop:=
 ∀(pins:List (Addr×Obj))(s:Shared)(σ:St)(H:Hp)(vs:List V)(us:List Value)(Q:St->Hp->Prop),Inv X pins σ H s->W0 vs us->t vs σ H Q->
  wpAny (model X.prog X.w) X.A (assignInOrder ((assignEach ts X.env).map (·.2)) us) (fun _ s'=>∃σ' H',Inv X pins σ' H' s'/\Q σ' H') X.xe s
noncomputable abbrev b6e:=V->V->V->Hp->(Hp->Prop)->Prop
noncomputable abbrev TIp:=V->V->Hp->VK->Prop
noncomputable def PIp (X:Cx) (op:Operator) (t:TIp):Prop:=
 ∀(pins:List (Addr×Obj))(s:Shared)(σ:St)(H:Hp)(x y:V)(v u:Value)(Q:VK),Inv X pins σ H s->W7 x v->W7 y u->t x y H Q->
  wpAny (model X.prog X.w) X.A (inplaceOp op v u) (EP X pins σ Q) X.xe s
section
variable{X:Cx}{pos:Pos}
noncomputable def a3T (i:Nat):TG:=fun v σ H Q=>Q (σ.set i (some v)) H
theorem R5{i:Nat}{x:Str}(hN:X.N.Nodup)(hi:X.N[i]?=some x)(hx:Loc X.env.scope x)(hf:X.fn x=true\/X.env.scope.names.lookup x=some .local:=by first | exact .inl rfl | exact .inr rfl | assumption):PG X (.Name x pos) (a3T i):=by
 intro pins s σ H v u Q I r h
 exact wpAny_assign_Name (a4P I hN hi hx r (fun s' I'=>⟨_,H,I',h⟩) hf)
noncomputable def b5q:TGs:=fun vs σ H Q=>vs=[]/\Q σ H
noncomputable def b4u (t:TG) (u:TGs):TGs:=fun vs σ H Q=>∃v r,vs=v::r/\t v σ H fun σ' H'=>u r σ' H' Q
theorem F3:PGs X [] b5q:=by
 intro pins s σ H vs us Q I r h
 obtain⟨e,h⟩:=h
 subst e
 cases r
 exact assignInOrder_nil ⟨σ,H,I,h⟩
theorem R7{e:Expr}{es:List Expr}{t:TG}{u:TGs}(h1:PG X e t)(h2:PGs X es u)
  (hs:(assignEach (e::es) X.env).map (·.2)=assign e X.env::(assignEach es X.env).map (·.2):=by rfl):PGs X (e::es) (b4u t u):=by
 intro pins s σ H vs us Q I r h
 obtain⟨v,vr,e1,h⟩:=h
 subst e1
 cases r with
 | cons r rr=>
  rw[hs]
  refine assignInOrder_cons (thn (h1 pins s σ H _ _ _ I r h) fun _ s1⟨σ1,H1,I1,q1⟩=>?_)
  exact h2 pins s1 σ1 H1 _ _ Q I1 rr q1
noncomputable def b5f (K:W.Frag) (n:Nat) (t:TGs):TG:=fun v σ H Q=>∃a xs,v= .ref a/\SqT K H a xs/\xs.length=n/\t xs σ H Q
theorem M2{es:List Expr}{k:Nat}{t:TGs}{n:Nat}(hc:X.calm=true)(h:PGs X es t)
  (hn:(assignEach es X.env).length=n:=by rfl)(hst:(assignEach es X.env).findIdx? (·.1)=none:=by rfl):PG X (.Tuple es k pos) (b5f X.K n t):=by
 intro pins s σ H v u Q I r hw
 obtain⟨a,xs,e1,hq,hl,hw⟩:=hw
 subst e1
 cases r
 obtain⟨its,rv,ht,hz⟩:=I.tuple hq
 refine assign_Tuple_tuple (I.ok.hd hc) ht (by simp[hn,<-hl,rv.length]) hst fun h' hx=>?_
 have I1:Inv X pins σ H {s with heap:=h'}:=I.kept (t':=s.toks) fun b o e=>hx b o (AS (AJ e)) e
 exact h pins _ σ H xs _ Q I1 (by simpa using rv) hw
noncomputable def b4J (te:TE) (g:TG):TS:=fun D σ H=>te σ H fun x H1=>g x σ H1 D.nx
theorem U1{i:Nat}{x:Str}{e:Expr}{te:TE}{pos':Pos}(hN:X.N.Nodup)(hi:X.N[i]?=some x)(hx:Loc X.env.scope x)(he:PE X e te)(hs:swapsWith e (some (.Name x pos')) pos.line X.env=pure false:=by rfl)(hf:X.fn x=true\/X.env.scope.names.lookup x=some .local:=by first | exact .inl rfl | exact .inr rfl | assumption):
  PS X (.Assign [.Name x pos'] e pos) (b4J te (a3T i)):=by
 intro pins s σ H D I h
 refine wpAny_Assign_Name (thn (he pins s σ H _ I h) fun v s1⟨y,H1,I1,r1,q1⟩=>?_) hs
 exact a4P I1 hN hi hx r1 (fun s2 I2=>⟨_,H1,I2,q1⟩) hf
noncomputable def b5B (i:Nat) (te:TE) (ti:TIp):TS:=fun D σ H=>∃x,σ[i]?=some (some x)/\te σ H fun y H1=>ti x y H1 fun z H2=>D.nx (σ.set i (some z)) H2
theorem b4g{i:Nat}{x:Str}{e:Expr}{te:TE}{op:Operator}{ti:TIp}{pos':Pos}(hN:X.N.Nodup)(hi:X.N[i]?=some x)(hx:Loc X.env.scope x)(he:PE X e te)(ho:PIp X op ti)(hf:X.fn x=true\/X.env.scope.names.lookup x=some .local:=by first | exact .inl rfl | exact .inr rfl | assumption):
  PS X (.AugAssign (.Name x pos') op e pos) (b5B i te ti):=by
 intro pins s σ H D I h
 obtain⟨v,e1,h⟩:=h
 obtain⟨m,hn,hl⟩:=I.loc
 have vis:Vis X.env.scope x:=by rcases hx with k | k;exact .inl k;exact .inr (.inl k)
 obtain⟨u,r,l⟩:=hl i x v hi e1 vis
 refine wpAny_AugAssign_Name ?_
 have go:wpAny (model X.prog X.w) X.A (eval e X.env) (fun w s₂=>wpAny (model X.prog X.w) X.A (inplaceOp op u w) (fun r s₃=>wpAny (model X.prog X.w) X.A (storeName X.env x r) (fun _=>SP X pins D .next) X.xe s₃) X.xe s₂) X.xe s:=by
  refine thn (he pins s σ H _ I h) fun w s1⟨y,H1,I1,r1,q1⟩=>?_
  refine thn (ho pins s1 σ H1 v y u w _ I1 r r1 q1) fun z s2⟨zv,H2,I2,r2,q2⟩=>?_
  exact a4P I2 hN hi hx r2 (fun s3 I3=>⟨_,H2,I3,q2⟩) hf
 rcases l with⟨hk,hm⟩ | ⟨hk,c,hc,hcell⟩
 ·exact wpAny_loadName_local I.ok.kind hk hn hm go
 ·rcases hk with hk | hk
  ·exact wpAny_loadName_cell I.ok.kind hk hc hcell go
  ·rcases hx with k | k
   ·have:X.env.scope.names.lookup x=some .free:=hk
    rw[k]at this;cases this
   ·have:X.env.scope.names.lookup x=some .free:=hk
    rw[k]at this;cases this
noncomputable def ipI (f:Int->Int->Int):TIp:=fun x y H Q=>∃i j,x= .int i/\y= .int j/\Q (.int (f i j)) H
theorem b3Y:PIp X .Add (ipI fun i j=>i+j):=by
 intro pins s σ H x y v u Q I r1 r2 h
 obtain⟨i,j,e1,e2,q⟩:=h
 subst e1;subst e2
 obtain⟨t,rfl⟩:=r1
 obtain⟨t',rfl⟩:=r2
 exact iadd_int ⟨.int _,H,I.tok _,⟨_,rfl⟩,q⟩
end
section
variable{X:Cx}{pos:Pos}
noncomputable def a6D (c:TT) (tb:TS):TS:=fun D σ H=>∃W:Nat->St->Hp->Prop,(∃m,W m σ H)/\∀m σ H,W m σ H->
 c σ H fun b H1=>if b=true then∃N:St->Hp->Prop,(∀σ' H',N σ' H'->∃m',m' < m/\W m' σ' H')/\tb {D with nx:=N,ct:=N,bk:=D.nx} σ H1 else D.nx σ H1
theorem a5c{c:Expr}{body:List Stmt}{tc:TT}{tb:TS}(hp:PassesOwn (model X.prog X.w) X.A X.env X.xe)(hc:PT X c tc)(hb:PSs X body tb):PS X (.While c body [] pos) (a6D tc tb):=by
 intro pins s σ H D I h
 obtain⟨W,⟨m0,w0⟩,turn⟩:=h
 refine wpAny_While (codeAny_whileLoop (fun n s'=>∃σ' H',Inv X pins σ' H' s'/\W n σ' H') ?_ m0 ⟨σ,H,I,w0⟩)
 rintro n s1 ⟨σ1,H1,I1,w1⟩
 refine wpAny_passesOwn hp (thn (hc pins s1 σ1 H1 _ I1 (turn n σ1 H1 w1)) fun b s2⟨H2,I2,q2⟩=>?_)
 cases b with
 | true=>
  obtain⟨N,hN,q2⟩:=q2
  rw[if_pos rfl]
  refine wpAny_passesOwn hp (thn (hb pins s2 σ1 H2 _ I2 q2) fun f s3 q3=>?_)
  cases f with
  | next=>
   obtain⟨σ3,H3,I3,n3⟩:=q3
   obtain⟨m',hm,w3⟩:=hN σ3 H3 n3
   exact⟨m',hm,σ3,H3,I3,w3⟩
  | cont=>
   obtain⟨σ3,H3,I3,n3⟩:=q3
   obtain⟨m',hm,w3⟩:=hN σ3 H3 n3
   exact⟨m',hm,σ3,H3,I3,w3⟩
  | brk=>exact q3
  | ret v=>exact q3
 | false=>
  rw[if_neg AE]
  exact wpAny_execs_nil ⟨σ1,H2,I2,q2⟩
end
structure It where
 go:Nat->Hp->Prop
 yld:Nat->Hp->V->Hp->Prop
 stop:Nat->Hp->Prop
noncomputable def a4l (X:Cx) (pins:List (Addr×Obj)) (H:Hp) (b:Addr):Prop:=
 H b=none/\b≠X.env.locals/\b∉X.fs/\(b∈X.ex\/X.s₀.heap.objs.size<=b)/\(∀x c,X.env.cells.lookup x=some c->c≠b)/\∀p∈X.pn++pins,p.1≠b
theorem Inv.fpOk{X:Cx}{pins:List (Addr×Obj)}{σ:St}{H H':Hp}{s:Shared}{b:Addr}(I:Inv X pins σ H s)(hb:s.heap.objs.size<=b)(hn:H' b=none):a4l X pins H' b:=by
 refine⟨hn,Nat.ne_of_gt (AQ I.lt hb),I.nofs hb,.inr (Nat.le_trans I.sz hb),fun x c e z=>?_,fun p hp z=>?_⟩
 ·obtain⟨v,q⟩:=I.cell x c e
  exact absurd (AQ q.lt (by rw[z];exact hb)) (Nat.lt_irrefl _)
 ·exact absurd (AQ (AJ (I.pin p hp).1) (by rw[z];exact hb)) (Nat.lt_irrefl _)
structure a7X(P:Program)(w:World)(K:W.Frag)(tg:Expr)(J:It)(fp:List Addr)(it:Addr)(tn:Nat->Heap->Prop):Prop where
 mem:it∈fp
 obj:∀i h,tn i h->∀b∈fp,∃o,h.get? b=some o/\∀v,o.data≠ .cell v
 keep:∀i h h',tn i h->(∀b∈fp,∀o,h.get? b=some o->h'.get? b=some o)->tn i h'
 item:∀(X:Cx),X.prog=P->X.w=w->X.K=K->X.calm=true->∀(i:Nat)(pins:List (Addr×Obj))(s:Shared)(σ:St)(H:Hp)(E:Value->Shared->Prop),Inv X pins σ H s->(∀b∈fp,a4l X pins H b)->tn i s.heap->J.go i H->
  wpAny (model P w) X.A (pyNext (.ref it)) (fun r s1=>∃u,r=some u/\
   wpAny (model P w) X.A (letOwnedTupleGo tg (.ref it) u) (fun _ s2=>∃x H',Inv X pins σ H' s2/\W7 x u/\J.yld i H x H'/\tn (i+1) s2.heap/\∀b∈fp,H' b=none) E s1) E s
 done:∀(X:Cx),X.prog=P->X.w=w->X.K=K->X.calm=true->∀(i:Nat)(pins:List (Addr×Obj))(s:Shared)(σ:St)(H:Hp)(E:Value->Shared->Prop),Inv X pins σ H s->(∀b∈fp,a4l X pins H b)->tn i s.heap->J.stop i H->
  wpAny (model P w) X.A (pyNext (.ref it)) (fun r s1=>r=none/\Inv X pins σ H s1) E s
 self:∀(A:Around)(i:Nat)(s:Shared)(Q:Value->Shared->Prop)(E:Value->Shared->Prop),tn i s.heap->Q (.ref it) s->wpAny (model P w) A (pyIter (.ref it)) Q E s
noncomputable abbrev TI:=St->Hp->(It->Hp->Prop)->Prop
noncomputable def PIE (X:Cx) (pins:List (Addr×Obj)) (σ:St) (tg:Expr) (R:It->Hp->Prop) (itv:Value) (s2:Shared):Prop:=
 ∃(it:Addr)(fp:List Addr)(tn:Nat->Heap->Prop)(J:It)(H':Hp),itv= .ref it/\Inv X pins σ H' s2/\a7X X.prog X.w X.K tg J fp it tn/\tn 0 s2.heap/\(∀b∈fp,a4l X pins H' b)/\R J H'
noncomputable def PI (X:Cx) (tg iter:Expr) (wi:TI):Prop:=
 ∀(pins:List (Addr×Obj))(s:Shared)(σ:St)(H:Hp)(R:It->Hp->Prop),Inv X pins σ H s->wi σ H R->
  wpAny (model X.prog X.w) X.A (eval iter X.env) (fun v s1=>wpAny (model X.prog X.w) X.A (pyIter v) (PIE X pins σ tg R) X.xe s1) X.xe s
theorem a7B{M:Model}{A:Around}{E:Value->Shared->Prop}{s:Shared}{tg:Expr}{it:Addr}{u:Value}{o:Obj}{n:String}{vs:Array Value}{Q:Unit->Shared->Prop}(ho:s.heap.get? it=some o)(hc:o.cls= .type n)(hd:o.data= .fields vs)
  (hn:["enumerate","zip","dict_itemiterator","dict_reverseitemiterator","odict_iterator","itertools.zip_longest","itertools.pairwise"].contains n=false)(hQ:Q () s):wpAny M A (letOwnedTupleGo tg (.ref it) u) Q E s:=by
 unfold letOwnedTupleGo
 cases tg<;>first
  | exact AB hQ
  | (cases u<;>first
    | exact AB hQ
    | (refine AA (wpAny_load ho ?_)
       rw[hc,hd]
       show wpAny M A (if(["enumerate","zip","dict_itemiterator","dict_reverseitemiterator","odict_iterator","itertools.zip_longest","itertools.pairwise"].contains n && vs[0]?==some (rawInt _))=true then _ else _) Q E s
       rw[if_neg (by intro h;rw[hn,Bool.false_and]at h;cases h)]
       exact AB hQ))
noncomputable def Itl (K:W.Frag) (a:Addr):It:=
 ⟨fun i H=>∃xs x,SqL K H a xs/\xs[i]?=some x,fun i H x H'=>H'=H/\∀xs,SqL K H a xs->xs[i]?=some x,fun i H=>∃xs,SqL K H a xs/\xs.length<=i⟩
noncomputable def Itt (K:W.Frag) (a:Addr):It:=
 ⟨fun i H=>∃xs x,SqT K H a xs/\xs[i]?=some x,fun i H x H'=>H'=H/\∀xs,SqT K H a xs->xs[i]?=some x,fun i H=>∃xs,SqT K H a xs/\xs.length<=i⟩
noncomputable def Itr (lo:Int) (n:Nat):It:=⟨fun i _=>i < n,fun i H x H'=>H'=H/\x= .int (lo+i),fun i _=>n<=i⟩
theorem a9S{P:Program}{w:World}{K:W.Frag}{tg:Expr}(a it:Addr):a7X P w K tg (Itl K a) [it] it (fun i h=>h.IsListIter it a i)where
 mem:=by simp
 obj:=fun i h st b hb=>by
  have e:b=it:=by simpa using hb
  subst e
  obtain⟨o,e,c,d⟩:=st
  exact⟨o,e,fun v z=>by rw[d]at z;cases z⟩
 keep:=fun i h h' st k=>st.at fun o e=>k it (by simp) o e
 item:=by
  intro X hP hw hK hc i pins s σ H E I hf st hg
  subst hP hw hK
  obtain⟨xs,x,hq,hx⟩:=hg
  obtain⟨its,rv,p,hz⟩:=I.list hq
  obtain⟨u,hu,ru⟩:=rv.get hx
  obtain⟨f0,f1,f2,f3,f4,f5⟩:=hf it (by simp)
  refine wpAny_pyNext_list_item st p.isList (x:=u) (by simpa using hu) fun h' st' sb=>?_
  have I1:Inv X pins σ H {s with heap:=h'}:=I.turned (t':=s.toks) (fun b o hb e=>(sb.2 b hb).trans e) f0 f1 f3 f4 f5
  obtain⟨o,e,c,d⟩:=id st'
  exact⟨u,rfl,a7B (s:={s with heap:=h'}) e c d (by decide) ⟨x,H,I1,ru,⟨rfl,fun ys hy=>by rw[I.list_inj hy hq];exact hx⟩,st',fun b hb=>(hf b hb).1⟩⟩
 done:=by
  intro X hP hw hK hc i pins s σ H E I hf st hg
  subst hP hw hK
  obtain⟨xs,hq,hx⟩:=hg
  obtain⟨its,rv,p,hz⟩:=I.list hq
  obtain⟨f0,f1,f2,f3,f4,f5⟩:=hf it (by simp)
  have hl:=rv.length
  exact wpAny_pyNext_list_end (I.ok.hd hc) st p.isList (by simp;omega) fun h' eb=>⟨rfl,I.turned (t':=s.toks) (fun b o hb e=>eb b o hb e) f0 f1 f3 f4 f5⟩
 self:=fun _ _ _ _ _ st h=>wpAny_pyIter_listiter st h
theorem a7U{P:Program}{w:World}{K:W.Frag}{tg:Expr}(a it:Addr):a7X P w K tg (Itt K a) [it] it (fun i h=>h.IsTupleIter it a i)where
 mem:=by simp
 obj:=fun i h st b hb=>by
  have e:b=it:=by simpa using hb
  subst e
  obtain⟨o,e,c,d⟩:=st
  exact⟨o,e,fun v z=>by rw[d]at z;cases z⟩
 keep:=fun i h h' st k=>st.at fun o e=>k it (by simp) o e
 item:=by
  intro X hP hw hK hc i pins s σ H E I hf st hg
  subst hP hw hK
  obtain⟨xs,x,hq,hx⟩:=hg
  obtain⟨its,rv,p,hz⟩:=I.tuple hq
  obtain⟨u,hu,ru⟩:=rv.get hx
  obtain⟨f0,f1,f2,f3,f4,f5⟩:=hf it (by simp)
  refine wpAny_pyNext_tuple_item st (show s.heap.IsTuple a its.toArray from p) (x:=u) (by simpa using hu) fun h' st' sb=>?_
  have I1:Inv X pins σ H {s with heap:=h'}:=I.turned (t':=s.toks) (fun b o hb e=>(sb.2 b hb).trans e) f0 f1 f3 f4 f5
  obtain⟨o,e,c,d⟩:=id st'
  exact⟨u,rfl,a7B (s:={s with heap:=h'}) e c d (by decide) ⟨x,H,I1,ru,⟨rfl,fun ys hy=>by rw[I.tuple_inj hy hq];exact hx⟩,st',fun b hb=>(hf b hb).1⟩⟩
 done:=by
  intro X hP hw hK hc i pins s σ H E I hf st hg
  subst hP hw hK
  obtain⟨xs,hq,hx⟩:=hg
  obtain⟨its,rv,p,hz⟩:=I.tuple hq
  obtain⟨f0,f1,f2,f3,f4,f5⟩:=hf it (by simp)
  have hl:=rv.length
  exact wpAny_pyNext_tuple_end (I.ok.hd hc) st (show s.heap.IsTuple a its.toArray from p) (by simp;omega) fun h' eb=>⟨rfl,I.turned (t':=s.toks) (fun b o hb e=>eb b o hb e) f0 f1 f3 f4 f5⟩
 self:=fun _ _ _ _ _ st h=>wpAny_pyIter_tupleiter st h
theorem a8u{P:Program}{w:World}{K:W.Frag}{tg:Expr}(it:Addr)(lo:Int)(n:Nat):a7X P w K tg (Itr lo n) [it] it (fun i h=>IsRangeIter h it (lo+(i:Nat)*1) ((n:Int) - (i:Nat)) 1)where
 mem:=by simp
 obj:=fun i h st b hb=>by
  have e:b=it:=by simpa using hb
  subst e
  exact⟨_,st,fun v z=>by
   have z':Data.fields _=Data.cell v:=z
   cases z'⟩
 keep:=fun i h h' st k=>k it (by simp) _ st
 item:=by
  intro X hP hw hK hc i pins s σ H E I hf st hg
  subst hP hw hK
  obtain⟨f0,f1,f2,f3,f4,f5⟩:=hf it (by simp)
  have W:=Walks.range (prog:=X.prog) (w:=X.w) (I.ok.hd hc) it lo 1 n
  refine W.item i s _ _ hg st fun v h' tk hv st' kk=>?_
  obtain⟨t,rfl⟩:=hv
  have I1:Inv X pins σ H {s with heap:=h',toks:=tk}:=I.turned (fun b o hb e=>kk b o (by simpa using hb) e) f0 f1 f3 f4 f5
  refine⟨_,rfl,a7B (s:={s with heap:=h',toks:=tk}) (n:="range_iterator") st' rfl rfl (by decide) ⟨.int (lo+i),H,I1,⟨t,?_⟩,⟨rfl,rfl⟩,st',fun b hb=>(hf b hb).1⟩⟩
  rw[Int.mul_one]
 done:=by
  intro X hP hw hK hc i pins s σ H E I hf st hg
  subst hP hw hK
  obtain⟨f0,f1,f2,f3,f4,f5⟩:=hf it (by simp)
  exact wpAny_pyNext_range_end (I.ok.hd hc) st (by have:n<=i:=hg;omega) fun h' eb=>⟨rfl,I.turned (t':=s.toks) (fun b o hb e=>eb b o hb e) f0 f1 f3 f4 f5⟩
 self:=fun _ _ _ _ _ st h=>wpAny_pyIter_rangeiter st h
end L2
namespace L2
open PySem PySem.Spec PyProof.Rows
section
variable{X:Cx}{tg:Expr}
noncomputable def b5b (K:W.Frag) (tl:TE):TI:=fun σ H R=>tl σ H fun x H1=>∃a,x= .ref a/\(∃xs,SqL K H1 a xs)/\R (Itl K a) H1
noncomputable def b5S (K:W.Frag) (tl:TE):TI:=fun σ H R=>tl σ H fun x H1=>∃a,x= .ref a/\(∃xs,SqT K H1 a xs)/\R (Itt K a) H1
theorem a1O{l:Expr}{tl:TE}(hl:PE X l tl):PI X tg l (b5b X.K tl):=by
 intro pins s σ H R I h
 refine thn (hl pins s σ H _ I h) fun v s1⟨x,H1,I1,r1,q1⟩=>?_
 obtain⟨a,e,⟨xs,hq⟩,q⟩:=q1
 subst e
 cases r1
 obtain⟨its,rv,p,hz⟩:=I1.list hq
 refine wpAny_pyIter_list p.isList ?_
 refine⟨s1.heap.objs.size,[s1.heap.objs.size],_,_,H1,rfl,I1.kept (t':=s1.toks) fun b o e=>AC _ e,a9S a _,⟨_,AG _ rfl,rfl,rfl⟩,fun b hb=>?_,q⟩
 have e:b=s1.heap.objs.size:=by simpa using hb
 subst e
 exact I1.fpOk (AD _) (I1.hok.fresh (AD _))
theorem a1l{l:Expr}{tl:TE}(hl:PE X l tl):PI X tg l (b5S X.K tl):=by
 intro pins s σ H R I h
 refine thn (hl pins s σ H _ I h) fun v s1⟨x,H1,I1,r1,q1⟩=>?_
 obtain⟨a,e,⟨xs,hq⟩,q⟩:=q1
 subst e
 cases r1
 obtain⟨its,rv,p,hz⟩:=I1.tuple hq
 refine wpAny_pyIter_tuple (show s1.heap.IsTuple a its.toArray from p) ?_
 refine⟨s1.heap.objs.size,[s1.heap.objs.size],_,_,H1,rfl,I1.kept (t':=s1.toks) fun b o e=>AC _ e,a7U a _,⟨_,AG _ rfl,rfl,rfl⟩,fun b hb=>?_,q⟩
 have e:b=s1.heap.objs.size:=by simpa using hb
 subst e
 exact I1.fpOk (AD _) (I1.hok.fresh (AD _))
theorem b1M{pins:List (Addr×Obj)}{σ:St}{H:Hp}{s:Shared}{R:It->Hp->Prop}{E:Value->Shared->Prop}{lo hi:Int}{t u v:Tok}{tk:Nat}(I:Inv X pins σ H s)(h1: -(2 ^ 62)<=lo)(h2:lo < 2 ^ 62)(h3: -(2 ^ 62)<=hi)(h4:hi < 2 ^ 62)
  (q:R (Itr lo (hi - lo).toNat) H):wpAny (model X.prog X.w) X.A (pyIter (.ref s.heap.objs.size)) (PIE X pins σ tg R) E {s with heap:=s.heap.push {cls:= .type "range",data:= .fields #[.int lo t,.int hi u,.int 1 v]},toks:=tk}:=by
 refine wpAny_pyIter_range (IsRange.new ..) (small_one h1 h2 h3 h4) ?_
 have I1:Inv X pins σ H {s with heap:=s.heap.push {cls:= .type "range",data:= .fields #[.int lo t,.int hi u,.int 1 v]},toks:=tk}:=I.kept fun b o e=>AC _ e
 refine⟨(s.heap.push {cls:= .type "range",data:= .fields #[.int lo t,.int hi u,.int 1 v]}).objs.size,[(s.heap.push {cls:= .type "range",data:= .fields #[.int lo t,.int hi u,.int 1 v]}).objs.size],_,_,H,rfl,
  I1.kept (t':=tk) fun b o e=>AC _ e,a8u _ lo (hi - lo).toNat,?_,fun b hb=>?_,q⟩
 ·have e1:lo+((0:Nat):Int)*1=lo:=by simp
  have e2:(((hi - lo).toNat:Nat):Int) - ((0:Nat):Int)=Builtin.Range.rangeSize lo hi 1:=by rw[rangeSize_one];split<;>omega
  show IsRangeIter _ _ (lo+((0:Nat):Int)*1) ((((hi - lo).toNat:Nat):Int) - ((0:Nat):Int)) 1
  rw[e1,e2]
  exact AG _ rfl
 ·have e:b=(s.heap.push {cls:= .type "range",data:= .fields #[.int lo t,.int hi u,.int 1 v]}).objs.size:=by simpa using hb
  subst e
  exact I1.fpOk (AD _) (I1.hok.fresh (AD _))
noncomputable def b5g (ta:TA):TI:=fun σ H R=>ta σ H fun vs H1=>∃j:Int,vs=[.int j]/\ -(2 ^ 62)<=j/\j < 2 ^ 62/\R (Itr 0 j.toNat) H1
theorem a3G{a:Expr}{ta:TA}{p pos:Pos}(hg:Gl X "range")(hm:X.mg "range"=none)(ha:PA X [a] ta)(hs:starEach [a] X.env=[(false,eval a X.env)]:=by rfl):PI X tg (.Call (.Name "range" p) [a] [] pos) (b5g ta):=by
 intro pins s σ H R I h
 refine Call_ (a2t I hg hm boot_range (PyProof.Rows.callWith_type1 (thn (ha pos pins s σ H _ I h) fun us s1⟨vs,H1,I1,r1,q1⟩=>?_) hs rfl))
 obtain⟨j,e,q1,q2,q⟩:=q1
 subst e
 cases r1 with
 | cons r rr=>
  cases rr
  obtain⟨t,rfl⟩:=r
  exact call_range_1 (b1M I1 (by omega) (by omega) q1 q2 (by simpa using q))
noncomputable def b5K (wi:TI) (g:TG) (tb:TS):TS:=fun D σ H=>wi σ H fun J H1=>∃W:Nat->Nat->St->Hp->Prop,(∃m,W 0 m σ H1)/\∀i m σ H,W i m σ H->
 (J.stop i H/\D.nx σ H)\/(J.go i H/\∃N:St->Hp->Prop,(∀σ' H',N σ' H'->∃m',m' < m/\W (i+1) m' σ' H')/\∀x H',J.yld i H x H'->g x σ H' fun σ2 H2=>tb {D with nx:=N,ct:=N,bk:=D.nx} σ2 H2)
noncomputable def a4T (fp:List Addr) (h:Heap):List (Addr×Obj):=fp.filterMap fun b=>(h.get? b).map fun o=>(b,o)
theorem a1Q{fp:List Addr}{h:Heap}{b:Addr}{o:Obj}(hb:b∈fp)(e:h.get? b=some o):(b,o)∈a4T fp h:=List.mem_filterMap.mpr ⟨b,hb,by rw[e];rfl⟩
theorem b0g{fp:List Addr}{h:Heap}{p:Addr×Obj}(hp:p∈a4T fp h):p.1∈fp/\h.get? p.1=some p.2:=by
 obtain⟨b,hb,e⟩:=List.mem_filterMap.mp hp
 cases q:h.get? b with
 | none=>rw[q]at e;cases e
 | some o=>
  rw[q]at e
  have e':(b,o)=p:=Option.some.inj e
  subst e'
  exact⟨hb,q⟩
theorem Inv.pinned{pins:List (Addr×Obj)}{σ:St}{H:Hp}{s:Shared}{fp:List Addr}(I:Inv X pins σ H s)(hf:∀b∈fp,a4l X pins H b)(ho:∀b∈fp,∃o,s.heap.get? b=some o/\∀v,o.data≠ .cell v):Inv X (pins++a4T fp s.heap) σ H s:=
 I.pins_of fun p hp=>(List.mem_append.mp hp).elim (fun z=>I.pin p (AU _ z)) fun z=>by
  obtain⟨hb,e⟩:=b0g z
  obtain⟨f0,f1,f2,_⟩:=hf p.1 hb
  obtain⟨o,e',d⟩:=ho p.1 hb
  rw[e]at e';cases e'
  exact⟨e,f0,f1,f2,d⟩
theorem Inv.unpinned{pins pl:List (Addr×Obj)}{σ:St}{H:Hp}{s:Shared}(I:Inv X (pins++pl) σ H s):Inv X pins σ H s:=I.pins_of fun p hp=>I.pin p (AU _ (List.mem_append_left _ hp))
theorem F7{iter:Expr}{body:List Stmt}{wi:TI}{g:TG}{tb:TS}{pos:Pos}(hp:PassesOwn (model X.prog X.w) X.A X.env X.xe)(hc:X.calm=true)(hi:PI X tg iter wi)(hg:PG X tg g)(hb:PSs X body tb)
  (hs:∀x,foldedSetIterable iter X.env x=pure x:=by intro _;rfl):PS X (.For tg iter body [] pos) (b5K wi g tb):=by
 intro pins s σ H D I h
 refine wpAny_For (thn (hi pins s σ H _ I h) fun v s1 h1=>thn h1 fun itv s2 h2=>?_) hs
 obtain⟨it,fp,tn,J,H2,e,I2,T,st2,f2,W,⟨m0,w0⟩,turn⟩:=h2
 subst e
 have stat:∀{H':Hp},(∀b∈fp,H' b=none)->∀b∈fp,a4l X pins H' b:=fun hn b hb=>⟨hn b hb,(f2 b hb).2⟩
 refine codeAny_forLoop_any (fun n s'=>∃i σ' H',Inv X pins σ' H' s'/\tn i s'.heap/\(∀b∈fp,H' b=none)/\W i n σ' H') ?_ m0 ⟨0,σ,H2,I2,st2,fun b hb=>(f2 b hb).1,w0⟩
 rintro n s3 ⟨i,σ3,H3,I3,st3,fr3,w3⟩
 rcases turn i n σ3 H3 w3 with⟨stop,qn⟩ | ⟨go,N,hN,step⟩
 ·refine wpAny_passesOwn hp (thn (T.done X rfl rfl rfl hc i pins s3 σ3 H3 X.xe I3 (stat fr3) st3 stop) fun r s4⟨hr,I4⟩=>?_)
  subst hr
  exact wpAny_execs_nil ⟨σ3,H3,I4,qn⟩
 ·refine wpAny_passesOwn hp (thn (T.item X rfl rfl rfl hc i pins s3 σ3 H3 X.xe I3 (stat fr3) st3 go) fun r s4⟨u,hr,h4⟩=>?_)
  subst hr
  refine wpAny_passesOwn hp (thn h4 fun _ s5⟨x,H5,I5,r5,y5,st5,fr5⟩=>?_)
  have I5':=I5.pinned (stat fr5) (T.obj _ _ st5)
  refine wpAny_passesOwn hp (thn (hg _ s5 σ3 H5 x u _ I5' r5 (step x H5 y5)) fun _ s6⟨σ6,H6,I6,q6⟩=>?_)
  refine wpAny_passesOwn hp (thn (hb _ s6 σ6 H6 _ I6 q6) fun f s7 q7=>?_)
  have again:∀{σ7:St}{H7:Hp},Inv X (pins++a4T fp s5.heap) σ7 H7 s7->N σ7 H7->∃m,m < n/\∃i σ' H',Inv X pins σ' H' s7/\tn i s7.heap/\(∀b∈fp,H' b=none)/\W i m σ' H':=fun{σ7 H7}I7 n7=>by
   obtain⟨m',hm,w7⟩:=hN σ7 H7 n7
   refine⟨m',hm,i+1,σ7,H7,I7.unpinned,T.keep _ _ _ st5 fun b hb o e=>(I7.pin (b,o) (AU _ (AU _ (a1Q hb e)))).1,fun b hb=>?_,w7⟩
   obtain⟨o,e,d⟩:=T.obj _ _ st5 b hb
   exact(I7.pin (b,o) (AU _ (AU _ (a1Q hb e)))).2.1
  cases f with
  | next=>obtain⟨σ7,H7,I7,n7⟩:=q7;exact again I7 n7
  | cont=>obtain⟨σ7,H7,I7,n7⟩:=q7;exact again I7 n7
  | brk=>obtain⟨σ7,H7,I7,q7⟩:=q7;exact⟨σ7,H7,I7.unpinned,q7⟩
  | ret v=>obtain⟨x7,σ7,H7,I7,r7,q7⟩:=q7;exact⟨x7,σ7,H7,I7.unpinned,r7,q7⟩
end
theorem a2v{K:W.Frag}{a:Addr}{xs:List V}{g:TG}{tb:TS}{D:a1T}{σ:St}{H:Hp}(Pv:Nat->St->Hp->Prop)(h0:Pv 0 σ H)(hl:∀i σ H,i<=xs.length->Pv i σ H->SqL K H a xs)
  (hs:∀i x σ H,xs[i]?=some x->Pv i σ H->g x σ H fun σ2 H2=>tb {D with nx:=Pv (i+1),ct:=Pv (i+1),bk:=D.nx} σ2 H2)(hd:∀σ H,Pv xs.length σ H->D.nx σ H):
  ∃W:Nat->Nat->St->Hp->Prop,(∃m,W 0 m σ H)/\∀i m σ H,W i m σ H->
   ((Itl K a).stop i H/\D.nx σ H)\/((Itl K a).go i H/\∃N:St->Hp->Prop,(∀σ' H',N σ' H'->∃m',m' < m/\W (i+1) m' σ' H')/\∀x H',(Itl K a).yld i H x H'->g x σ H' fun σ2 H2=>tb {D with nx:=N,ct:=N,bk:=D.nx} σ2 H2):=by
 refine⟨fun i m σ H=>m=xs.length - i/\i<=xs.length/\Pv i σ H,⟨xs.length,by simp,Nat.zero_le _,h0⟩,?_⟩
 rintro i m σ H ⟨rfl,hi,p⟩
 have q:=hl i σ H hi p
 by_cases hlt:i < xs.length
 ·refine .inr ⟨⟨xs,xs[i],q,by simp[hlt]⟩,Pv (i+1),fun σ' H' p'=>⟨xs.length - (i+1),by omega,rfl,hlt,p'⟩,fun x H' y=>?_⟩
  obtain⟨e,y⟩:=y
  subst e
  exact hs i x σ _ (y xs q) p
 ·have e:i=xs.length:=by omega
  subst e
  exact .inl ⟨⟨xs,q,AD _⟩,hd σ H p⟩
theorem a0n{K:W.Frag}{a:Addr}{xs:List V}{g:TG}{tb:TS}{D:a1T}{σ:St}{H:Hp}(Pv:Nat->St->Hp->Prop)(h0:Pv 0 σ H)(hl:∀i σ H,i<=xs.length->Pv i σ H->SqT K H a xs)
  (hs:∀i x σ H,xs[i]?=some x->Pv i σ H->g x σ H fun σ2 H2=>tb {D with nx:=Pv (i+1),ct:=Pv (i+1),bk:=D.nx} σ2 H2)(hd:∀σ H,Pv xs.length σ H->D.nx σ H):
  ∃W:Nat->Nat->St->Hp->Prop,(∃m,W 0 m σ H)/\∀i m σ H,W i m σ H->
   ((Itt K a).stop i H/\D.nx σ H)\/((Itt K a).go i H/\∃N:St->Hp->Prop,(∀σ' H',N σ' H'->∃m',m' < m/\W (i+1) m' σ' H')/\∀x H',(Itt K a).yld i H x H'->g x σ H' fun σ2 H2=>tb {D with nx:=N,ct:=N,bk:=D.nx} σ2 H2):=by
 refine⟨fun i m σ H=>m=xs.length - i/\i<=xs.length/\Pv i σ H,⟨xs.length,by simp,Nat.zero_le _,h0⟩,?_⟩
 rintro i m σ H ⟨rfl,hi,p⟩
 have q:=hl i σ H hi p
 by_cases hlt:i < xs.length
 ·refine .inr ⟨⟨xs,xs[i],q,by simp[hlt]⟩,Pv (i+1),fun σ' H' p'=>⟨xs.length - (i+1),by omega,rfl,hlt,p'⟩,fun x H' y=>?_⟩
  obtain⟨e,y⟩:=y
  subst e
  exact hs i x σ _ (y xs q) p
 ·have e:i=xs.length:=by omega
  subst e
  exact .inl ⟨⟨xs,q,AD _⟩,hd σ H p⟩
theorem a5e{c:TT}{tb:TS}{D:a1T}{σ:St}{H:Hp}(Pv:St->Hp->Prop)(μ:St->Hp->Nat)(h0:Pv σ H)
  (hs:∀σ H,Pv σ H->c σ H fun b H1=>if b=true then tb {D with nx:=fun σ' H'=>Pv σ' H'/\μ σ' H' < μ σ H,ct:=fun σ' H'=>Pv σ' H'/\μ σ' H' < μ σ H,bk:=D.nx} σ H1 else D.nx σ H1)
  (mono:∀σ H Q Q',(∀b H1,Q b H1->Q' b H1)->c σ H Q->c σ H Q'):a6D c tb D σ H:=by
 refine⟨fun m σ H=>m=μ σ H/\Pv σ H,⟨_,rfl,h0⟩,?_⟩
 rintro m σ H ⟨rfl,p⟩
 refine mono σ H _ _ (fun b H1 q=>?_) (hs σ H p)
 cases b with
 | true=>exact⟨_,fun σ' H'⟨p',l⟩=>⟨_,l,rfl,p'⟩,q⟩
 | false=>exact q
end L2
namespace L2
open PySem PySem.Spec PyProof.Rows
noncomputable abbrev R2:=V->V->Hp->VK->Prop
noncomputable def OpR (X:Cx) (f:Value->Value->Sem Value) (r:R2):Prop:=
 ∀(pins:List (Addr×Obj))(s:Shared)(σ:St)(H:Hp)(x y:V)(v u:Value)(Q:VK),Inv X pins σ H s->W7 x v->W7 y u->r x y H Q->
  wpAny (model X.prog X.w) X.A (f v u) (EP X pins σ Q) X.xe s
noncomputable def a0R (X:Cx) (f:Value) (r:List V->Hp->VK->Prop):Prop:=
 ∀(pins:List (Addr×Obj))(s:Shared)(σ:St)(H:Hp)(xs:List V)(us:List Value)(Q:VK),Inv X pins σ H s->W0 xs us->r xs H Q->
  wpAny (model X.prog X.w) X.A (call f us) (EP X pins σ Q) X.xe s
noncomputable def b5V (X:Cx) (r:V->Hp->(Bool->Hp->Prop)->Prop):Prop:=
 ∀(pins:List (Addr×Obj))(s:Shared)(σ:St)(H:Hp)(x:V)(v:Value)(Q:Bool->Hp->Prop),Inv X pins σ H s->W7 x v->r x H Q->
  wpAny (model X.prog X.w) X.A (truthy v) (TP X pins σ Q) X.xe s
noncomputable def tOp (r:R2) (ta tb:TE):TE:=fun σ H Q=>ta σ H fun x H1=>tb σ H1 fun y H2=>r x y H2 Q
noncomputable def rI (C:Int->Int->Prop) (g:Int->Int->V):R2:=fun x y H Q=>∃i j,x= .int i/\y= .int j/\C i j/\Q (g i j) H
noncomputable def rI0 (g:Int->Int->V):R2:=fun x y H Q=>∃i j,x= .int i/\y= .int j/\Q (g i j) H
section
variable{X:Cx}{a b c:Expr}{ta tb tc:TE}{pos:Pos}
theorem b4i(ha:PE X a ta)(hb:PE X b tb){pins:List (Addr×Obj)}{s:Shared}{σ:St}{H:Hp}{R:V->V->Hp->Prop}(I:Inv X pins σ H s)
  (h:ta σ H fun x H1=>tb σ H1 fun y H2=>R x y H2){Q:Value->Shared->Prop}{f:Value->Value->Sem Value}
  (hf:∀v u s2 x y H2,Inv X pins σ H2 s2->W7 x v->W7 y u->R x y H2->wpAny (model X.prog X.w) X.A (f v u) Q X.xe s2):
  wpAny (model X.prog X.w) X.A (eval a X.env) (fun v s₁=>wpAny (model X.prog X.w) X.A (eval b X.env) (fun u s₂=>wpAny (model X.prog X.w) X.A (f v u) Q X.xe s₂) X.xe s₁) X.xe s:=by
 refine thn (ha pins s σ H _ I h) fun v s1⟨x,H1,I1,r1,q1⟩=>?_
 refine thn (hb pins s1 σ H1 _ I1 q1) fun u s2⟨y,H2,I2,r2,q2⟩=>?_
 exact hf v u s2 x y H2 I2 r1 r2 q2
theorem U6{op:Operator}{r:R2}(ho:OpR X (binaryOp op) r)(ha:PE X a ta)(hb:PE X b tb):PE X (.BinOp a op b pos) (tOp r ta tb):=by
 intro pins s σ H Q I h
 exact wpAny_BinOp (b4i ha hb I h fun v u s2 x y H2 I2 rx ry q=>ho pins s2 σ H2 x y v u Q I2 rx ry q)
theorem opI{f:Value->Value->Sem Value}{C:Int->Int->Prop}{g:Int->Int->Int}
  (rule:∀(i j:Int)(t u:Tok)(s:Shared)(Q:Value->Shared->Prop)(E:Value->Shared->Prop),C i j->Q (.int (g i j) s.toks) {s with toks:=s.toks+1}->wpAny (model X.prog X.w) X.A (f (.int i t) (.int j u)) Q E s):
  OpR X f (rI C fun i j=> .int (g i j)):=by
 intro pins s σ H x y v u Q I rx ry h
 obtain⟨i,j,rfl,rfl,hc,q⟩:=h
 obtain⟨t,rfl⟩:=rx
 obtain⟨t',rfl⟩:=ry
 exact rule i j t t' s _ _ hc ⟨.int (g i j),H,I.tok _,⟨_,rfl⟩,q⟩
theorem b4W{f:Value->Value->Sem Value}{g:Int->Int->Int}
  (rule:∀(i j:Int)(t u:Tok)(s:Shared)(Q:Value->Shared->Prop)(E:Value->Shared->Prop),Q (.int (g i j) s.toks) {s with toks:=s.toks+1}->wpAny (model X.prog X.w) X.A (f (.int i t) (.int j u)) Q E s):
  OpR X f (rI0 fun i j=> .int (g i j)):=by
 intro pins s σ H x y v u Q I rx ry h
 obtain⟨i,j,rfl,rfl,q⟩:=h
 obtain⟨t,rfl⟩:=rx
 obtain⟨t',rfl⟩:=ry
 exact rule i j t t' s _ _ ⟨.int (g i j),H,I.tok _,⟨_,rfl⟩,q⟩
theorem b3F{f:Value->Value->Sem Value}{g:Int->Int->Bool}
  (rule:∀(i j:Int)(t u:Tok)(s:Shared)(Q:Value->Shared->Prop)(E:Value->Shared->Prop),Q (.bool (g i j)) s->wpAny (model X.prog X.w) X.A (f (.int i t) (.int j u)) Q E s):
  OpR X f (rI0 fun i j=> .bl (g i j)):=by
 intro pins s σ H x y v u Q I rx ry h
 obtain⟨i,j,rfl,rfl,q⟩:=h
 obtain⟨t,rfl⟩:=rx
 obtain⟨t',rfl⟩:=ry
 exact rule i j t t' s _ _ ⟨.bl (g i j),H,I,rfl,q⟩
noncomputable def b5I (i j:Int):Prop:=0 < j/\j < 1073741824
noncomputable def b5Y (i j:Int):Prop:=0<=j/\j<=1000000/\i.natAbs < 2 ^ 64
noncomputable def b3K (i j:Int):Prop:=(-(2 ^ 64) < i/\i < 2 ^ 64)\/(-(2 ^ 64) < j/\j < 2 ^ 64)
theorem b3K.ok{i j:Int}(h:b3K i j):IntMulOk i j:=by
 rcases h with⟨h1,h2⟩ | ⟨h1,h2⟩
 ·exact .of_left (intBits_le_64 h1 h2)
 ·exact .of_right (intBits_le_64 h1 h2)
theorem a4G:OpR X (binaryOp .Add) (rI0 fun i j=> .int (i+j)):=b4W fun _ _ _ _ _ _ _ q=>add_int q
theorem a3x:OpR X (binaryOp .Sub) (rI0 fun i j=> .int (i - j)):=b4W fun _ _ _ _ _ _ _ q=>sub_int q
theorem a8i:OpR X (binaryOp .Mult) (rI b3K fun i j=> .int (i*j)):=opI fun _ _ _ _ _ _ _ hc q=>mul_int q hc.ok
theorem a0X:OpR X (binaryOp .FloorDiv) (rI b5I fun i j=> .int (i/j)):=opI fun i j _ _ _ _ _ hc q=>by
 have h1:(0:Int) < j:=hc.1
 have h2:j < 1073741824:=hc.2
 exact floordiv_int (by omega) (by rw[Int.fdiv_eq_ediv_of_nonneg i (by omega)];exact q) (.inl (PyProof.noPylong_small (by omega)))
theorem a0M:OpR X (binaryOp .Mod) (rI (fun _ j=>0 < j) fun i j=> .int (i % j)):=opI fun i j _ _ _ _ _ hc q=>by
 have h1:(0:Int) < j:=hc
 exact mod_int' (by omega) (by rw[Int.fmod_eq_emod_of_nonneg i (by omega)];exact q)
theorem a7Z:OpR X (binaryOp .Pow) (rI b5Y fun i j=> .int (i ^ j.toNat)):=opI fun _ _ _ _ _ _ _ hc q=>pow_int_small hc.1 hc.2.1 hc.2.2 q
end
noncomputable def b4X:V->V->Bool
 | .non,.non=>true | .non,.int _=>true | .int _,.non=>true | .non,.bl _=>true | .bl _,.non=>true | .non,.str _=>true | .str _,.non=>true
 | .int _,.int _=>true | .bl _,.bl _=>true | .str _,.str _=>true | .byt _,.byt _=>true
 | .int _,.str _=>true | .str _,.int _=>true | .bl _,.str _=>true | .str _,.bl _=>true
 | _,_=>false
noncomputable def rEq:R2:=fun x y H Q=>b4X x y=true/\Q (.bl (decide (x=y))) H
noncomputable def rNe:R2:=fun x y H Q=>b4X x y=true/\Q (.bl (!decide (x=y))) H
theorem a8M{i j:Int}:decide (V.int i=V.int j)=(i==j):=by
 rw[Bool.eq_iff_iff]
 simp
theorem b2a{i j:Bool}:decide (V.bl i=V.bl j)=(i==j):=by
 rw[Bool.eq_iff_iff]
 simp
theorem a8X{i j:Str}:decide (V.str i=V.str j)=(i==j):=by
 rw[Bool.eq_iff_iff]
 simp
theorem a8I{i j:Array UInt8}:decide (V.byt i=V.byt j)=(i.toList==j.toList):=by
 rw[Bool.eq_iff_iff]
 cases i
 cases j
 simp
section
variable{X:Cx}{a b c:Expr}{ta tb tc:TE}{pos:Pos}
theorem Y6{pins:List (Addr×Obj)}{σ:St}{H:Hp}{s:Shared}{Q:VK}{k k':Bool}(I:Inv X pins σ H s)(q:Q (.bl k) H)(e:k=k'):EP X pins σ Q (.bool k') s:=by
 subst e
 exact⟨.bl k,H,I,rfl,q⟩
theorem D4:OpR X (compareOp .Eq) rEq:=by
 intro pins s σ H x y v u Q I rx ry h
 obtain⟨hs,q⟩:=h
 cases x with
 | non=>
  cases rx
  cases y with
  | non=>cases ry;exact PySem.EqNone.eq_none_none (Y6 I q (by simp))
  | bl j=>cases ry;exact PySem.EqNone.eq_none_bool (Y6 I q (by simp))
  | int j=>obtain⟨t',rfl⟩:=ry;exact PySem.EqNone.eq_none_int (Y6 I q (by simp))
  | str j=>obtain⟨t',rfl⟩:=ry;exact PySem.EqNone.eq_none_str (Y6 I q (by simp))
  | _=>exact absurd (show false=true from hs) AE
 | bl i=>
  cases rx
  cases y with
  | non=>cases ry;exact PySem.EqNone.eq_bool_none (Y6 I q (by simp))
  | bl j=>cases ry;exact eq_bool (Y6 I q b2a)
  | str j=>obtain⟨t',rfl⟩:=ry;exact PySem.EqMixed.eq_bool_str (Y6 I q (by simp))
  | _=>exact absurd (show false=true from hs) AE
 | int i=>
  obtain⟨t,rfl⟩:=rx
  cases y with
  | non=>cases ry;exact PySem.EqNone.eq_int_none (Y6 I q (by simp))
  | int j=>obtain⟨t',rfl⟩:=ry;exact eq_int (Y6 I q a8M)
  | str j=>obtain⟨t',rfl⟩:=ry;exact PySem.EqMixed.eq_int_str (Y6 I q (by simp))
  | _=>exact absurd (show false=true from hs) AE
 | str i=>
  obtain⟨t,rfl⟩:=rx
  cases y with
  | non=>cases ry;exact PySem.EqNone.eq_str_none (Y6 I q (by simp))
  | bl j=>cases ry;exact PySem.EqMixed.eq_str_bool (Y6 I q (by simp))
  | int j=>obtain⟨t',rfl⟩:=ry;exact PySem.EqMixed.eq_str_int (Y6 I q (by simp))
  | str j=>obtain⟨t',rfl⟩:=ry;exact eq_str (Y6 I q a8X)
  | _=>exact absurd (show false=true from hs) AE
 | byt i=>
  obtain⟨t,rfl⟩:=rx
  cases y with
  | byt j=>obtain⟨t',rfl⟩:=ry;exact W.eq_bytes (Y6 I q a8I)
  | _=>exact absurd (show false=true from hs) AE
 | _=>cases y<;>exact absurd (show false=true from hs) AE
theorem b1q:OpR X (compareOp .NotEq) rNe:=by
 intro pins s σ H x y v u Q I rx ry h
 obtain⟨hs,q⟩:=h
 cases x with
 | non=>
  cases rx
  cases y with
  | non=>cases ry;exact PySem.EqNone.ne_none_none (Y6 I q (by simp))
  | bl j=>cases ry;exact PySem.EqNone.ne_none_bool (Y6 I q (by simp))
  | int j=>obtain⟨t',rfl⟩:=ry;exact PySem.EqNone.ne_none_int (Y6 I q (by simp))
  | str j=>obtain⟨t',rfl⟩:=ry;exact PySem.EqNone.ne_none_str (Y6 I q (by simp))
  | _=>exact absurd (show false=true from hs) AE
 | bl i=>
  cases rx
  cases y with
  | non=>cases ry;exact PySem.EqNone.ne_bool_none (Y6 I q (by simp))
  | bl j=>cases ry;exact ne_bool (Y6 I q (congrArg not b2a))
  | str j=>obtain⟨t',rfl⟩:=ry;exact PySem.EqMixed.ne_bool_str (Y6 I q (by simp))
  | _=>exact absurd (show false=true from hs) AE
 | int i=>
  obtain⟨t,rfl⟩:=rx
  cases y with
  | non=>cases ry;exact PySem.EqNone.ne_int_none (Y6 I q (by simp))
  | int j=>obtain⟨t',rfl⟩:=ry;exact ne_int (Y6 I q (congrArg not a8M))
  | str j=>obtain⟨t',rfl⟩:=ry;exact PySem.EqMixed.ne_int_str (Y6 I q (by simp))
  | _=>exact absurd (show false=true from hs) AE
 | str i=>
  obtain⟨t,rfl⟩:=rx
  cases y with
  | non=>cases ry;exact PySem.EqNone.ne_str_none (Y6 I q (by simp))
  | bl j=>cases ry;exact PySem.EqMixed.ne_str_bool (Y6 I q (by simp))
  | int j=>obtain⟨t',rfl⟩:=ry;exact PySem.EqMixed.ne_str_int (Y6 I q (by simp))
  | str j=>obtain⟨t',rfl⟩:=ry;exact ne_str (Y6 I q (congrArg not a8X))
  | _=>exact absurd (show false=true from hs) AE
 | byt i=>
  obtain⟨t,rfl⟩:=rx
  cases y with
  | byt j=>obtain⟨t',rfl⟩:=ry;exact W.ne_bytes (Y6 I q (congrArg not a8I))
  | _=>exact absurd (show false=true from hs) AE
 | _=>cases y<;>exact absurd (show false=true from hs) AE
theorem b4y:OpR X (compareOp .Lt) (rI0 fun i j=> .bl (decide (i < j))):=b3F fun _ _ _ _ _ _ _ q=>lt_int q
theorem b1F:OpR X (compareOp .LtE) (rI0 fun i j=> .bl (decide (i<=j))):=b3F fun _ _ _ _ _ _ _ q=>le_int q
theorem b5h:OpR X (compareOp .Gt) (rI0 fun i j=> .bl (decide (j < i))):=b3F fun _ _ _ _ _ _ _ q=>gt_int q
theorem U8(b:Expr){op:CmpOp}(h:op≠ .In:=by decide)(h2:op≠ .NotIn:=by decide):behindInMarks op b=false:=by
 have e1:(op==CmpOp.In)=false:=by cases op<;>first | rfl | exact absurd rfl h
 have e2:(op==CmpOp.NotIn)=false:=by cases op<;>first | rfl | exact absurd rfl h2
 cases b<;>simp[behindInMarks,e1,e2]
theorem a8E{op:CmpOp}{r:R2}(ho:OpR X (compareOp op) r)(ha:PE X a ta)(hb:PE X b tb)(hm:behindInMarks op b=false):PE X (.Compare a [op] [b] pos) (tOp r ta tb):=by
 intro pins s σ H Q I h
 exact wpAny_Compare1 (b4i ha hb I h fun v u s2 x y H2 I2 rx ry q=>ho pins s2 σ H2 x y v u Q I2 rx ry q) hm
noncomputable def b4L (t:TE):TT:=fun σ H Q=>t σ H fun x H'=>∃k,x= .bl k/\Q k H'
theorem U0{op:CmpOp}{r:R2}(ho:OpR X (compareOp op) r)(ha:PE X a ta)(hb:PE X b tb)(hm:behindInMarks op b=false):PT X (.Compare a [op] [b] pos) (b4L (tOp r ta tb)):=by
 intro pins s σ H Q I h
 refine wpAny_isTrue_Compare1 (thn (ha pins s σ H _ I h) fun v s1⟨x,H1,I1,r1,q1⟩=>thn (hb pins s1 σ H1 _ I1 q1) fun u s2⟨y,H2,I2,r2,q2⟩=>
  thn (ho pins s2 σ H2 x y v u _ I2 r1 r2 q2) fun c s3⟨z,H3,I3,r3,k,e,q3⟩=>?_) hm
 subst e
 cases r3
 exact wpAny_truthy_bool ⟨H3,I3,q3⟩
noncomputable def b4S (K:W.Frag) (x:V) (H:Hp) (k:Bool):Prop:=
 match x with
 | .non=>k=false
 | .bl b=>k=b
 | .int i=>k=(i != 0)
 | .str y=>y.length<=sizeLine/\k=((y.length:Int) != 0)
 | .byt y=>y.size<=sizeLine/\k=((y.size:Int) != 0)
 | .ref p=>(∃xs,SqL K H p xs/\k= !xs.isEmpty)\/(∃xs,SqT K H p xs/\k= !xs.isEmpty)\/∃kvs,H p=some (.dK kvs)/\k= !kvs.isEmpty
 | _=>False
theorem a7P{κ:Type}{kvs:List (κ×V)}{vs:List (κ×Value)}(r:KV kvs vs):(!vs.isEmpty)= !kvs.isEmpty:=by
 cases r<;>rfl
theorem a4Z{xs:List V}{its:List Value}(r:W0 xs its):(!its.toArray.isEmpty)= !xs.isEmpty:=by
 cases r<;>simp
theorem a3E:(sizeLine:Nat) < 2 ^ 63:=by rw[sizeLine_eq];decide
theorem b3S:b5V X (fun x H Q=>∃k,b4S X.K x H k/\Q k H):=by
 intro pins s σ H x v Q I rx h
 obtain⟨k,e,q⟩:=h
 have hl:=a3E
 have hs:sizeLine=16777216:=sizeLine_eq
 cases x with
 | non=>
  cases rx
  have e':k=false:=e
  subst e'
  exact truthy_none ⟨H,I,q⟩
 | bl b=>
  cases rx
  have e':k=b:=e
  subst e'
  exact wpAny_truthy_bool ⟨H,I,q⟩
 | int i=>
  obtain⟨t,rfl⟩:=rx
  have e':k=(i != 0):=e
  subst e'
  exact PySem.P.truthy_int ⟨H,I,q⟩
 | str y=>
  obtain⟨t,rfl⟩:=rx
  obtain⟨hy,e'⟩:y.length<=sizeLine/\k=((y.length:Int) != 0):=e
  subst e'
  exact PySem.P.truthy_str (by omega) ⟨H,I.tok _,q⟩
 | byt y=>
  obtain⟨t,rfl⟩:=rx
  obtain⟨hy,e'⟩:y.size<=sizeLine/\k=((y.size:Int) != 0):=e
  subst e'
  exact W.truthy_bytes (by omega) ⟨H,I.tok _,q⟩
 | ref p=>
  cases rx
  have e':(∃xs,SqL X.K H p xs/\k= !xs.isEmpty)\/(∃xs,SqT X.K H p xs/\k= !xs.isEmpty)\/∃kvs,H p=some (.dK kvs)/\k= !kvs.isEmpty:=e
  rcases e' with⟨xs,hx,e'⟩ | ⟨xs,hx,e'⟩ | ⟨kvs,hx,e'⟩
  ·subst e'
   obtain⟨its,r,pl,hz⟩:=I.list hx
   have hlen:=r.length
   exact wpAny_truthy_list pl.isList (by simp only[List.size_toArray];omega) ⟨H,I.tok _,by rw[a4Z r];exact q⟩
  ·subst e'
   obtain⟨its,r,pl,hz⟩:=I.tuple hx
   have hlen:=r.length
   exact truthy_tuple pl (by simp only[List.size_toArray];omega) ⟨H,I.tok _,by rw[a4Z r];exact q⟩
  ·subst e'
   obtain⟨hz,hS,vs,r,m⟩:kvs.length<=sizeLine/\(p==sysModules)=false/\∃vs,KV kvs vs/\s.heap.DictOf (E8 X.prog X.w) p vs:=I.hok p _ hx
   have hlen:kvs.length=vs.length:=AF r
   exact wpAny_truthy_dict hS m (by omega) ⟨H,I.tok _,by rw[a7P r];exact q⟩
 | _=>exact(show False from e).elim
theorem a5l(ha:PE X a ta)(he:∀whole,isTrue a X.env whole=(do let v<-whole;standAt a.pos;holding [v] (truthy v))):
  PT X a (fun σ H Q=>ta σ H fun x H'=>∃k,b4S X.K x H' k/\Q k H'):=by
 intro pins s σ H Q I h
 exact isTrue_plain (thn (ha pins s σ H _ I h) fun v s1⟨x,H1,I1,r1,q1⟩=>b3S pins s1 σ H1 x v Q I1 r1 q1) (he _)
theorem a5h:OpR X (binaryOp .Add) (fun x y H Q=>∃i j,x= .str i/\y= .str j/\i.length+j.length<=sizeLine/\Q (.str (i++j)) H):=by
 intro pins s σ H x y v u Q I rx ry h
 obtain⟨i,j,rfl,rfl,hz,q⟩:=h
 obtain⟨t,rfl⟩:=rx
 obtain⟨t',rfl⟩:=ry
 exact add_str (fun t' tk=>⟨.str (i++j),H,I.tok _,⟨_,rfl⟩,q⟩) hz
theorem a4f{x:V}{us:List Value}(r:W0 [x] us):∃u,us=[u]/\W7 x u:=by
 cases r with
 | cons r1 r2=>cases r2;exact⟨_,rfl,r1⟩
theorem b3n{x y:V}{us:List Value}(r:W0 [x,y] us):∃u w',us=[u,w']/\W7 x u/\W7 y w':=by
 cases r with
 | cons r1 r2=>
  cases r2 with
  | cons r3 r4=>cases r4;exact⟨_,_,rfl,r1,r3⟩
theorem a6I:a0R X (.type "str") (fun xs H Q=>∃i,xs=[.int i]/\i.natAbs.log2 < 1920/\Q (.str (toString i)) H):=by
 intro pins s σ H xs us Q I r h
 obtain⟨i,rfl,hz,q⟩:=h
 obtain⟨u,rfl,t,rfl⟩:=a4f r
 exact PySem.P.str_of_int hz ⟨.str _,H,I.tok _,⟨_,rfl⟩,q⟩
end
end L2
namespace L2
open PySem PySem.Spec PyProof.Rows
structure a8l(h:Heap)(x dx C:Addr)(mA:Str->Option Value):Prop where
 obj:h.get? x=some (W.instObj C dx)
 ns:h.Ns1 dx mA
 ne:dx≠x
theorem b0k{h:Heap}{dx:Addr}{mA:Str->Option Value}(n:h.Ns1 dx mA):∃od,h.get? dx=some od/\∀name,W.lookIn name od=some (mA name):=by
 obtain⟨o,es,ep,ho,hd,hk,_,hm⟩:=n
 refine⟨o,ho,fun name=>?_⟩
 have e:=hm name
 unfold nsFind findBy at e
 rw[<-Array.find?_toList]at e
 unfold W.lookIn
 rw[hd]
 dsimp only
 split
 ·rename_i y q
  rw[q]at e
  exact congrArg some e
 ·rename_i q
  rw[q]at e
  have a:es.toList.any (·.refKey)=false:=by
   rw[List.any_eq_false]
   intro y hy
   obtain⟨z,t,hkey⟩:=hk y (Array.mem_toList_iff.mp hy)
   simp[DictEntry.refKey,hkey]
  have a':¬es.toList.any (·.refKey)=true:=by rw[a];exact AE
  rw[if_neg a']
  exact congrArg some e
theorem a8l.look{h:Heap}{x dx C:Addr}{mA:Str->Option Value}(I:a8l h x dx C mA):∃od,W.InstAt h x (W.instObj C dx) C (some od)/\∀name,W.lookIn name od=some (mA name):=
 let⟨od,ho,hl⟩:=b0k I.ns
 ⟨od,⟨I.obj,rfl,rfl,ho⟩,hl⟩
section
variable{prog:Program}{w:World}{A:Around}{E:Value->Shared->Prop}{s:Shared}{K:W.Frag}{x dx C f:Addr}{mA:Str->Option Value}{name:Str}{v:Value}
theorem b2z{expr:Bool}{Q:Value->Shared->Prop}(X:K.In s.heap)(I:a8l s.heap x dx C mA)(hg:W.plainGet K C name=true)(hh:W.hasDictIn K C=true)
  (ha:W.findIn K (.ref C) name=some none)(hv:mA name=some v)(hv':W.handedIn v=true)(h:Q v {s with toks:=s.toks+1}):
  wpAny (model prog w) A (getAttr (.ref x) name expr) Q E s:=by
 obtain⟨od,J,hl⟩:=I.look
 exact W.get_value X J (W.plainGet_of hg).1 (W.findObj_own hh ha rfl (by rw[hl,hv])) hv' h
theorem b0W{pl:Sem Bool}{Q:Value×List Value->Shared->Prop}(X:K.In s.heap)(I:a8l s.heap x dx C mA)(hg:W.plainGet K C name=true)
  (hf:W.findIn K (.ref C) name=some (some (.ref f)))(ht:W.isFn K (.ref f)=true)(hv:mA name=none)(h:Q (.ref f,[.ref x]) s):
  wpAny (model prog w) A (getMethod (.ref x) name pl) Q E s:=by
 obtain⟨od,J,hl⟩:=I.look
 exact W.method_fn X J (W.plainGet_of hg).1 (W.plainGet_of hg).2 hf (beq_iff_eq.mp ht) (by show(W.lookIn name od).map (·.isSome)=some false;rw[hl,hv];rfl) h
theorem b2B{ns:List Str}{Q:Unit->Shared->Prop}(X:K.In s.heap)(I:a8l s.heap x dx C mA)
  (hs:W.findIn K (.ref C) "__setattr__"=some (some (.builtin "object.__setattr__")))(hp:W.plainOver K C=true)(ht:W.takerIn K C name=some none)(hh:W.hasDictIn K C=true)
  (hw:PySem.Within mA ns)(hsz:ns.length<=sizeLine)
  (h:∀h',a8l h' x dx C (fun y=>if y=name then some v else mA y)->Heap.SameBut dx s.heap h'->Q () {s with heap:=h',toks:=s.toks+2}):
  wpAny (model prog w) A (setAttr (.ref x) name v) Q E s:=by
 obtain⟨od,J,hl⟩:=I.look
 refine W.set_plain X J hs (W.osa_open (s:={s with toks:=s.toks+1}) (r:=none) X J hp ht fun b=>?_)
 obtain⟨cd,hc,hd'⟩:=W.any_some hh
 have hx:s.heap.get? x=some ⟨.ref C,some dx,.plain, #[]⟩:=I.obj
 refine AA (AB (AA (AA (wpAny_loadPart hx (AA (W.Looks.here (s:={s with toks:=s.toks+1}) (W.looks_clsIn X hc) ?_))))))
 rw[hd']
 refine AB (a:=some dx) (AA (AB (AA ?_)))
 refine wpAny_nsSet1 (s:={s with toks:=s.toks+1}) I.ns fun h' hn2 hs2=>?_
 obtain⟨oD,esD,epD,hoD,hdD,hcD⟩:=hn2.count (PySem.Within.cons name v hw)
 refine AA (wpAny_lookBehind hoD (by rw[hdD];exact pastItsLine_dict (Nat.le_trans hcD (by rw[List.length_cons];omega))) ?_)
 exact AB (h _ ⟨(hs2.2 _ (Ne.symm I.ne)).trans I.obj,hn2,I.ne⟩ hs2)
theorem b0I{R:Result->Shared->Prop}{vs:List Value}{kw:List (Str×Value)}(X:K.In s.heap)(hm:W.makesIn K C=true)
  (hi:W.findIn K (.ref C) "__init__"=some (some (.ref f)))(hf:W.typeIn K (.ref f)=some (.type "function"))
  (h:codeAny (model prog w) (A.under (.builtin "type.__call__" ⟨.ref C::vs,kw⟩)) (.call (.ref f) ⟨.ref (s.heap.objs.size+1)::vs,kw⟩) (W.InitBack (s.heap.objs.size+1) R)
   {s with heap:=(s.heap.push W.emptyDict).push (W.instObj C s.heap.objs.size)}):
  codeAny (model prog w) A (.call (.ref C) ⟨vs,kw⟩) R s:=by
 obtain⟨hh,g,d,t,os⟩:=s
 exact W.make_core (W.makes_of X hm) (W.looks_findIn X hi) (fun self=>W.bind_fn X self hf) (.inl rfl) h
theorem a9G{R:Result->Shared->Prop}(X:K.In s.heap)(hm:W.makesIn K C=true)
  (hi:W.findIn K (.ref C) "__init__"=some (some (.builtin "object.__init__")))
  (hb:∀self,W.Looks (model prog w) s.heap (bindSpecial (.builtin "object.__init__") self) (.builtin "object.__init__",[self]))
  (h:codeAny (model prog w) (A.under (.builtin "type.__call__" ⟨[.ref C],[]⟩)) (.call (.builtin "object.__init__") ⟨[.ref (s.heap.objs.size+1)],[]⟩) (W.InitBack (s.heap.objs.size+1) R)
   {s with heap:=(s.heap.push W.emptyDict).push (W.instObj C s.heap.objs.size)}):
  codeAny (model prog w) A (.call (.ref C) ⟨[],[]⟩) R s:=by
 obtain⟨hh,g,d,t,os⟩:=s
 exact W.make_core (W.makes_of X hm) (W.looks_findIn X hi) hb (.inr ⟨rfl,rfl⟩) h
end
noncomputable def J8 (f:Str) (v:V):List (Str×V)->List (Str×V)
 | []=> [(f,v)]
 | (g,x)::r=>if g=f then(g,v)::r else(g,x)::J8 f v r
theorem a3S(f g:Str)(v:V):∀fs:List (Str×V),(J8 f v fs).lookup g=if g=f then some v else fs.lookup g
 | []=>by
  show List.lookup g [(f,v)]=_
  by_cases h:g=f
  ·have hb:(g==f)=true:=beq_iff_eq.mpr h
   simp only[List.lookup,hb,if_pos h]
  ·have hb:(g==f)=false:=beq_eq_false_iff_ne.mpr h
   simp only[List.lookup,hb,if_neg h]
 | (k,x)::r=>by
  have ih:=a3S f g v r
  rw[show J8 f v ((k,x)::r)=(if k=f then(k,v)::r else(k,x)::J8 f v r)from rfl]
  by_cases hk:k=f
  ·rw[if_pos hk]
   by_cases h:g=k
   ·have hb:(g==k)=true:=beq_iff_eq.mpr h
    simp only[List.lookup,hb,if_pos (h.trans hk)]
   ·have hb:(g==k)=false:=beq_eq_false_iff_ne.mpr h
    simp only[List.lookup,hb,if_neg (fun e:g=f=>h (e.trans hk.symm))]
  ·rw[if_neg hk]
   by_cases h:g=k
   ·have hb:(g==k)=true:=beq_iff_eq.mpr h
    simp only[List.lookup,hb,if_neg (fun e:g=f=>hk (h.symm.trans e))]
   ·have hb:(g==k)=false:=beq_eq_false_iff_ne.mpr h
    simp only[List.lookup,hb]
    exact ih
theorem a3v(f:Str)(v:V):∀fs:List (Str×V),f∈(J8 f v fs).map (·.1)/\∀g,g∈fs.map (·.1)->g∈(J8 f v fs).map (·.1)
 | []=>⟨by simp[J8],fun g h=>by simp at h⟩
 | (k,x)::r=>by
  obtain⟨i1,i2⟩:=a3v f v r
  rw[show J8 f v ((k,x)::r)=(if k=f then(k,v)::r else(k,x)::J8 f v r)from rfl]
  by_cases hk:k=f
  ·rw[if_pos hk]
   subst hk
   exact⟨by simp,fun g h=>by simpa using h⟩
  ·rw[if_neg hk]
   refine⟨?_,fun g h=>?_⟩
   ·rw[List.map_cons]
    exact AN _ i1
   ·rw[List.map_cons]at h⊢
    rcases List.mem_cons.mp h with e | e
    ·exact List.mem_cons.mpr (.inl e)
    ·exact AN _ (i2 g e)
theorem a3W(f:Str)(v:V):∀fs:List (Str×V),(J8 f v fs).length<=fs.length+1
 | []=>by simp[J8]
 | (k,x)::r=>by
  have ih:=a3W f v r
  rw[show J8 f v ((k,x)::r)=(if k=f then(k,v)::r else(k,x)::J8 f v r)from rfl]
  by_cases hk:k=f
  ·rw[if_pos hk,List.length_cons,List.length_cons];omega
  ·rw[if_neg hk,List.length_cons,List.length_cons];omega
theorem a2D.some_of{v:V}{o:Option Value}(r:a2D (some v) o):∃u,o=some u/\W7 v u:=by
 cases o with
 | none=>exact(show False from r).elim
 | some u=>exact⟨u,rfl,r⟩
theorem a2D.none_of{o:Option Value}(r:a2D none o):o=none:=by
 cases o with
 | none=>rfl
 | some u=>exact(show False from r).elim
theorem b0r{v:V}{u:Value}(r:W7 v u):W.handedIn u=true:=by
 cases v with
 | non=>cases(show u=Value.none from r);rfl
 | bl b=>cases(show u=Value.bool b from r);rfl
 | int i=>obtain⟨t,e⟩:=(show∃t,u=Value.int i t from r);cases e;rfl
 | str x=>obtain⟨t,e⟩:=(show∃t,u=Value.str x t from r);cases e;rfl
 | byt b=>obtain⟨t,e⟩:=(show∃t,u=Value.bytes b t from r);cases e;rfl
 | flt b=>obtain⟨t,e⟩:=(show∃t,u=Value.float b t from r);cases e;rfl
 | ref a=>cases(show u=Value.ref a from r);rfl
 | ty n=>cases(show u=Value.type n from r);rfl
section
variable{P:Program}{w:World}{H H':Hp}{h h':Heap}{a C dx:Addr}{fs fs':List (Str×V)}
theorem a4r(hok:HOk P w H h)(e:H a=some (.ins C dx fs)):∃mA,a8l h a dx C mA/\(∀f,a2D (fs.lookup f) (mA f))/\PySem.Within mA (fs.map (·.1))/\fs.length<=1000/\H dx=some (.own a):=by
 obtain⟨d,z,ne,ob,mA,n,r,q⟩:=(show Z4 P w H h a (.ins C dx fs)from hok a _ e)
 exact⟨mA,⟨ob,n,ne⟩,r,q,z,d⟩
end
structure Cls(K:W.Frag)(C:Addr):Prop where
 pg:W.plainGet K C Str.empty=true
 hd:W.hasDictIn K C=true
 po:W.plainOver K C=true
 sa:W.findIn K (.ref C) "__setattr__"=some (some (.builtin "object.__setattr__"))
theorem Cls.get{K:W.Frag}{C:Addr}(c:Cls K C)(f:Str):W.plainGet K C f=true:=c.pg
noncomputable def B0 (K:W.Frag) (C:Addr) (f:Str):Prop:=W.findIn K (.ref C) f=some none
theorem B0.taker{K:W.Frag}{C:Addr}{f:Str}(n:B0 K C f):W.takerIn K C f=some none:=by
 unfold W.takerIn
 rw[show W.findIn K (.ref C) f=some none from n]
 rfl
structure b0z(K:W.Frag)(C:Addr)(m:Str)(f:Addr):Prop where
 at_:W.findIn K (.ref C) m=some (some (.ref f))
 fn:W.isFn K (.ref f)=true
 kp:W.keepIn K (.ref f)=true
section
variable{X:Cx}{pins:List (Addr×Obj)}{σ:St}{H:Hp}{s:Shared}{a C dx:Addr}{fs:List (Str×V)}{f:Str}{v:V}{A:Around}{E:Value->Shared->Prop}
theorem a4R{b:Bool}{Q:Value->Shared->Prop}(I:Inv X pins σ H s)(e:H a=some (.ins C dx fs))(c:Cls X.K C)(n:B0 X.K C f)(l:fs.lookup f=some v)
  (h:∀u s',Inv X pins σ H s'->W7 v u->Q u s'):wpAny (model X.prog X.w) A (getAttr (.ref a) f b) Q E s:=by
 obtain⟨mA,O,r,_,_,_⟩:=a4r I.hok e
 obtain⟨u,hu,ru⟩:=a2D.some_of (v:=v) (o:=mA f) (by rw[<-l];exact r f)
 exact b2z I.kIn O (c.get f) c.hd n hu (b0r ru) (h u _ (I.tok _) ru)
theorem a4S{m:Str}{g:Addr}{pl:Sem Bool}{Q:Value×List Value->Shared->Prop}(I:Inv X pins σ H s)(e:H a=some (.ins C dx fs))(c:Cls X.K C)(k:b0z X.K C m g)(l:fs.lookup m=none)
  (h:Q (.ref g,[.ref a]) s):wpAny (model X.prog X.w) A (getMethod (.ref a) m pl) Q E s:=by
 obtain⟨mA,O,r,_,_,_⟩:=a4r I.hok e
 have hn:mA m=none:=a2D.none_of (by rw[<-l];exact r m)
 exact b0W I.kIn O (c.get m) k.at_ k.fn hn h
theorem a4N{y:V}{u:Value}{Q:Unit->Shared->Prop}(I:Inv X pins σ H s)(e:H a=some (.ins C dx fs))(c:Cls X.K C)(n:B0 X.K C f)(hl:fs.length < 1000)(ry:W7 y u)
  (h:∀s',Inv X pins σ (upd H a (.ins C dx (J8 f y fs))) s'->Q () s'):wpAny (model X.prog X.w) A (setAttr (.ref a) f u) Q E s:=by
 obtain⟨mA,O,r,wi,_,ho⟩:=a4r I.hok e
 have hz:(fs.map (·.1)).length<=sizeLine:=by rw[AI,sizeLine_eq];omega
 refine b2B I.kIn O c.sa c.po n.taker c.hd wi hz fun h' O' sb=>h _ ?_
 have hd:∃o,h'.get? dx=some o:=let⟨o,_,_,e',_⟩:=O'.ns;⟨o,e'⟩
 refine I.write (x:=a) (e:=dx) (by rw[e];exact True.intro) (.inr ho) (fun b q hb z=>(sb.2 b hb).trans z) hd ?_
 refine⟨by rw[J0 O.ne];exact ho,?_,O.ne,O'.obj,_,O'.ns,fun g=>?_,fun g hg=>?_⟩
 ·have:=a3W f y fs;omega
 ·show a2D ((J8 f y fs).lookup g) (if g=f then some u else mA g)
  rw[a3S]
  by_cases q:g=f
  ·rw[if_pos q,if_pos q];exact ry
  ·rw[if_neg q,if_neg q];exact r g
 ·by_cases q:g=f
  ·rw[q];exact(a3v f y fs).1
  ·refine(a3v f y fs).2 g (wi g fun z=>hg ?_)
   show(if g=f then some u else mA g)=none
   rw[if_neg q];exact z
theorem Inv.made(I:Inv X pins σ H s):Inv X pins σ (upd (upd H s.heap.objs.size (.own (s.heap.objs.size+1))) (s.heap.objs.size+1) (.ins C s.heap.objs.size []))
  {s with heap:=(s.heap.push W.emptyDict).push (W.instObj C s.heap.objs.size)}:=by
 have e1:(s.heap.push W.emptyDict).get? s.heap.objs.size=some W.emptyDict:=AG s.heap rfl
 have e2:((s.heap.push W.emptyDict).push (W.instObj C s.heap.objs.size)).get? (s.heap.objs.size+1)=some (W.instObj C s.heap.objs.size):=by
  have:=AG (s.heap.push W.emptyDict) (o:=W.instObj C s.heap.objs.size) rfl
  rwa[Heap.size_push]at this
 have e3:(s.heap.push W.emptyDict).Ns s.heap.objs.size (fun _=>none):=⟨W.emptyDict, #[],_,e1,rfl,(fun e he=>absurd he (by simp)),fun _=>rfl⟩
 have I1:=I.laid (a:=s.heap.objs.size) (o:= .own (s.heap.objs.size+1)) (h':=s.heap.push W.emptyDict) (t':=s.toks) (fun b u q=>AC _ q) (AD _) ⟨_,e1⟩
 refine I1.laid (a:=s.heap.objs.size+1) (o:= .ins C s.heap.objs.size []) (t':=s.toks) (fun b u q=>AC _ q) (Nat.le_of_eq (Heap.size_push _ _)) ?_
 have ne:s.heap.objs.size≠s.heap.objs.size+1:=AS (Nat.lt_succ_self _)
 refine⟨by rw[J0 ne,G7],Nat.zero_le _,ne,e2,fun _=>none,(Heap.Ns1.of_empty e3).at fun o q=>AC _ q,fun _=>True.intro,fun y hy=>absurd rfl hy⟩
theorem b2X{prog:Program}{w:World}{env:Env}{e:Expr}{f:Str}{pos:Pos}{s:Shared}{Q:Value->Shared->Prop}(hb:attributeBase e f env (eval e env)=eval e env)
  (h:wpAny (model prog w) A (eval e env) (fun o s₁=>wpAny (model prog w) A (getAttr o f true) Q E s₁) E s):wpAny (model prog w) A (eval (.Attribute e f pos) env) Q E s:=
 Attribute_any_ h (by rw[arm_eval_Attribute,hb])
end
noncomputable def b5A (K:W.Frag) (ta:TE) (f:Str):TE:=fun σ H Q=>ta σ H fun x H1=>∃a C dx fs v,x= .ref a/\H1 a=some (.ins C dx fs)/\Cls K C/\B0 K C f/\fs.lookup f=some v/\Q v H1
noncomputable def b5U (K:W.Frag) (ta tv:TE) (f:Str):TS:=fun D σ H=>tv σ H fun y H1=>ta σ H1 fun x H2=>∃a C dx fs,x= .ref a/\H2 a=some (.ins C dx fs)/\Cls K C/\B0 K C f/\fs.length < 1000/\
 D.nx σ (upd H2 a (.ins C dx (J8 f y fs)))
noncomputable def b5a (X:Cx) (op:Operator) (rd:V->V->Hp->VK->Prop):Prop:=
 ∀(pins:List (Addr×Obj))(s:Shared)(σ:St)(H:Hp)(x y:V)(u v:Value)(Q:VK),Inv X pins σ H s->W7 x u->W7 y v->rd x y H Q->wpAny (model X.prog X.w) X.A (inplaceOp op u v) (EP X pins σ Q) X.xe s
noncomputable def b2Q (K:W.Frag) (ta tv:TE) (rd:V->V->Hp->VK->Prop) (f:Str):TS:=fun D σ H=>ta σ H fun x H1=>∃a C dx fs v,x= .ref a/\H1 a=some (.ins C dx fs)/\Cls K C/\B0 K C f/\fs.lookup f=some v/\
 tv σ H1 fun y H2=>rd v y H2 fun z H3=>∃dx' fs',H3 a=some (.ins C dx' fs')/\fs'.length < 1000/\D.nx σ (upd H3 a (.ins C dx' (J8 f z fs')))
section
variable{X:Cx}{o e value:Expr}{f:Str}{pos pos' tpos:Pos}{ta tv:TE}
theorem W3(he:PE X e ta)(hb:attributeBase e f X.env (eval e X.env)=eval e X.env):PE X (.Attribute e f pos) (b5A X.K ta f):=by
 intro pins s σ H Q I h
 refine b2X hb (thn (he pins s σ H _ I h) fun u s1⟨x,H1,I1,rx,a,C,dx,fs,v,ex,ea,c,n,l,q⟩=>?_)
 subst ex
 obtain rfl:u=Value.ref a:=rx
 exact a4R I1 ea c n l fun u' s2 I2 ru=>⟨v,H1,I2,ru,q⟩
theorem F0(ha:PE X o ta)(hv:PE X value tv)(hs:swapsWith value (some (.Attribute o f pos')) pos.line X.env=pure false):PS X (.Assign [.Attribute o f pos'] value pos) (b5U X.K ta tv f):=by
 intro pins s σ H D I h
 refine plainObj_wpAny_Assign_Attribute (thn (hv pins s σ H _ I h) fun u s1⟨y,H1,I1,ry,q⟩=>thn (ha pins s1 σ H1 _ I1 q) fun ov s2⟨x,H2,I2,rx,a,C,dx,fs,ex,ea,c,n,l,q2⟩=>?_) hs
 subst ex
 obtain rfl:ov=Value.ref a:=rx
 exact a4N I2 ea c n l ry fun s3 I3=>⟨σ,_,I3,q2⟩
theorem a9H{op:Operator}{rd:V->V->Hp->VK->Prop}(ha:PE X o ta)(hv:PE X value tv)(hop:b5a X op rd):PS X (.AugAssign (.Attribute o f tpos) op value pos) (b2Q X.K ta tv rd f):=by
 intro pins s σ H D I h
 refine wpAny_AugAssign_AttributeAny (thn (ha pins s σ H _ I h) fun ov s1⟨x,H1,I1,rx,a,C,dx,fs,v,ex,ea,c,n,l,q⟩=>?_)
 subst ex
 obtain rfl:ov=Value.ref a:=rx
 refine a4R I1 ea c n l fun u s2 I2 ru=>thn (hv pins s2 σ H1 _ I2 q) fun w3 s3⟨y,H2,I3,ry,q3⟩=>thn (hop pins s3 σ H2 v y u w3 _ I3 ru ry q3) fun w4 s4⟨z,H3,I4,rz,dx',fs',ea',l',q4⟩=>?_
 exact a4N I4 ea' c n l' rz fun s5 I5=>⟨σ,_,I5,q4⟩
noncomputable def b5z:V->V->Hp->VK->Prop:=fun x y H Q=>∃i j,x= .int i/\y= .int j/\Q (.int (i+j)) H
theorem b4q:b5a X .Add b5z:=by
 rintro pins s σ H x y u v Q I rx ry ⟨i,j,rfl,rfl,q⟩
 obtain⟨t,rfl⟩:=(show∃t,u=Value.int i t from rx)
 obtain⟨t',rfl⟩:=(show∃t',v=Value.int j t' from ry)
 exact PyProof.Rows.iadd_int ⟨.int (i+j),H,I.tok _,⟨_,rfl⟩,q⟩
end
section
variable{X:Cx}{pins:List (Addr×Obj)}{σ:St}{H:Hp}{s:Shared}{A:Around}{E:Value->Shared->Prop}{Q:Value->Shared->Prop}{c:Value}{b:Bool}
inductive a3M (K:W.Frag) (H:Hp):V->Value->Prop where
 | non:a3M K H .non (.type "NoneType")
 | bl (x:Bool):a3M K H (.bl x) (.type "bool")
 | int (i:Int):a3M K H (.int i) (.type "int")
 | str (x:Str):a3M K H (.str x) (.type "str")
 | flt (x:UInt64):a3M K H (.flt x) (.type "float")
 | lst {a:Addr} {xs:List V} (e:H a=some (.lst xs)):a3M K H (.ref a) (.type "list")
 | frz {a:Addr} {o:Obj} {xs:List V} (e:H a=some (.frz o (.lst xs))):a3M K H (.ref a) (.type "list")
 | tup {a:Addr} {xs:List V} (e:H a=some (.tup xs)):a3M K H (.ref a) (.type "tuple")
 | dK {a:Addr} {kvs:List (Key×V)} (e:H a=some (.dK kvs)):a3M K H (.ref a) (.type "dict")
 | dT {a:Addr} {kvs:List (List Key×V)} (e:H a=some (.dT kvs)):a3M K H (.ref a) (.type "dict")
 | ins {a C dx:Addr} {fs:List (Str×V)} (e:H a=some (.ins C dx fs)) (cl:Cls K C) (ha:W.findIn K (.ref C) "__class__"=some (some (.builtin "object.__class__")))
   (hn:W.specialIn K (.builtin "object.__class__") "__get__"=some (some (.builtin "getset_descriptor.__get__"))) (htk:W.takesIn K (.builtin "object.__class__")=some true)
   (hm:W.mroIn K C (.type "object")=some true):a3M K H (.ref a) (.ref C)
theorem a9O{x:V}{u t:Value}(I:Inv X pins σ H s)(rx:W7 x u)(ty:a3M X.K H x t)(e:W.kitOne X.K t c=some b)(h:∀tk,Q (.bool b) {s with toks:=tk}):
  wpAny (model X.prog X.w) A (call (.builtin "isinstance") [u,c]) Q E s:=by
 cases ty with
 | non=>cases(show u=Value.none from rx);exact W.kia_one W.kitx_none I.kIn True.intro e (fun z=>nomatch z) h
 | bl y=>cases(show u=Value.bool y from rx);exact W.kia_one W.kitx_bool I.kIn True.intro e (fun z=>nomatch z) h
 | int i=>obtain⟨t,q⟩:=(show∃t,u=Value.int i t from rx);cases q;exact W.kia_one W.kitx_int I.kIn True.intro e (fun z=>nomatch z) h
 | str y=>obtain⟨t,q⟩:=(show∃t,u=Value.str y t from rx);cases q;exact W.kia_one W.kitx_str I.kIn True.intro e (fun z=>nomatch z) h
 | flt y=>obtain⟨t,q⟩:=(show∃t,u=Value.float y t from rx);cases q;exact W.kia_one W.kitx_float I.kIn True.intro e (fun z=>nomatch z) h
 | @lst a xs ea=>
  cases(show u=Value.ref a from rx)
  obtain⟨_,_,n,_,h1⟩:=(show Z4 X.prog X.w H s.heap a (.lst xs)from I.hok a _ ea)
  exact W.kia_one W.kitx_list I.kIn ⟨_,h1,rfl⟩ e (fun z=>nomatch z) h
 | @frz a ob xs ea=>
  cases(show u=Value.ref a from rx)
  obtain⟨_,_,_,n,_,h1⟩:=(show Z4 X.prog X.w H s.heap a (.frz ob (.lst xs))from I.hok a _ ea)
  exact W.kia_one W.kitx_list I.kIn ⟨_,h1,rfl⟩ e (fun z=>nomatch z) h
 | @tup a xs ea=>
  cases(show u=Value.ref a from rx)
  obtain⟨_,_,_,p⟩:=(show Z4 X.prog X.w H s.heap a (.tup xs)from I.hok a _ ea)
  obtain⟨o,h1,h2,_⟩:=p
  exact W.kia_one W.kitx_tuple I.kIn ⟨o,h1,h2⟩ e (fun z=>nomatch z) h
 | @dK a kvs ea=>
  cases(show u=Value.ref a from rx)
  obtain⟨_,_,vs,_,p⟩:=(show Z4 X.prog X.w H s.heap a (.dK kvs)from I.hok a _ ea)
  obtain⟨o,es,ep,h1,h2,_⟩:=p
  exact W.kia_one W.kitx_dict I.kIn ⟨o,h1,h2.1⟩ e (fun z=>nomatch z) h
 | @dT a kvs ea=>
  cases(show u=Value.ref a from rx)
  obtain⟨_,_,xs,_,o,es,ep,h1,h2,_⟩:=(show Z4 X.prog X.w H s.heap a (.dT kvs)from I.hok a _ ea)
  exact W.kia_one W.kitx_dict I.kIn ⟨o,h1,h2.1⟩ e (fun z=>nomatch z) h
 | @ins a C dx fs ea cl ha hn htk hm=>
  cases(show u=Value.ref a from rx)
  obtain⟨mA,O,_⟩:=a4r I.hok ea
  obtain⟨od,J,_⟩:=O.look
  exact W.kia_one (W.kitx_own (cl.get _) cl.hd ha hn htk hm) I.kIn J e (fun z=>nomatch z) h
end
end L2
namespace L2
open PySem PySem.Spec PyProof.Rows
structure M6(k:Nat)(A:Around):Prop where
 hd:A.handled=none
 dp:A.depth+3*k+5 < recursionLimit
 un:A.units+16*k+200 < cLine
theorem M6.mono{j k:Nat}{A:Around}(r:M6 k A)(h:j<=k):M6 j A:=⟨r.hd,by have:=r.dp;omega,by have:=r.un;omega⟩
theorem M6.deeper{k:Nat}{A:Around}(r:M6 (k+1) A)(env:Env):M6 k (A.deeper env):=
 ⟨r.hd,by have:=r.dp;show A.depth+1+3*k+5 < _;omega,by have:=r.un;show A.units+3+16*k+200 < _;omega⟩
theorem a7S{A:Around}{C:Addr}{us:List Value}{kw:List (Str×Value)}:(A.under (.builtin "type.__call__" ⟨.ref C::us,kw⟩)).depth=A.depth+1:=by
 first | rfl | simp[Around.under,Code.weight,Code.isCreation,Code.isGuard,Code.isCaller,Code.frames,Code.isFrame,guardIds]
theorem a8f{A:Around}{C:Addr}{us:List Value}{kw:List (Str×Value)}:(A.under (.builtin "type.__call__" ⟨.ref C::us,kw⟩)).units=A.units+1:=by
 first | rfl | simp[Around.under,Code.cUnits,Code.frames,Code.isFrame]
theorem M6.make{k:Nat}{A:Around}(r:M6 (k+1) A)(C:Addr)(us:List Value)(kw:List (Str×Value)):M6 k (A.under (.builtin "type.__call__" ⟨.ref C::us,kw⟩)):=
 ⟨r.hd,by have:=r.dp;rw[a7S];omega,by have:=r.un;rw[a8f];omega⟩
theorem M6.depth{k:Nat}{A:Around}(r:M6 k A):A.depth < recursionLimit:=by have:=r.dp;omega
theorem M6.units{k:Nat}{A:Around}(r:M6 k A):A.units+64 < cLine:=by have:=r.un;omega
noncomputable def b1l:TA:=fun _ H Q=>Q [] H
noncomputable def b1P (ta:TE) (tr:TA):TA:=fun σ H Q=>ta σ H fun x H1=>tr σ H1 fun xs H2=>Q (x::xs) H2
section
variable{X:Cx}{e:Expr}{es:List Expr}{te:TE}{t:TA}{pos:Pos}
theorem G8:PA X [] b1l:=fun _ _ _ _ H Q I h=>Calls.spliced_nil ⟨[],H,I,.nil,h⟩
theorem G0(ha:PE X e te)(hr:PA X es t)(hs:starEach (e::es) X.env=(false,eval e X.env)::starEach es X.env:=by rfl):PA X (e::es) (b1P te t):=by
 intro pos pins s σ H Q I h
 rw[hs]
 show wpAny _ _ (spliced ((false,eval e X.env)::backTo pos (starEach es X.env))) _ _ s
 refine Calls.spliced_cons (thn (ha pins s σ H _ I h) fun u s1⟨x,H1,I1,r1,q1⟩=>?_)
 exact thn (hr pos pins s1 σ H1 _ I1 q1) fun us s2⟨xs,H2,I2,r2,q2⟩=>⟨x::xs,H2,I2,.cons r1 r2,q2⟩
noncomputable def b5w (t:TA):TE:=fun σ H Q=>t σ H fun xs H1=>xs.length<=sizeLine/\∀p,H1 p=none->Q (.ref p) (upd H1 p (.tup xs))
noncomputable def b5G (t:TA):TE:=fun σ H Q=>t σ H fun xs H1=>xs.length<=sizeLine/\∀p,H1 p=none->Q (.ref p) (upd H1 p (.lst xs))
theorem J5{x1}(h:PA X es t):PE X (.Tuple es x1 pos) (b5w t):=by
 intro pins s σ H Q I hq
 refine wpAny_Tuple_spliced (thn (h pos pins s σ H _ I hq) fun us s1⟨xs,H1,I1,r,z,q⟩=>⟨by rw[<-r.length];exact z,?_⟩)
 have hf:H1 s1.heap.objs.size=none:=I1.hok.fresh (AD _)
 refine⟨.ref s1.heap.objs.size,upd H1 s1.heap.objs.size (.tup xs),I1.laid (t':=s1.toks) (fun b u e=>AC _ e) (AD _) ?_,rfl,q _ hf⟩
 exact⟨z,us,r,⟨_,AG _ rfl,rfl,_,rfl⟩⟩
theorem O4(h:PA X es t):PE X (.List es pos) (b5G t):=by
 intro pins s σ H Q I hq
 refine wpAny_List_spliced (thn (h pos pins s σ H _ I hq) fun us s1⟨xs,H1,I1,r,z,q⟩=>⟨by rw[<-r.length];exact z,?_⟩)
 have hf:H1 s1.heap.objs.size=none:=I1.hok.fresh (AD _)
 refine⟨.ref s1.heap.objs.size,upd H1 s1.heap.objs.size (.lst xs),I1.laid (t':=s1.toks) (fun b u e=>AC _ e) (AD _) ?_,rfl,q _ hf⟩
 exact⟨z,us,0,r,AG _ rfl⟩
end
noncomputable abbrev Sp:=List V->Hp->VK->XK->Prop
noncomputable abbrev CXT:=List Env->Hp->Shared->XK->Value->Shared->Prop
structure a8c(P:Program)(w:World)(K:W.Frag)(mg:Str->Option Value)(base:Heap)(A:Around)(outer:List Env)(s:Shared)(H:Hp):Prop where
 frames:A.frames=some outer
 mod:Mod K mg base
 bs:∀b o,base.get? b=some o->s.heap.get? b=some o/\H b=none
 bsz:base.objs.size<=s.heap.objs.size
 funs:s.heap.FunFrames base outer
 frf:∀b∈frs outer,H b=none
 hok:HOk P w H s.heap
 bare:AllBare s.gens
noncomputable def CE (outer:List Env) (P:Program) (w:World) (H:Hp) (s:Shared) (Q:VK) (u:Value) (s':Shared):Prop:=
 ∃v H',s'.os=s.os/\AllBare s'.gens/\Un (frs outer) [] H H' s.heap s'.heap/\HOk P w H' s'.heap/\W7 v u/\Q v H'
noncomputable def CR (CX:CXT) (outer:List Env) (P:Program) (w:World) (H:Hp) (s:Shared) (Q:VK) (E:XK) (r:Result) (s':Shared):Prop:=
 match r with
 | .ok (.ret u)=>CE outer P w H s Q u s'
 | .ok _=>False
 | .error e=>CX outer H s E e s'
structure a2B(P:Program)(w:World)(K:W.Frag)(mg:Str->Option Value)(base:Heap)(CX:CXT)(k:Nat)(f:Addr)(fd:FuncData)(ps:List Str)(sp:Sp):Prop where
 len:∀vs H Q E,sp vs H Q E->vs.length=ps.length
 run:∀(A:Around)(outer:List Env)(s:Shared)(H:Hp)(args:Args)(us:List Value)(vs:List V)(Q:VK)(E:XK),M6 k A->a8c P w K mg base A outer s H->BindsTo s fd args (ps.zip us)->W0 vs us->sp vs H Q E->
  codeAny (model P w) A (.call (.ref f) args) (CR CX outer P w H s Q E) s
theorem a8c.make{P:Program}{w:World}{K:W.Frag}{mg:Str->Option Value}{base:Heap}{A:Around}{outer:List Env}{s:Shared}{H:Hp}(e:a8c P w K mg base A outer s H)(C:Addr)(us:List Value)(kw:List (Str×Value)):
  a8c P w K mg base (A.under (.builtin "type.__call__" ⟨.ref C::us,kw⟩)) outer s H:=⟨by first | exact e.frames | (simpa [Around.under,Code.envs,Code.isFrame,pushEnvs]using e.frames),e.mod,e.bs,e.bsz,e.funs,e.frf,e.hok,e.bare⟩
section
variable{X:Cx}{pins:List (Addr×Obj)}{σ:St}{H:Hp}{s s':Shared}
theorem Inv.env0(I:Inv X pins σ H s):a8c X.prog X.w X.K X.mg X.base X.A X.stack s H:=
 ⟨I.ok.frames,I.ok.mod,I.bs,Nat.le_trans I.ok.bsz I.sz,I.stack,I.stkFree,I.hok,I.bare⟩
theorem Inv.after{Q:VK}{u:Value}(I:Inv X pins σ H s)(h:CE X.stack X.prog X.w H s Q u s'):EP X pins σ Q u s':=by
 obtain⟨v,H',os,bare,un,hok,r,q⟩:=h
 obtain⟨hh,g,d,t,os'⟩:=s'
 obtain rfl:os'=s.os:=os
 exact⟨v,H',I.call (h':=hh) (g':=g) (d':=d) (t':=t) (ch:=[]) un hok bare (fun b z=>absurd z (by simp)),r,q⟩
end
noncomputable def b3m (sp:Sp) (dvs:List V) (E:XK) (t:TA):TE:=fun σ H Q=>t σ H fun vs H1=>sp (vs++dvs) H1 Q E
noncomputable def a8Q (C:Addr) (m:Str) (sp:Sp) (dvs:List V) (E:XK) (ta:TE) (t:TA):TE:=fun σ H Q=>ta σ H fun x H1=>∃a dx fs,x= .ref a/\H1 a=some (.ins C dx fs)/\fs.lookup m=none/\
 t σ H1 fun vs H2=>sp (x::(vs++dvs)) H2 Q E
noncomputable def b3l (C:Addr) (sp:Sp) (dvs:List V) (E:XK) (t:TA):TE:=fun σ H Q=>t σ H fun vs H1=>∀x dx,H1 x=none->H1 dx=none->dx≠x->
 sp (.ref x::(vs++dvs)) (upd (upd H1 dx (.own x)) x (.ins C dx [])) (fun v H2=>v= .non/\Q (.ref x) H2) E
noncomputable def a1Y (K:W.Frag) (fd:FuncData) (ps:List Str) (ds:List Value):Prop:=
 ∀(s:Shared)(us:List Value),K.In s.heap->(us++ds).length=ps.length->BindsTo s fd ⟨us,[]⟩ (ps.zip (us++ds))
theorem a1Y.all{K:W.Frag}{fd:FuncData}{ps:List Str}(h:∀us:List Value,us.length=ps.length->bindArgs fd ⟨us,[]⟩=pure (ps.zip us)):a1Y K fd ps []:=fun s us _ hl=>by
 rw[List.append_nil]at hl⊢
 exact .of_eq (h us hl)
noncomputable def a2K (CX:CXT) (X:Cx) (E:XK):Prop:=∀(pins:List (Addr×Obj))(σ:St)(H:Hp)(s:Shared)(e:Value)(s':Shared),Inv X pins σ H s->CX X.stack H s E e s'->X.xe e s'
section
variable{X:Cx}{CX:CXT}{k:Nat}{f C:Addr}{fd:FuncData}{ps:List Str}{sp:Sp}{dvs:List V}{ds:List Value}{E:XK}{x m:Str}{p pos apos:Pos}{e o:Expr}{es:List Expr}{ta:TE}{t:TA}
theorem a8k{pins:List (Addr×Obj)}{σ:St}{H:Hp}{s:Shared}{Q:VK}{us:List Value}{vs:List V}(F:a2B X.prog X.w X.K X.mg X.base CX k f fd ps sp)(hr:M6 k X.A)(hb:a1Y X.K fd ps ds)(hd:W0 dvs ds)(hx:a2K CX X E)
  (I:Inv X pins σ H s)(r:W0 vs us)(h:sp (vs++dvs) H Q E):wpAny (model X.prog X.w) X.A (call (.ref f) us) (EP X pins σ Q) X.xe s:=by
 have r2:W0 (vs++dvs) (us++ds):=r.append hd
 have hl:(us++ds).length=ps.length:=by rw[<-r2.length];exact F.len _ _ _ _ h
 refine wpAny_call (codeAny_mono (F.run X.A X.stack s H ⟨us,[]⟩ (us++ds) (vs++dvs) Q E hr I.env0 (hb s us I.kIn hl) r2 h) fun r s' hq=>?_)
 cases r with
 | error e=>exact hx pins σ H s e s' I hq
 | ok fl=>
  cases fl with
  | ret u=>exact I.after hq
  | next=>exact False.elim hq
  | brk=>exact False.elim hq
  | cont=>exact False.elim hq
theorem b2V(F:a2B X.prog X.w X.K X.mg X.base CX k f fd ps sp)(hr:M6 k X.A)(hg:Gl X x)(hm:X.mg x=some (.ref f))(hk:W.keepIn X.K (.ref f)=true)(hb:a1Y X.K fd ps ds)(hd:W0 dvs ds)(hx:a2K CX X E)
  (ha:PA X (e::es) t)(hdb:(x==("__debug__":Str))=false:=by decide)(he:starEach (e::es) X.env=(false,eval e X.env)::starEach es X.env:=by rfl)(hpl:(backTo pos (starEach es X.env)).any (·.1)=false:=by rfl):
  PE X (.Call (.Name x p) (e::es) [] pos) (b3m sp dvs E t):=by
 intro pins s σ H Q I h
 refine wpAny_Call_Name_kw (a4q I hg hm ?_ hdb)
 refine W.callWith_K (h₀:=X.base) I.ok.mod.kin hk (thn (ha pos pins s σ H _ I h) fun us s1⟨vs,H1,I1,r,q⟩=>⟨I1.kIn,?_⟩) he hpl
 exact a8k F hr hb hd hx I1 r q
theorem b2x{pl:Sem Bool}(he:PE X o ta)(c:Cls X.K C)(hm:b0z X.K C m f)(F:a2B X.prog X.w X.K X.mg X.base CX k f fd ps sp)(hr:M6 k X.A)(hb:a1Y X.K fd ps ds)(hd:W0 dvs ds)(hx:a2K CX X E)(ha:PA X (e::es) t)
  (hst:starEach (e::es) X.env=(false,eval e X.env)::starEach es X.env:=by rfl)(hpl:(backTo pos (starEach es X.env)).any (·.1)=false:=by rfl)
  (ht:eval (.Call (.Attribute o m apos) (e::es) [] pos) X.env=(do
   let ov<-eval o X.env
   standAt apos.atName
   let(f,first)<-holding [ov] (getMethod ov m pl)
   callWith pos f first (backTo pos (starEach (e::es) X.env)) (backToKw pos (keywordEach [] X.env))):=by rfl):
  PE X (.Call (.Attribute o m apos) (e::es) [] pos) (a8Q C m sp dvs E ta t):=by
 intro pins s σ H Q I h
 refine W.methodCall_KW (pl:=pl) (thn (he pins s σ H _ I h) fun u s1⟨x,H1,I1,rx,a,dx,fs,ex,ea,l,q⟩=>?_) ht
 subst ex
 obtain rfl:u=Value.ref a:=rx
 refine a4S I1 ea c hm l ?_
 refine W.callWith_K (first:=[.ref a]) (h₀:=X.base) I.ok.mod.kin hm.kp (thn (ha pos pins s1 σ H1 _ I1 q) fun us s2⟨vs,H2,I2,r,q2⟩=>⟨I2.kIn,?_⟩) hst hpl
 exact a8k (us:= .ref a::us) (vs:= .ref a::vs) F hr hb hd hx I2 (.cons rfl r) q2
theorem b0N{pl:Sem Bool}(he:PE X o ta)(c:Cls X.K C)(hm:b0z X.K C m f)(F:a2B X.prog X.w X.K X.mg X.base CX k f fd ps sp)(hr:M6 k X.A)(hb:a1Y X.K fd ps ds)(hd:W0 dvs ds)(hx:a2K CX X E)
  (ht:eval (.Call (.Attribute o m apos) [] [] pos) X.env=(do
   let ov<-eval o X.env
   standAt apos.atName
   let(f,first)<-holding [ov] (getMethod ov m pl)
   callWith pos f first (backTo pos (starEach [] X.env)) (backToKw pos (keywordEach [] X.env))):=by rfl):
  PE X (.Call (.Attribute o m apos) [] [] pos) (a8Q C m sp dvs E ta b1l):=by
 intro pins s σ H Q I h
 refine W.methodCall_KW (pl:=pl) (thn (he pins s σ H _ I h) fun u s1⟨x,H1,I1,rx,a,dx,fs,ex,ea,l,q⟩=>?_) ht
 subst ex
 obtain rfl:u=Value.ref a:=rx
 refine a4S I1 ea c hm l ?_
 exact W.callWith_K0 (first:=[.ref a]) I1.kIn hm.kp (a8k (us:=[.ref a]) (vs:=[.ref a]) F hr hb hd hx I1 (.cons rfl .nil) q)
structure Mk(K:W.Frag)(C f:Addr):Prop where
 makes:W.makesIn K C=true
 init:W.findIn K (.ref C) "__init__"=some (some (.ref f))
 fn:W.isFn K (.ref f)=true
 kp:W.keepIn K (.ref C)=true
theorem b0G{pins:List (Addr×Obj)}{σ:St}{H:Hp}{s:Shared}{Q:VK}{us:List Value}{vs:List V}(M:Mk X.K C f)(F:a2B X.prog X.w X.K X.mg X.base CX k f fd ps sp)(hr:M6 (k+1) X.A)(hb:a1Y X.K fd ps ds)(hd:W0 dvs ds)
  (hx:a2K CX X E)(I:Inv X pins σ H s)(r:W0 vs us)
  (h:∀x dx,H x=none->H dx=none->dx≠x->sp (.ref x::(vs++dvs)) (upd (upd H dx (.own x)) x (.ins C dx [])) (fun v H2=>v= .non/\Q (.ref x) H2) E):
  wpAny (model X.prog X.w) X.A (call (.ref C) us) (EP X pins σ Q) X.xe s:=by
 have hq:=h (s.heap.objs.size+1) s.heap.objs.size (I.hok.fresh (Nat.le_succ _)) (I.hok.fresh (AD _)) (AS (Nat.lt_succ_self _))
 have I2:=Inv.made (C:=C) I
 have r2:W0 (V.ref (s.heap.objs.size+1)::(vs++dvs)) (Value.ref (s.heap.objs.size+1)::(us++ds)):= .cons rfl (r.append hd)
 have hl:(Value.ref (s.heap.objs.size+1)::us++ds).length=ps.length:=by
  have e:=r2.length
  rw[F.len _ _ _ _ hq]at e
  exact e.symm
 refine wpAny_call (b0I (f:=f) I.kIn M.makes M.init (beq_iff_eq.mp M.fn) (codeAny_mono (F.run _ X.stack _ _ ⟨Value.ref (s.heap.objs.size+1)::us,[]⟩ (Value.ref (s.heap.objs.size+1)::(us++ds)) _ _ E (hr.make C us [])
  (I2.env0.make C us []) (hb _ (Value.ref (s.heap.objs.size+1)::us) I2.kIn hl) r2 hq) fun r s' hq'=>?_))
 cases r with
 | error e=>exact hx pins σ _ _ e s' I2 hq'
 | ok fl=>
  cases fl with
  | ret u=>
   obtain⟨v,H',I3,rv,ev,q3⟩:=I2.after hq'
   subst ev
   exact⟨rv,⟨V.ref (s.heap.objs.size+1),H',I3,rfl,q3⟩⟩
  | next=>exact False.elim hq'
  | brk=>exact False.elim hq'
  | cont=>exact False.elim hq'
theorem b2W(M:Mk X.K C f)(F:a2B X.prog X.w X.K X.mg X.base CX k f fd ps sp)(hr:M6 (k+1) X.A)(hg:Gl X x)(hm:X.mg x=some (.ref C))(hb:a1Y X.K fd ps ds)(hd:W0 dvs ds)(hx:a2K CX X E)
  (ha:PA X (e::es) t)(hdb:(x==("__debug__":Str))=false:=by decide)(he:starEach (e::es) X.env=(false,eval e X.env)::starEach es X.env:=by rfl)(hpl:(backTo pos (starEach es X.env)).any (·.1)=false:=by rfl):
  PE X (.Call (.Name x p) (e::es) [] pos) (b3l C sp dvs E t):=by
 intro pins s σ H Q I h
 refine wpAny_Call_Name_kw (a4q I hg hm ?_ hdb)
 refine W.callWith_K (h₀:=X.base) I.ok.mod.kin M.kp (thn (ha pos pins s σ H _ I h) fun us s1⟨vs,H1,I1,r,q⟩=>⟨I1.kIn,?_⟩) he hpl
 exact b0G M F hr hb hd hx I1 r q
end
section
variable{X:Cx}{CX:CXT}{k:Nat}{f C:Addr}{fd:FuncData}{ps ks:List Str}{sp:Sp}{E:XK}{x m:Str}{p pos apos kpos:Pos}{e o:Expr}{es:List Expr}{kws:List Keyword}{te ta:TE}{t tk:TA}{nm:Option Str}
variable{g:List Value->List Value->List Value}{gV:List V->List V->List V}
end
structure R6(N P:List Str)(sc:Scope):Prop where
 kind:sc.kind= .function
 co:sc.isCoroutine=false
 gen:sc.isGenerator=false
 nd:N.Nodup
 pre:N.take P.length=P
 par:∀x∈P,sc.names.lookup x=some .local\/sc.names.lookup x=some .cell
 nofree:∀y∈sc.names,y.2≠ .free
theorem a5X{kindOf:Str->Option NameKind}{x:Str}:∀{binds:List (Str×Value)}{m:Str->Option Value},(∀v,(x,v)∉binds)->bindL kindOf binds m x=m x
 | [],_,_=>rfl
 | (n,v)::r,m,h=>by
  unfold bindL
  rw[a5X fun w hw=>h w (AN _ hw)]
  split
  ·have:x≠n:=by rintro rfl;exact h v AL
   simp[this]
  ·rfl
theorem a5R{kindOf:Str->Option NameKind}{x:Str}:∀{binds:List (Str×Value)}{m:Str->Option Value},(∀v,(x,v)∉binds)->bindC kindOf binds m x=m x
 | [],_,_=>rfl
 | (n,v)::r,m,h=>by
  unfold bindC
  rw[a5R fun w hw=>h w (AN _ hw)]
  split
  ·rfl
  ·have:x≠n:=by rintro rfl;exact h v AL
   simp[this]
theorem a6h{kindOf:Str->Option NameKind}{x:Str}{v:Value}:∀{P:List Str}{vs:List Value}{i:Nat}{m:Str->Option Value},P.Nodup->P[i]?=some x->vs[i]?=some v->kindOf x=some .local->
  bindL kindOf (P.zip vs) m x=some v
 | [],_,_,_,_,h,_,_=>by simp at h
 | _::_,[],_,_,_,_,h,_=>by simp at h
 | p::P,w::vs,0,m,nd,h1,h2,hk=>by
  simp at h1 h2;subst h1;subst h2
  show bindL kindOf ((p,w)::P.zip vs) m p=_
  unfold bindL
  rw[a5X fun v hv=>(List.nodup_cons.mp nd).1 (List.of_mem_zip hv).1,if_pos hk]
  simp
 | p::P,w::vs,i+1,m,nd,h1,h2,hk=>by
  show bindL kindOf ((p,w)::P.zip vs) m x=_
  unfold bindL
  exact a6h (i:=i) (List.nodup_cons.mp nd).2 (by simpa using h1) (by simpa using h2) hk
theorem a6d{kindOf:Str->Option NameKind}{x:Str}{v:Value}:∀{P:List Str}{vs:List Value}{i:Nat}{m:Str->Option Value},P.Nodup->P[i]?=some x->vs[i]?=some v->kindOf x≠some .local->
  bindC kindOf (P.zip vs) m x=some v
 | [],_,_,_,_,h,_,_=>by simp at h
 | _::_,[],_,_,_,_,h,_=>by simp at h
 | p::P,w::vs,0,m,nd,h1,h2,hk=>by
  simp at h1 h2;subst h1;subst h2
  show bindC kindOf ((p,w)::P.zip vs) m p=_
  unfold bindC
  rw[a5R fun v hv=>(List.nodup_cons.mp nd).1 (List.of_mem_zip hv).1,if_neg hk]
  simp
 | p::P,w::vs,i+1,m,nd,h1,h2,hk=>by
  show bindC kindOf ((p,w)::P.zip vs) m x=_
  unfold bindC
  exact a6d (i:=i) (List.nodup_cons.mp nd).2 (by simpa using h1) (by simpa using h2) hk
noncomputable def a2n (N:List Str) (vs:List V):St:=vs.map some++List.replicate (N.length - vs.length) none
noncomputable def a6z (CX:CXT) (P:Program) (w:World) (K:W.Frag) (mg:Str->Option Value) (base:Heap) (N:List Str) (qual:Str) (scope:Scope) (f:Addr) (cd:Value) (A:Around) (outer:List Env) (s:Shared) (H:Hp) (E:XK):Cx where
 prog:=P
 w:=w
 K:=K
 mg:=mg
 base:=base
 A:=A.deeper (envOfC qual scope s.heap.objs.size f cd)
 N:=N
 s₀:=s
 H₀:=H
 env:=envOfC qual scope s.heap.objs.size f cd
 outer:=outer
 stack:=envOfC qual scope s.heap.objs.size f cd::outer
 ex:=[]
 calm:=true
 fn:=fun _=>true
 pn:=[]
 xe:=fun e s'=>wpAny (model P w) (A.deeper (envOfC qual scope s.heap.objs.size f cd)) (leaving (envOfC qual scope s.heap.objs.size f cd) e) (fun _ s''=>CX outer H s E e s'') (fun e' s''=>CX outer H s E e' s'') s'
theorem a7m{sc:Scope}{n:Nat}{x:Str}(h:sc.names.lookup x=some .cell):∃c,(cellsFrom n sc.names []).lookup x=some c:=by
 have q:=W.cellsFrom_some sc.names n [] (.inl h)
 exact Option.isSome_iff_exists.mp q
theorem a9K{CX:CXT}{P:Program}{w:World}{K:W.Frag}{mg:Str->Option Value}{base:Heap}{N ps:List Str}{qual:Str}{scope:Scope}{f:Addr}{cd:Value}{A:Around}{outer:List Env}{s s1:Shared}{H:Hp}{E:XK}{us:List Value}{vs:List V}
  (S:R6 N ps scope)(hd:A.handled=none)(e0:a8c P w K mg base A outer s H)(hl:vs.length=ps.length)(r:W0 vs us)
  (x:InCallC s s.heap.objs.size (bindL (envOfC qual scope s.heap.objs.size f cd).kindOf (ps.zip us) fun _=>none) (cellsFrom (s.heap.objs.size+1) scope.names []) (bindC (envOfC qual scope s.heap.objs.size f cd).kindOf (ps.zip us) fun _=>none) s1):
  Inv (a6z CX P w K mg base N qual scope f cd A outer s H E) [] (a2n N vs) H s1:=by
 have hpl:ps.length<=N.length:=by have:=congrArg List.length S.pre;rw[AR]at this;omega
 obtain⟨h1,tk,rfl,hk⟩:=x.done
 have noA:∀b:Addr,b∉(a6z CX P w K mg base N qual scope f cd A outer s H E).ex:=fun b z=>absurd (show b∈([]:List Addr)from z) (by simp)
 refine⟨⟨e0.mod,S.kind,rfl,rfl,AD _,fun y z c h1 h2=>?_,fun y hy=>?_,fun y c _ h=>?_,fun _=>hd,Around.frames_deeper e0.frames,.inr ⟨rfl,rfl⟩,fun b z=>absurd z (noA b),e0.bs,e0.bsz,fun b _ _=>noA b,fun b z=>absurd z (noA b),e0.funs,e0.frf⟩,
  rfl,e0.bare,Un.kept hk,⟨_,x.toInCall.ns,fun i y v h1 h2 h3=>?_⟩,fun y c h=>⟨_,x.cell y c h⟩,e0.hok.fresh (AD _),fun y c h=>?_,fun p hp=>absurd (show p∈([]:List (Addr×Obj))from hp) (by simp),e0.hok.kept hk,?_⟩
 ·exact name_of_addr x.apart (PySem.mem_of_lookup h1) (PySem.mem_of_lookup h2)
 ·have hy:scope.names.lookup y=some .cell\/scope.names.lookup y=some .free:=hy
  rcases hy with hy | hy
  ·exact a7m hy
  ·exact absurd rfl (S.nofree _ (PySem.mem_of_lookup hy))
 ·exact Nat.le_of_lt (x.above y c (PySem.mem_of_lookup h))
 ·have hi:i < vs.length:=by
   unfold a2n at h2
   by_cases hi:i < vs.length
   ·exact hi
   ·rw[List.getElem?_append_right (by simpa using hi)]at h2
    rw[List.getElem?_replicate]at h2
    split at h2<;>cases h2
  have ha:vs[i]?=some v:=by
   unfold a2n at h2
   rw[List.getElem?_append_left (by simpa using hi),List.getElem?_map]at h2
   cases e:vs[i]? with
   | none=>rw[e]at h2;cases h2
   | some a=>rw[e]at h2;cases h2;rfl
  obtain⟨u,hu,rv⟩:=r.get ha
  have hp:ps[i]?=some y:=by
   rw[<-S.pre,List.getElem?_take_of_lt (by omega)];exact h1
  have ndP:ps.Nodup:=by rw[<-S.pre];exact S.nd.sublist (List.take_sublist _ _)
  refine⟨u,rv,?_⟩
  rcases S.par y (AX hp)with k | k
  ·exact .inl ⟨k,a6h ndP hp hu k⟩
  ·obtain⟨c,e⟩:=a7m (n:=s.heap.objs.size+1) k
   refine .inr ⟨.inl k,c,e,?_⟩
   have q:=x.cell y c e
   rw[a6d ndP hp hu (by show scope.names.lookup y≠_;rw[k];decide)]at q
   exact q
 ·exact e0.hok.fresh (Nat.le_of_lt (x.above y c (PySem.mem_of_lookup h)))
 ·unfold a2n
  show _=N.length
  rw[List.length_append,AI,List.length_replicate]
  omega
theorem b5n{CX:CXT}{P:Program}{w:World}{K:W.Frag}{mg:Str->Option Value}{base:Heap}{k:Nat}{f:Addr}{name qual:Str}{params:Arguments}{body:List Stmt}{scope:Scope}{dV kV doc pm cdv ct oc:Value}{an od:Option Addr}
  {osl:Array (Option Value)}{N ps:List Str}{sp:Sp}(lk:K.lookup f=some ⟨oc,od,.func (W.fnOf name qual params body scope dV kV doc pm an cdv ct),osl⟩)(hcd:W.codeIn K cdv qual=true)(S:R6 N ps scope)
  (len:∀vs H Q E,sp vs H Q E->vs.length=ps.length)
  (hbody:∀(A:Around)(outer:List Env)(s:Shared)(H:Hp)(vs:List V)(Q:VK)(E:XK),M6 k (A.deeper (envOfC qual scope s.heap.objs.size f cdv))->sp vs H Q E->
   ∃t,PSs (a6z CX P w K mg base N qual scope f cdv A outer s H E) body t/\t {nx:=fun _ H'=>Q .non H',rt:=Q} (a2n N vs) H):
  a2B P w K mg base CX (k+1) f (W.fnOf name qual params body scope dV kV doc pm an cdv ct) ps sp:=by
 refine⟨len,fun A outer s H args us vs Q E hr e0 hb r hsp=>?_⟩
 have hl:=len _ _ _ _ hsp
 have KX:K.In s.heap:=e0.mod.kin.keeps fun b o e=>(e0.bs b o e).1
 have lim:s.heap.NoLimit:=e0.mod.nolimit.keeps fun b o e=>(e0.bs b o e).1
 have hkind:∀y∈ps.zip us,scope.names.lookup y.1=some .local\/(scope.names.lookup y.1=some .cell/\((cellsFrom (s.heap.objs.size+1) scope.names []).lookup y.1).isSome=true):=fun⟨n,v⟩hy=>by
  rcases S.par n (List.of_mem_zip hy).1 with q | q
  ·exact .inl q
  ·exact .inr ⟨q,W.cellsFrom_some _ _ _ (.inl q)⟩
 refine codeAny_call_function hr.depth (KX _ _ lk) rfl S.co S.gen rfl (W.codeRec_of KX hcd) (hb _ _ _ _ ?_)
 refine wpAny_newFunctionEnv_cells S.kind hkind fun env he s1 x=>?_
 subst he
 refine⟨lim.keeps x.toInCall.keep,codeAny_func ?_⟩
 obtain⟨t,ht,hq⟩:=hbody A outer s H vs Q E (hr.deeper _) hsp
 have I:Inv (a6z CX P w K mg base N qual scope f cdv A outer s H E) [] (a2n N vs) H s1:=a9K S hr.hd e0 hl r x
 refine wpAny_mono (ht [] s1 (a2n N vs) H _ I hq) (fun fl s' hs=>?_) fun e s' hs=>hs
 have fin:∀{σ':St}{H':Hp}{v:V}{u:Value},Inv (a6z CX P w K mg base N qual scope f cdv A outer s H E) [] σ' H' s'->W7 v u->Q v H'->CE outer P w H s Q u s':=
  fun{σ' H' v u}J rv q=>⟨v,H',J.os,J.bare,J.base,J.hok,rv,q⟩
 cases fl with
 | ret u=>
  obtain⟨v,σ',H',J,rv,q⟩:=hs
  exact fin J rv q
 | next=>
  obtain⟨σ',H',J,q⟩:=hs
  exact fin (v:=V.non) (u:=Value.none) J rfl q
 | brk=>
  obtain⟨_,_,_,q⟩:=hs
  exact False.elim q
 | cont=>
  obtain⟨_,_,_,q⟩:=hs
  exact False.elim q
end L2
namespace L2
open PySem PySem.Spec PyProof.Rows
section
variable{X:Cx}{x:Str}{p pos:Pos}{e:Expr}{es:List Expr}{t:TA}{id T:String}{r:List V->Hp->VK->Prop}
noncomputable def tCB (r:List V->Hp->VK->Prop) (t:TA):TE:=fun σ H Q=>t σ H fun vs H1=>r vs H1 Q
theorem Y1(hc:a0R X (.builtin id) r)(hg:Gl X x)(hm:X.mg x=none)(hv:bootBuiltins x=some (.builtin id))(ha:PA X (e::es) t)(hn:x≠ "__name__":=by decide)(hdb:(x==("__debug__":Str))=false:=by decide)
  (he:starEach (e::es) X.env=(false,eval e X.env)::starEach es X.env:=by rfl)(hpl:(backTo pos (starEach es X.env)).any (·.1)=false:=by rfl):PE X (.Call (.Name x p) (e::es) [] pos) (tCB r t):=by
 intro pins s σ H Q I h
 refine wpAny_Call_Name_kw (a2t I hg hm hv ?_ hn hdb)
 exact PyProof.Rows.callWith_builtin1 (thn (ha pos pins s σ H _ I h) fun us s1⟨vs,H1,I1,r1,q1⟩=>hc pins s1 σ H1 vs us Q I1 r1 q1) he hpl
theorem W8(hc:a0R X (.type T) r)(hg:Gl X x)(hm:X.mg x=none)(hv:bootBuiltins x=some (.type T))(ha:PA X (e::es) t)(hn:x≠ "__name__":=by decide)(hdb:(x==("__debug__":Str))=false:=by decide)
  (he:starEach (e::es) X.env=(false,eval e X.env)::starEach es X.env:=by rfl)(hpl:(backTo pos (starEach es X.env)).any (·.1)=false:=by rfl):PE X (.Call (.Name x p) (e::es) [] pos) (tCB r t):=by
 intro pins s σ H Q I h
 refine wpAny_Call_Name_kw (a2t I hg hm hv ?_ hn hdb)
 exact PyProof.Rows.callWith_type1 (thn (ha pos pins s σ H _ I h) fun us s1⟨vs,H1,I1,r1,q1⟩=>hc pins s1 σ H1 vs us Q I1 r1 q1) he hpl
end
end L2
namespace HT
open PySem PyProof.Rows
section
open PySem.SeqAt
open PySem.AutoSeq1 (wpAny_loadPart')
open PySem.MeetsSeq PySem.MeetsSeq2 PySem.MeetsSeq3
end
section
variable{prog:Program}{w:World}{A:Around}{E:Value->Shared->Prop}{s:Shared}
theorem b2l{t b:Addr}{vs ws:List Value}{Q:Value->Shared->Prop}(ht:IsTup s.heap t vs.toArray)(hb:IsTup s.heap b ws.toArray)(hv:vs≠[])
  (h1:ws=[]->Q (.ref t) s)(h2:ws≠[]->Q (.ref s.heap.objs.size) {s with heap:=s.heap.push {cls:= .type "tuple",data:= .seq (vs++ws).toArray}})
  (hsz:vs.length+ws.length<=sizeLine):wpAny (model prog w) A (binaryOp .Add (.ref t) (.ref b)) Q E s:=by
 obtain⟨⟨cls,dd,data,sl⟩,ho,hc,n,hd⟩:=id ht
 obtain⟨⟨cls2,dd2,data2,sl2⟩,ho2,hc2,n2,hd2⟩:=id hb
 simp only at hc hd hc2 hd2
 subst hc hd hc2 hd2
 have e:vs.toArray++ws.toArray=(vs++ws).toArray:=by simp
 by_cases hw:ws=[]
 ·exact concat_meets ⟨_,ho,rfl⟩ ⟨_,ho2,rfl⟩ noFill_tuple_add seq_tuple_add PySem.F.slot_tuple_add PySem.F.entry_tuple_add (PySem.F.args_tuple_add_2 _ _)
   (tuple_addW1 t b vs.toArray ws.toArray n n2 dd dd2 sl sl2 (by simpa using hv) (by simp[hw])) ⟨ho,ho2,h1 hw⟩
 ·refine concat_meets ⟨_,ho,rfl⟩ ⟨_,ho2,rfl⟩ noFill_tuple_add seq_tuple_add PySem.F.slot_tuple_add PySem.F.entry_tuple_add (PySem.F.args_tuple_add_2 _ _)
   (tuple_addW2 t b vs.toArray ws.toArray n n2 dd dd2 sl sl2 (by simpa using hv) (by simpa using hw) (by rw[List.size_toArray,List.size_toArray];exact hsz)) ⟨ho,ho2,?_⟩
  rw[e]
  exact h2 hw
noncomputable def sIx (n d:Nat):Option Int->Nat
 | none=>d
 | some v=>if v < 0 then(v+(n:Int)).toNat else min v.toNat n
theorem a9g(n d k:Nat):sIx n d (some (k:Int))=min k n:=by
 show(if(k:Int) < 0 then((k:Int)+(n:Int)).toNat else min (k:Int).toNat n)=min k n
 rw[if_neg (by omega),Int.toNat_natCast]
theorem b3L(n d:Nat)(hd:d<=n)(o:Option Int):sIx n d o<=n:=by
 cases o with
 | none=>exact hd
 | some v=>
  show(if v < 0 then(v+(n:Int)).toNat else min v.toNat n)<=n
  by_cases hv:v < 0
  ·rw[if_pos hv];omega
  ·rw[if_neg hv];exact Nat.min_le_right _ _
theorem a9j(v:Int)(n d:Nat):(if v < 0 then max (v+(n:Int)) 0 else min v (n:Int))=((sIx n d (some v):Nat):Int):=by
 show(if v < 0 then max (v+(n:Int)) 0 else min v (n:Int))=(((if v < 0 then(v+(n:Int)).toNat else min v.toNat n):Nat):Int)
 by_cases hv:v < 0
 ·simp only[if_pos hv];omega
 ·simp only[if_neg hv];omega
theorem a8y(lo hi:Option Int)(n:Nat):Builtin.Slice.sliceAdjust lo hi 1 (n:Int)=(((sIx n 0 lo:Nat):Int),((sIx n n hi:Nat):Int)):=by
 have h1:¬((1:Int) < 0):=by omega
 unfold Builtin.Slice.sliceAdjust
 simp only[h1,if_false]
 refine Prod.ext ?_ ?_
 ·cases lo with
  | none=>rfl
  | some v=>exact a9j v n 0
 ·cases hi with
  | none=>rfl
  | some v=>exact a9j v n n
theorem a8s(i j:Nat):Builtin.Slice.slicePlaces (i:Int) (j:Int) 1=j - i:=by
 unfold Builtin.Slice.slicePlaces
 have h1:(1:Int) > 0:=by omega
 simp only[h1,if_true,Int.ediv_one]
 split<;>omega
theorem a4B{v:Value}{o:Option Int}{Q:Option Int->Shared->Prop}(p:IsPart v o)(h:Q o s):wpAny (model prog w) A (Builtin.Slice.slicePartIndex v) Q E s:=by
 cases p with
 | none=>exact slicePart_none h
 | int i t=>exact slicePart_int h
theorem a3z{sl:Addr}{vl vu:Value}{lo hi:Option Int}{n:Nat}{Q:Int×Int×Nat->Shared->Prop}(hs:s.heap.IsSliceOf sl vl vu .none)(pl:IsPart vl lo)(pu:IsPart vu hi)
  (h:Q (((sIx n 0 lo:Nat):Int),1,sIx n n hi - sIx n 0 lo) s):wpAny (model prog w) A (Builtin.Slice.sliceApplied (.ref sl) (pure (n:Int))) Q E s:=by
 obtain⟨os,hos,hcs,hds⟩:=id hs
 unfold Builtin.Slice.sliceApplied Builtin.Slice.sliceFields
 refine AA (AA (wpAny_field hos hds (x:=vl) rfl (AA (wpAny_field hos hds (x:=vu) rfl (AA (wpAny_field hos hds (x:= .none) rfl (AB ?_)))))))
 refine AA (slicePart_none ?_)
 show wpAny _ _ (if((1:Int)==0)=true then _ else _) _ _ s
 rw[if_neg (by decide)]
 refine AA (a4B pl (AA (a4B pu (AA (AB ?_)))))
 show wpAny _ _ (match Builtin.Slice.sliceAdjust lo hi 1 (n:Int)with | (lo,hi)=>pure (lo,(1:Int),Builtin.Slice.slicePlaces lo hi 1)) _ _ s
 rw[a8y lo hi n]
 show wpAny _ _ (pure (((sIx n 0 lo:Nat):Int),(1:Int),Builtin.Slice.slicePlaces ((sIx n 0 lo:Nat):Int) ((sIx n n hi:Nat):Int) 1)) _ _ s
 rw[a8s]
 exact AB h
theorem b1g(xs:Array Value)(i k:Nat):((List.range k).filterMap fun(m:Nat)=>xs[((i:Int)+(m:Int)*1).toNat]?).toArray=((xs.toList.drop i).take k).toArray:=by
 have e:(fun(m:Nat)=>xs[((i:Int)+(m:Int)*1).toNat]?)=fun m=>xs[i+m]?:=by
  funext m
  have:((i:Int)+(m:Int)*1).toNat=i+m:=by omega
  rw[this]
 rw[e]
 have:=pick_run xs i k
 rw[List.filterMap_map]at this
 have e2:((fun x=>xs[x]?)∘fun x=>i+x)=fun m=>xs[i+m]?:=rfl
 rw[e2]at this
 rw[this]
theorem a3k{t sl:Addr}{items:Array Value}{vl vu:Value}{lo hi:Option Int}{Q:Value->Shared->Prop}(ht:IsTup s.heap t items)(hs:s.heap.IsSliceOf sl vl vu .none)(pl:IsPart vl lo)(pu:IsPart vu hi)
  (hw:¬(sIx items.size 0 lo=0/\sIx items.size items.size hi=items.size))
  (h:Q (.ref s.heap.objs.size) {s with heap:=s.heap.push {cls:= .type "tuple",data:= .seq ((items.toList.drop (sIx items.size 0 lo)).take (sIx items.size items.size hi - sIx items.size 0 lo)).toArray}})
  (hsz:items.size<=sizeLine):wpAny (model prog w) A (getItem (.ref t) (.ref sl)) Q E s:=by
 have htake:sizeOk (.seq ((items.toList.drop (sIx items.size 0 lo)).take (sIx items.size items.size hi - sIx items.size 0 lo)).toArray):=by
  show((items.toList.drop (sIx items.size 0 lo)).take (sIx items.size items.size hi - sIx items.size 0 lo)).toArray.size<=sizeLine
  rw[List.size_toArray,AR,List.length_drop,Array.length_toList]
  omega
 have hj:sIx items.size items.size hi<=items.size:=b3L _ _ (AD _) hi
 obtain⟨os,hos,hcs,hds⟩:=id hs
 have hTs:s.TypeIs (.ref sl) "slice":=⟨os,hos,hcs⟩
 unfold getItem
 try with_reducible refine wpAny_holding ?_
 first | refine AA (AB ?_) | skip
 refine AA (wpAny_sequenceKey ht.typeIs (by decide) ?_)
 refine AA (wpAny_callSpecial?_slot (name:=Str.ofString "__getitem__") ht.typeIs PyProof.Rows.slot_tuple_getitem
  (wpAny_call_entry PyProof.Rows.slot_tuple_getitem ht.typeIs entry_tuple_getitem ?_ (args_tuple_getitem _ _)))
 show wpAny _ _ (Builtin.Tuple.tupleItemsOf (.ref t) >>= _) _ _ s
 refine AA (tupleItemsOf_ ht ?_)
 refine AA (wpAny_typeOf hTs ?_)
 rw[if_pos (by decide)]
 refine AA (a3z hs pl pu ?_)
 have hno:¬((((sIx items.size 0 lo:Nat):Int)==0 && (1:Int)==1 && (sIx items.size items.size hi - sIx items.size 0 lo)==items.size)=true):=by
  intro q
  rw[Bool.and_eq_true,Bool.and_eq_true]at q
  have q1:((sIx items.size 0 lo:Nat):Int)=0:=eq_of_beq q.1.1
  have q2:sIx items.size items.size hi - sIx items.size 0 lo=items.size:=eq_of_beq q.2
  exact hw ⟨by omega,by omega⟩
 show wpAny _ _ (if(((sIx items.size 0 lo:Nat):Int)==0 && (1:Int)==1 && (sIx items.size items.size hi - sIx items.size 0 lo)==items.size)=true then _ else _) _ _ s
 rw[if_neg hno,b1g]
 first
  | exact AA (m:=Builtin.Tuple.tupleExact _) (wpAny_newObj_type (AB ⟨_,rfl,AB h⟩) htake)
  | exact AA (m:=Builtin.Tuple.tupleExact _) (wpAny_newObj_type (AA (AB (AB ⟨_,rfl,AB h⟩))) htake)
  | exact AA (AA (m:=Builtin.Tuple.tupleExact _) (wpAny_newObj_type (AB (AB ⟨_,rfl,AB h⟩)) htake))
  | exact AA (AA (m:=Builtin.Tuple.tupleExact _) (wpAny_newObj_type (AB ⟨_,rfl,AB h⟩) htake))
end
end HT
namespace L2
open PySem PySem.Spec PyProof.Rows
noncomputable abbrev TO:=St->Hp->(Option Int->Hp->Prop)->Prop
noncomputable def PO (X:Cx) (e:Option Expr) (t:TO):Prop:=
 ∀(pins:List (Addr×Obj))(s:Shared)(σ:St)(H:Hp)(Q:Option Int->Hp->Prop),Inv X pins σ H s->t σ H Q->
  wpAny (model X.prog X.w) X.A (evalPart e X.env) (fun u s'=>∃o H',Inv X pins σ H' s'/\IsPart u o/\Q o H') X.xe s
noncomputable def b3a:TO:=fun _ H Q=>Q none H
noncomputable def b4s (t:TE):TO:=fun σ H Q=>t σ H fun x H1=>∃i,x= .int i/\Q (some i) H1
section
variable{X:Cx}{e:Expr}{te:TE}{lo hi:Option Expr}{tl th:TO}{pos p2:Pos}
theorem a4o:PO X none b3a:=by
 intro pins s σ H Q I h
 rw[evalPart_none]
 exact AB ⟨none,H,I,.none,h⟩
theorem a2y(h:PE X e te):PO X (some e) (b4s te):=by
 intro pins s σ H Q I hw
 rw[evalPart_some]
 refine thn (h pins s σ H _ I hw) fun u s1⟨x,H1,I1,r1,q1⟩=>?_
 obtain⟨i,rfl,q⟩:=q1
 obtain⟨t,rfl⟩:=r1
 exact⟨some i,H1,I1,.int i t,q⟩
noncomputable def SlR (X:Cx) (r:V->Option Int->Option Int->Hp->VK->Prop):Prop:=
 ∀(pins:List (Addr×Obj))(s:Shared)(σ:St)(H:Hp)(x:V)(v vl vu:Value)(lo hi:Option Int)(sl:Addr)(Q:VK),Inv X pins σ H s->W7 x v->s.heap.IsSliceOf sl vl vu .none->IsPart vl lo->IsPart vu hi->r x lo hi H Q->
  ∃T id,typeLookup (.type T) "__getitem__"=pure (some (.builtin id))/\s.TypeIs v T/\wpAny (model X.prog X.w) X.A (getItem v (.ref sl)) (EP X pins σ Q) X.xe s
noncomputable def tSl (r:V->Option Int->Option Int->Hp->VK->Prop) (te:TE) (tl th:TO):TE:=fun σ H Q=>te σ H fun x H1=>tl σ H1 fun l H2=>th σ H2 fun u H3=>r x l u H3 Q
theorem a2s{r:V->Option Int->Option Int->Hp->VK->Prop}(hr:SlR X r)(he:PE X e te)(hl:PO X lo tl)(hu:PO X hi th):PE X (.Subscript e (.Slice lo hi none p2) pos) (tSl r te tl th):=by
 intro pins s σ H Q I h
 refine Subscript_ (thn (he pins s σ H _ I h) fun v s1⟨x,H1,I1,r1,q1⟩=>?_)
 refine wpAny_Slice (thn (hl pins s1 σ H1 _ I1 q1) fun vl s2⟨l,H2,I2,pl,q2⟩=>thn (hu pins s2 σ H2 _ I2 q2) fun vu s3⟨u,H3,I3,pu,q3⟩=>?_)
 rw[evalPart_none]
 refine AB ?_
 have I4:Inv X pins σ H3 {s3 with heap:=s3.heap.push {cls:= .type "slice",data:= .fields #[vl,vu,.none]}}:=I3.kept (t':=s3.toks) fun b ob q=>AC _ q
 obtain⟨T,id,hT,ht,hg⟩:=hr pins {s3 with heap:=s3.heap.push {cls:= .type "slice",data:= .fields #[vl,vu,.none]}} σ H3 x v vl vu l u s3.heap.objs.size Q I4 r1 (Heap.IsSliceOf.new ..) pl pu q3
 show wpAny (model X.prog X.w) X.A (subscriptTail e (.Slice lo hi none p2) v (.ref s3.heap.objs.size)) (EP X pins σ Q) X.xe {s3 with heap:=s3.heap.push {cls:= .type "slice",data:= .fields #[vl,vu,.none]}}
 exact tail_any (ops:=[.ref s3.heap.objs.size,v]) ht hT hg (by with_unfolding_all rfl)
noncomputable def a5J (xs:List V) (lo hi:Option Int):List V:=(xs.drop (HT.sIx xs.length 0 lo)).take (HT.sIx xs.length xs.length hi - HT.sIx xs.length 0 lo)
theorem a3V(xs:List V)(lo hi:Option Int):(a5J xs lo hi).length<=xs.length:=by
 unfold a5J
 rw[AR,List.length_drop]
 omega
noncomputable def b6b (K:W.Frag):V->Option Int->Option Int->Hp->VK->Prop:=fun x lo hi H Q=>∃a xs,x= .ref a/\SqT K H a xs/\
 ¬(HT.sIx xs.length 0 lo=0/\HT.sIx xs.length xs.length hi=xs.length)/\∀p,H p=none->Q (.ref p) (upd H p (.tup (a5J xs lo hi)))
theorem b1U:SlR X (b6b X.K):=by
 intro pins s σ H x v vl vu lo hi sl Q I rx hs pl pu h
 obtain⟨a,xs,rfl,hx,hw,q⟩:=h
 cases rx
 obtain⟨its,r,ht,hz⟩:=I.tuple hx
 have hlen:its.toArray.size=xs.length:=by rw[List.size_toArray];exact r.length.symm
 refine⟨"tuple",_,PyProof.Rows.slot_tuple_getitem.lookup,ht.typeIs,?_⟩
 refine HT.a3k ht hs pl pu (by rw[hlen];exact hw) ?_ (by rw[hlen];exact hz)
 rw[hlen]
 refine⟨.ref s.heap.objs.size,_,I.laid (t':=s.toks) (o:= .tup (a5J xs lo hi)) (fun b ob q=>AC _ q) (AD _) ?_,rfl,q _ (I.hok.fresh (AD _))⟩
 exact⟨Nat.le_trans (a3V xs lo hi) hz,_,(r.drop (HT.sIx xs.length 0 lo)).take (HT.sIx xs.length xs.length hi - HT.sIx xs.length 0 lo),IsTup.new _ _⟩
noncomputable def b5o (K:W.Frag):R2:=fun x y H Q=>∃a b xs ys,x= .ref a/\y= .ref b/\SqT K H a xs/\SqT K H b ys/\xs≠[]/\xs.length+ys.length<=sizeLine/\
 (ys=[]->Q (.ref a) H)/\(ys≠[]->∀p,H p=none->Q (.ref p) (upd H p (.tup (xs++ys))))
theorem W0.nil_iff{xs:List V}{us:List Value}(r:W0 xs us):us=[]↔xs=[]:=by
 cases r with
 | nil=>simp
 | cons _ _=>simp
theorem b2L:OpR X (binaryOp .Add) (b5o X.K):=by
 intro pins s σ H x y v u Q I rx ry h
 obtain⟨a,b,xs,ys,rfl,rfl,ha,hb,hx,hz,q1,q2⟩:=h
 cases rx
 cases ry
 obtain⟨its,r1,p1,_⟩:=I.tuple ha
 obtain⟨its2,r2,p2,_⟩:=I.tuple hb
 refine HT.b2l p1 p2 (fun z=>hx (r1.nil_iff.mp z)) (fun z=>⟨.ref a,H,I,rfl,q1 (r2.nil_iff.mp z)⟩) (fun z=>?_) (by rw[<-r1.length,<-r2.length];exact hz)
 refine⟨.ref s.heap.objs.size,_,I.laid (t':=s.toks) (o:= .tup (xs++ys)) (fun b ob q=>AC _ q) (AD _) ?_,rfl,q2 (fun w=>z (r2.nil_iff.mpr w)) _ (I.hok.fresh (AD _))⟩
 exact⟨by rw[List.length_append];exact hz,_,r1.append r2,IsTup.new _ _⟩
end
end L2
namespace L2
open PySem PySem.Spec PyProof.Rows
noncomputable def ixN (n:Nat) (i:Int):Option Nat:=if 0<=i then(if i < n then some i.toNat else none)else if -(n:Int)<=i then some (i+n).toNat else none
noncomputable def atI {α:Type} (xs:List α) (i:Int):Option α:=(ixN xs.length i).bind fun j=>xs[j]?
theorem b2F{n:Nat}{i:Int}{j:Nat}(h:ixN n i=some j):seqIndex? i n=some j/\j < n/\ -(n:Int)<=i/\i < n:=by
 unfold ixN at h
 by_cases h0:0<=i
 ·rw[if_pos h0]at h
  by_cases h1:i < n
  ·rw[if_pos h1]at h
   have e:i.toNat=j:=Option.some.inj h
   exact⟨by rw[seqIndex_of h0 h1,e],by omega,by omega,h1⟩
  ·rw[if_neg h1]at h;cases h
 ·rw[if_neg h0]at h
  by_cases h1: -(n:Int)<=i
  ·rw[if_pos h1]at h
   have e:(i+n).toNat=j:=Option.some.inj h
   exact⟨by rw[seqIndex_neg (by omega) h1,e],by omega,h1,by omega⟩
  ·rw[if_neg h1]at h;cases h
theorem a6Z{α:Type}{xs:List α}{i:Int}{v:α}(h:atI xs i=some v):∃j,seqIndex? i xs.length=some j/\xs[j]?=some v/\j < xs.length/\ -(xs.length:Int)<=i/\i < xs.length:=by
 unfold atI at h
 cases e:ixN xs.length i with
 | none=>rw[e]at h;cases h
 | some j=>
  rw[e]at h
  obtain⟨h1,h2,h3,h4⟩:=b2F e
  exact⟨j,h1,h,h2,h3,h4⟩
theorem J6{α:Type}{xs:List α}{j:Nat}{v:α}(h:xs[j]?=some v):atI xs (j:Int)=some v:=by
 have hj:j < xs.length:=(AO.mp h).1
 have e:ixN xs.length (j:Int)=some j:=by
  unfold ixN
  rw[if_pos (by omega),if_pos (by omega)];simp
 unfold atI;rw[e];exact h
noncomputable def b2M (b:Expr):Prop:=∀o i,subscripted b false o i=operate [o,i] (getItem o i)
noncomputable def IxR (X:Cx) (r:R2):Prop:=
 ∀(value slice:Expr)(pins:List (Addr×Obj))(s:Shared)(σ:St)(H:Hp)(x y:V)(v u:Value)(Q:VK),Inv X pins σ H s->W7 x v->W7 y u->r x y H Q->
  subscripted slice false v u=operate [v,u] (getItem v u)->wpAny (model X.prog X.w) X.A (subscriptTail value slice v u) (EP X pins σ Q) X.xe s
noncomputable def MtR (X:Cx) (id:String) (r:V->List V->Hp->VK->Prop):Prop:=
 ∀(pins:List (Addr×Obj))(s:Shared)(σ:St)(H:Hp)(x:V)(xs:List V)(v:Value)(us:List Value)(Q:VK),Inv X pins σ H s->W7 x v->W0 xs us->r x xs H Q->
  wpAny (model X.prog X.w) X.A (call (.builtin id) (v::us)) (EP X pins σ Q) X.xe s
section
variable{X:Cx}{a b:Expr}{ta tb:TE}{pos:Pos}
theorem J7{r:R2}(hr:IxR X r)(ha:PE X a ta)(hb:PE X b tb)(hs:b2M b):PE X (.Subscript a b pos) (tOp r ta tb):=by
 intro pins s σ H Q I h
 exact Subscript_ (b4i ha hb I h fun v u s2 x y H2 I2 rx ry q=>hr a b pins s2 σ H2 x y v u Q I2 rx ry q (hs _ _))
noncomputable def b4V (K:W.Frag):R2:=fun x y H Q=>∃p xs i v,x= .ref p/\y= .int i/\SqL K H p xs/\atI xs i=some v/\Q v H
noncomputable def b4x (K:W.Frag):R2:=fun x y H Q=>∃p xs i v,x= .ref p/\y= .int i/\SqT K H p xs/\atI xs i=some v/\Q v H
noncomputable def b5x:R2:=fun x y H Q=>∃z i c,x= .str z/\y= .int i/\z.length<=sizeLine/\atI z.cps.toList i=some c/\Q (.str ⟨#[c]⟩) H
theorem W9:IxR X (b4V X.K):=by
 intro value slice pins s σ H x y v u Q I rx ry h hs
 obtain⟨p,xs,i,z,rfl,rfl,hq,he,q⟩:=h
 cases rx
 obtain⟨t,rfl⟩:=ry
 obtain⟨its,r,pl,hz⟩:=I.list hq
 obtain⟨j,h1,h2,h3,h4,h5⟩:=a6Z he
 obtain⟨w,ew,rw'⟩:=r.get h2
 have hl:=r.length
 have hn:=a3E
 have fin:EP X pins σ Q w s:=⟨z,H,I,rw',q⟩
 by_cases h0:0<=i
 ·have hj:i.toNat=j:=by
   rw[seqIndex_of h0 h5]at h1
   exact Option.some.inj h1
  exact item_listR pl.isList h0 (by omega) (by rw[hj];simpa using ew) fin hs
 ·have hj:(i+(its.toArray.size:Int)).toNat=j:=by
   rw[seqIndex_neg (by omega) h4]at h1
   rw[List.size_toArray,<-hl]
   exact Option.some.inj h1
  exact subscriptTail_builtinR (x:=w) pl.isList.typeIs slot_list_getitem.lookup
   (wpAny_getItem_list_neg (Q:=fun r s'=>r=w/\EP X pins σ Q r s') pl.isList (by omega) (by rw[List.size_toArray]<;>omega) (by omega) (by rw[hj];simpa using ew) ⟨rfl,fin⟩) hs
theorem J9:IxR X (b4x X.K):=by
 intro value slice pins s σ H x y v u Q I rx ry h hs
 obtain⟨p,xs,i,z,rfl,rfl,hq,he,q⟩:=h
 cases rx
 obtain⟨t,rfl⟩:=ry
 obtain⟨its,r,pl,hz⟩:=I.tuple hq
 obtain⟨j,h1,h2,h3,h4,h5⟩:=a6Z he
 obtain⟨w,ew,rw'⟩:=r.get h2
 have hl:=r.length
 have hn:=a3E
 have fin:EP X pins σ Q w s:=⟨z,H,I,rw',q⟩
 exact subscriptTail_builtinR (x:=w) pl.typeIs slot_tuple_getitem.lookup
  (getItem_tuple (j:=j) (Q:=fun r s'=>r=w/\EP X pins σ Q r s') pl (by omega) (by omega) (by rw[List.size_toArray,<-hl];exact h1) (by simpa using ew) ⟨rfl,fin⟩) hs
theorem b3X:IxR X b5x:=by
 intro value slice pins s σ H x y v u Q I rx ry h hs
 obtain⟨z,i,c,rfl,rfl,hz,he,q⟩:=h
 obtain⟨t,rfl⟩:=rx
 obtain⟨t',rfl⟩:=ry
 obtain⟨j,h1,h2,h3,h4,h5⟩:=a6Z he
 have hl:z.cps.toList.length=z.length:=by simp[Str.length]
 rw[hl]at h1 h4 h5
 have hn:=a3E
 exact tail_any (typeIs_str s z t) slot_str_getitem.lookup (getItem_str (c:=c) (by
  have e1:decide (i < -(2 ^ 63:Int))=false:=AT (by omega)
  have e2:decide (i≥2 ^ 63)=false:=AT (by omega)
  rw[e1,e2,Bool.or_false]) (by rw[h1];simpa using h2) ⟨.str ⟨#[c]⟩,H,I.tok _,⟨_,rfl⟩,q⟩) hs
theorem a6R(lo hi:Option Int)(n:Nat):(sliceBounds lo hi none n).1=((HT.sIx n 0 lo:Nat):Int)/\(sliceBounds lo hi none n).2.1=((HT.sIx n n hi:Nat):Int)/\(sliceBounds lo hi none n).2.2=1:=by
 refine⟨?_,?_,rfl⟩
 ·cases lo with
  | none=>simp[sliceBounds,HT.sIx]
  | some i=>
   simp only[sliceBounds,HT.sIx,Option.getD_none,show(1:Int) > 0 by decide,if_true]
   by_cases h:i < 0
   ·simp only[h,if_true]<;>omega
   ·simp only[h,if_false]<;>omega
 ·cases hi with
  | none=>simp[sliceBounds,HT.sIx]
  | some i=>
   simp only[sliceBounds,HT.sIx,Option.getD_none,show(1:Int) > 0 by decide,if_true]
   by_cases h:i < 0
   ·simp only[h,if_true]<;>omega
   ·simp only[h,if_false]<;>omega
theorem a5v(its:List Value)(lo hi:Option Int):slicePick its.toArray lo hi none=((its.drop (HT.sIx its.length 0 lo)).take (HT.sIx its.length its.length hi - HT.sIx its.length 0 lo)).toArray:=by
 obtain⟨h1,h2,h3⟩:=a6R lo hi its.toArray.size
 unfold slicePick
 rw[h1,h2,h3]
 simp only[sliceRange_one,pick_run,List.size_toArray]<;>rfl
noncomputable def b6c (K:W.Frag):V->Option Int->Option Int->Hp->VK->Prop:=fun x lo hi H Q=>∃a xs,x= .ref a/\SqL K H a xs/\∀p,H p=none->Q (.ref p) (upd H p (.lst (a5J xs lo hi)))
theorem b2n:SlR X (b6c X.K):=by
 intro pins s σ H x v vl vu lo hi sl Q I rx hs pl pu h
 obtain⟨a,xs,rfl,hx,q⟩:=h
 cases rx
 obtain⟨its,r,ht,hz⟩:=I.list hx
 have hlen:=r.length
 refine⟨"list",_,slot_list_getitem.lookup,ht.isList.typeIs,?_⟩
 refine wpAny_getItem_list_slice ht.isList hs pl pu .none (by simp) ?_ (by rw[List.size_toArray]<;>omega)
 rw[a5v,<-hlen]
 refine⟨.ref s.heap.objs.size,_,I.laid (t':=s.toks) (o:= .lst (a5J xs lo hi)) (fun b ob q=>AC _ q) (AD _) ?_,rfl,q _ (I.hok.fresh (AD _))⟩
 exact⟨Nat.le_trans (a3V xs lo hi) hz,_,0,(r.drop (HT.sIx xs.length 0 lo)).take (HT.sIx xs.length xs.length hi - HT.sIx xs.length 0 lo),AG _ rfl⟩
noncomputable def a1b:V->Bool
 | .non=>true
 | .bl _=>true
 | .int _=>true
 | .str _=>true
 | _=>false
noncomputable def eqV:V->V->Bool
 | .non,.non=>true
 | .bl a,.bl b=>a==b
 | .bl a,.int b=>(if a then 1 else 0)==b
 | .int a,.bl b=>a==(if b then 1 else 0)
 | .int a,.int b=>a==b
 | .str a,.str b=>a==b
 | _,_=>false
theorem a7c{A:Around}{s:Shared}{y x:V}{u v:Value}(ry:W7 y u)(rx:W7 x v)(fy:a1b y=true)(fx:a1b x=true):SeqAt.EqAt A s u v (eqV y x):=by
 cases y with
 | non=>
  cases ry
  cases x with
  | non=>cases rx;exact SeqAt.EqAt.same _
  | bl b=>cases rx;exact SeqAt.EqAt.none_bool b
  | int b=>obtain⟨t,rfl⟩:=rx;exact SeqAt.EqAt.none_int b t
  | str b=>obtain⟨t,rfl⟩:=rx;exact SeqAt.EqAt.none_str b t
  | _=>exact absurd (show false=true from fx) AE
 | bl a=>
  cases ry
  cases x with
  | non=>cases rx;exact SeqAt.EqAt.bool_none a
  | bl b=>cases rx;exact SeqAt.EqAt.bool_bool a b
  | int b=>obtain⟨t,rfl⟩:=rx;exact SeqAt.EqAt.bool_int a b t
  | str b=>obtain⟨t,rfl⟩:=rx;exact SeqAt.EqAt.bool_str a b t
  | _=>exact absurd (show false=true from fx) AE
 | int a=>
  obtain⟨t',rfl⟩:=ry
  cases x with
  | non=>cases rx;exact SeqAt.EqAt.int_none a t'
  | bl b=>cases rx;exact SeqAt.EqAt.int_bool a t' b
  | int b=>obtain⟨t,rfl⟩:=rx;exact SeqAt.EqAt.int_int a t' b t
  | str b=>obtain⟨t,rfl⟩:=rx;exact SeqAt.EqAt.int_str a t' b t
  | _=>exact absurd (show false=true from fx) AE
 | str a=>
  obtain⟨t',rfl⟩:=ry
  cases x with
  | non=>cases rx;exact SeqAt.EqAt.str_none a t'
  | bl b=>cases rx;exact SeqAt.EqAt.str_bool a t' b
  | int b=>obtain⟨t,rfl⟩:=rx;exact SeqAt.EqAt.str_int a t' b t
  | str b=>obtain⟨t,rfl⟩:=rx;exact SeqAt.EqAt.str_str a t' b t
  | _=>exact absurd (show false=true from fx) AE
 | _=>exact absurd (show false=true from fy) AE
noncomputable def eqU (x:V) (u:Value):Bool:=match u with
 | .none=>eqV .non x
 | .bool b=>eqV (.bl b) x
 | .int i _=>eqV (.int i) x
 | .str z _=>eqV (.str z) x
 | _=>false
theorem b1t{x y:V}{u:Value}(r:W7 y u)(f:a1b y=true):eqU x u=eqV y x:=by
 cases y with
 | non=>cases r;rfl
 | bl b=>cases r;rfl
 | int i=>obtain⟨t,rfl⟩:=r;rfl
 | str z=>obtain⟨t,rfl⟩:=r;rfl
 | _=>exact absurd (show false=true from f) AE
theorem a3d{x:V}:∀{xs:List V}{us:List Value},W0 xs us->xs.all a1b=true->us.any (eqU x)=xs.any fun y=>eqV y x
 | _,_,.nil,_=>rfl
 | y::xs,u::us,.cons r t,f=>by
  rw[List.all_cons,Bool.and_eq_true]at f
  rw[List.any_cons,List.any_cons,b1t r f.1,a3d t f.2]
theorem a2j{A:Around}{s:Shared}{x:V}{v:Value}(rx:W7 x v)(fx:a1b x=true):∀{xs:List V}{us:List Value},W0 xs us->xs.all a1b=true->∀u∈us,SeqAt.EqAt A s u v (eqU x u)
 | _,_,.nil,_=>fun u hu=>by cases hu
 | y::xs,u::us,.cons r t,f=>fun u' hu=>by
  rw[List.all_cons,Bool.and_eq_true]at f
  rcases List.mem_cons.mp hu with rfl | hu
  ·rw[b1t r f.1];exact a7c r rx f.1 fx
  ·exact a2j rx fx t f.2 u' hu
noncomputable def inV (x:V) (xs:List V):Bool:=xs.any fun y=>eqV y x
noncomputable def rIn (K:W.Frag) (neg:Bool):R2:=fun x y H Q=>∃p xs,y= .ref p/\(SqL K H p xs\/SqT K H p xs)/\a1b x=true/\xs.all a1b=true/\Q (.bl (if neg then !inV x xs else inV x xs)) H
theorem a5U:OpR X (compareOp .In) (rIn X.K false):=by
 intro pins s σ H x y v u Q I rx ry h
 obtain⟨p,xs,rfl,hq,fx,fs,q⟩:=h
 cases ry
 rcases hq with hq | hq
 ·obtain⟨its,r,pl,hz⟩:=I.list hq
  refine SeqAt.in_listAt (eqU x) pl.isList (fun w hw=>a2j rx fx r fs w (by simpa using hw)) ⟨.bl _,H,I,rfl,?_⟩
  rw[show its.toArray.any (eqU x)=its.any (eqU x)by simp,a3d r fs]
  exact q
 ·obtain⟨its,r,pl,hz⟩:=I.tuple hq
  refine SeqAt.in_tupleAt (eqU x) pl (fun w hw=>a2j rx fx r fs w (by simpa using hw)) ⟨.bl _,H,I,rfl,?_⟩
  rw[show its.toArray.any (eqU x)=its.any (eqU x)by simp,a3d r fs]
  exact q
theorem a6u:OpR X (compareOp .NotIn) (rIn X.K true):=by
 intro pins s σ H x y v u Q I rx ry h
 obtain⟨p,xs,rfl,hq,fx,fs,q⟩:=h
 cases ry
 rcases hq with hq | hq
 ·obtain⟨its,r,pl,hz⟩:=I.list hq
  refine SeqAt.notIn_listAt (eqU x) pl.isList (fun w hw=>a2j rx fx r fs w (by simpa using hw)) ⟨.bl _,H,I,rfl,?_⟩
  rw[show its.toArray.any (eqU x)=its.any (eqU x)by simp,a3d r fs]
  exact q
 ·obtain⟨its,r,pl,hz⟩:=I.tuple hq
  refine SeqAt.notIn_tupleAt (eqU x) pl (fun w hw=>a2j rx fx r fs w (by simpa using hw)) ⟨.bl _,H,I,rfl,?_⟩
  rw[show its.toArray.any (eqU x)=its.any (eqU x)by simp,a3d r fs]
  exact q
theorem O9:a0R X (.builtin "len") (fun xs H Q=>∃p ys,xs=[.ref p]/\(SqL X.K H p ys\/SqT X.K H p ys)/\Q (.int ys.length) H):=by
 intro pins s σ H xs us Q I r h
 obtain⟨p,ys,rfl,hq,q⟩:=h
 obtain⟨u,rfl,rx⟩:=a4f r
 cases rx
 have hn:=a3E
 rcases hq with hq | hq
 ·obtain⟨its,r',pl,hz⟩:=I.list hq
  have hlen:=r'.length
  exact Calls.call_len_list pl.isList (by simp only[List.size_toArray]<;>omega) ⟨.int ys.length,H,I.tok _,⟨s.toks+1,by rw[List.size_toArray,hlen]⟩,q⟩
 ·obtain⟨its,r',pl,hz⟩:=I.tuple hq
  have hlen:=r'.length
  exact len_tuple pl (by simp only[List.size_toArray]<;>omega) ⟨.int ys.length,H,I.tok _,⟨s.toks+1,by rw[List.size_toArray,hlen]⟩,q⟩
theorem a6m:a0R X (.builtin "len") (fun xs H Q=>∃z,xs=[.str z]/\z.length<=sizeLine/\Q (.int z.length) H):=by
 intro pins s σ H xs us Q I r h
 obtain⟨z,rfl,hz,q⟩:=h
 obtain⟨u,rfl,t,rfl⟩:=a4f r
 have hn:=a3E
 exact len_str (by omega) ⟨.int z.length,H,I.tok _,⟨_,rfl⟩,q⟩
theorem a0R.or{f:Value}{r r':List V->Hp->VK->Prop}(h:a0R X f r)(h':a0R X f r'):a0R X f (fun xs H Q=>r xs H Q\/r' xs H Q):=by
 intro pins s σ H xs us Q I rs q
 rcases q with q | q
 ·exact h pins s σ H xs us Q I rs q
 ·exact h' pins s σ H xs us Q I rs q
theorem a7b:a0R X (.type "list") (fun xs H Q=>∃p ys,xs=[.ref p]/\(SqL X.K H p ys\/SqT X.K H p ys)/\∀l,H l=none->Q (.ref l) (upd H l (.lst ys))):=by
 intro pins s σ H xs us Q I r h
 obtain⟨p,ys,rfl,hq,q⟩:=h
 obtain⟨u,rfl,rx⟩:=a4f r
 cases rx
 have fin:∀(its:List Value),W0 ys its->ys.length<=sizeLine->∀(h':Heap)(c':Nat),(∀b o',s.heap.get? b=some o'->h'.get? b=some o')->
   h'.get? s.heap.objs.size=some {cls:= .type "list",dict:=none,data:= .seq its.toArray c',slots:= #[]}->EP X pins σ Q (.ref s.heap.objs.size) {s with heap:=h'}:=fun its r' hz h' c' kp e=>
  ⟨.ref s.heap.objs.size,_,I.laid (t':=s.toks) kp (AD _) (show Z4 X.prog X.w _ h' _ (.lst ys)from⟨hz,its,c',r',e⟩),rfl,q _ (I.hok.fresh (AD _))⟩
 rcases hq with hq | hq
 ·obtain⟨its,r',pl,hz⟩:=I.list hq
  have hlen:=r'.length
  obtain⟨o,ho,hc,n,hd⟩:=pl.isList
  exact call_list_seq p (.inl rfl) ho hc hd (fun h' c' kp e=>fin its r' hz h' c' kp e) (by simp only[List.size_toArray]<;>omega)
 ·obtain⟨its,r',pl,hz⟩:=I.tuple hq
  have hlen:=r'.length
  obtain⟨o,ho,hc,n,hd⟩:=pl
  exact call_list_seq p (.inr rfl) ho hc hd (fun h' c' kp e=>fin its r' hz h' c' kp e) (by simp only[List.size_toArray]<;>omega)
theorem U7:a0R X (.type "tuple") (fun xs H Q=>∃p ys,xs=[.ref p]/\((SqL X.K H p ys/\∀l,H l=none->Q (.ref l) (upd H l (.tup ys)))\/(SqT X.K H p ys/\Q (.ref p) H))):=by
 intro pins s σ H xs us Q I r h
 obtain⟨p,ys,rfl,h⟩:=h
 obtain⟨u,rfl,rx⟩:=a4f r
 cases rx
 rcases h with⟨hq,q⟩ | ⟨hq,q⟩
 ·obtain⟨its,r',pl,hz⟩:=I.list hq
  have hlen:=r'.length
  refine call_tuple_list pl.isList (fun h' kp=>?_) (by simp only[List.size_toArray]<;>omega)
  have I1:Inv X pins σ H {s with heap:=h'}:=I.kept (t':=s.toks) kp
  have I2:Inv X pins σ (upd H h'.objs.size (.tup ys)) {s with heap:=h'.push {cls:= .type "tuple",data:= .seq its.toArray}}:=
   I1.laid (t':=s.toks) (fun b o e=>AC _ e) (AD _) (show Z4 X.prog X.w _ _ _ (.tup ys)from⟨hz,its,r',IsTup.new _ _⟩)
  exact⟨.ref h'.objs.size,_,I2,rfl,q _ (I1.hok.fresh (AD _))⟩
 ·obtain⟨its,r',pl,hz⟩:=I.tuple hq
  exact call_tuple_same pl ⟨.ref p,H,I,rfl,q⟩
noncomputable def tyV (K:W.Frag) (T:String) (x:V) (H:Hp):Prop:=match x with
 | .str _=>T="str"
 | .int _=>T="int"
 | .ref p=>(T="list"/\∃xs,SqL K H p xs)\/(T="tuple"/\∃o,K.lookup p=some o/\o.cls= .type "tuple"/\o.dict=none)\/
   (T="dict"/\((∃kvs,H p=some (.dK kvs))\/∃kvs,H p=some (.dT kvs)))\/(T="set"/\∃S n,H p=some (.set S n))
 | _=>False
theorem b0Z{pins:List (Addr×Obj)}{σ:St}{H:Hp}{s:Shared}{T:String}{x:V}{v:Value}(I:Inv X pins σ H s)(r:W7 x v)(ty:tyV X.K T x H):
  s.TypeIs v T/\∀a,v= .ref a->∃ob,s.heap.get? a=some ob/\ob.dict=none:=by
 cases x with
 | str z=>
  obtain⟨t,rfl⟩:=r
  cases(show T="str" from ty)
  exact⟨typeIs_str s z t,fun _ e=>nomatch e⟩
 | int i=>
  obtain⟨t,rfl⟩:=r
  cases(show T="int" from ty)
  exact⟨typeIs_int s i t,fun _ e=>nomatch e⟩
 | ref p=>
  cases r
  rcases ty with⟨rfl,xs,hq⟩ | ⟨rfl,o,hk,hc,hd⟩ | ⟨rfl,hk⟩ | ⟨rfl,S,n,hk⟩
  ·obtain⟨its,_,pl,_⟩:=I.list hq
   refine⟨pl.isList.typeIs,fun a e=>?_⟩
   cases e
   obtain⟨o,n,e,c,hd,_⟩:=pl
   exact⟨o,e,hd⟩
  ·refine⟨⟨o,I.kIn p o hk,hc⟩,fun a e=>?_⟩
   cases e
   exact⟨o,I.kIn _ o hk,hd⟩
  ·have z:∃o,s.heap.get? p=some o/\o.ExactDict:=by
    rcases hk with⟨kvs,hk⟩ | ⟨kvs,hk⟩
    ·obtain⟨_,_,_,_,o,_,_,e,ex,_⟩:=I.hok p _ hk
     exact⟨o,e,ex⟩
    ·obtain⟨_,_,_,_,o,_,_,e,ex,_⟩:=I.hok p _ hk
     exact⟨o,e,ex⟩
   obtain⟨o,e,ex⟩:=z
   refine⟨⟨o,e,ex.1⟩,fun a e2=>?_⟩
   cases e2
   exact⟨o,e,ex.2.1⟩
  ·obtain⟨o,_,_,_,e,ex,_⟩:=I.hok p _ hk
   refine⟨⟨o,e,ex.1⟩,fun a e2=>?_⟩
   cases e2
   exact⟨o,e,ex.2.1⟩
 | _=>exact False.elim ty
noncomputable def b5W (K:W.Frag) (T:String) (r:V->List V->Hp->VK->Prop) (to:TE):TE:=fun σ H Q=>to σ H fun x H1=>tyV K T x H1/\r x [] H1 Q
noncomputable def tBM (K:W.Frag) (T:String) (r:V->List V->Hp->VK->Prop) (to:TE) (t:TA):TE:=fun σ H Q=>to σ H fun x H1=>tyV K T x H1/\t σ H1 fun xs H2=>r x xs H2 Q
variable{o e:Expr}{es:List Expr}{to:TE}{t:TA}{name:Str}{apos cpos:Pos}{T id:String}{r:V->List V->Hp->VK->Prop}
theorem b1j(pa:PlainAttrs T)(slot:Slot T name id)(hty:typeOf (.builtin id)=pure (.type "method_descriptor"))(hm:MtR X id r)(ho:PE X o to)
  (hbase:attributeBase o name X.env (eval o X.env)=eval o X.env:=by rfl)(hline:(apos.endLine==cpos.line)=true:=by rfl):PE X (.Call (.Attribute o name apos) [] [] cpos) (b5W X.K T r to):=by
 intro pins s σ H Q I h
 refine wpAny_Call_method0_late hbase hline (thn (ho pins s σ H _ I h) fun v s1⟨x,H1,I1,r1,ty,q1⟩=>?_)
 obtain⟨h1,h2⟩:=b0Z I1 r1 ty
 exact⟨T,id,pa,slot,hty,h1,h2,Calls.callWith_builtin rfl (PySem.evalArgs_none (hm pins s1 σ H1 x [] v [] Q I1 r1 .nil q1))⟩
theorem a2F(pa:PlainAttrs T)(slot:Slot T name id)(hty:typeOf (.builtin id)=pure (.type "method_descriptor"))(hm:MtR X id r)(ho:PE X o to)(ha:PA X (e::es) t)
  (hbase:attributeBase o name X.env (eval o X.env)=eval o X.env:=by rfl)
  (hfew:((backTo cpos (starEach (e::es) X.env)).all (fun x=>!x.1) && (backToKw cpos (keywordEach [] X.env)).all (fun x=>x.1.isSome)
   && decide ((e::es).length+([]:List Keyword).length+(if([]:List Keyword).isEmpty then 0 else 1) < 30))=true:=by rfl)
  (hline:(apos.endLine==cpos.line)=true:=by rfl)(hs:starEach (e::es) X.env=(false,eval e X.env)::starEach es X.env:=by rfl)(hplain:(backTo cpos (starEach es X.env)).any (·.1)=false:=by rfl):
  PE X (.Call (.Attribute o name apos) (e::es) [] cpos) (tBM X.K T r to t):=by
 intro pins s σ H Q I h
 refine wpAny_Call_method_late hbase hfew hline rfl (thn (ho pins s σ H _ I h) fun v s1⟨x,H1,I1,r1,ty,q1⟩=>?_)
 obtain⟨h1,h2⟩:=b0Z I1 r1 ty
 refine⟨T,id,pa,slot,hty,h1,h2,?_⟩
 have hA:=ha cpos pins s1 σ H1 _ I1 q1
 rw[hs]at hA⊢
 refine Calls.callWith_builtin (by show(false || (backTo cpos (starEach es X.env)).any (·.1))=false;rw[hplain]<;>rfl) (Calls.evalArgs_plain ?_)
 exact thn hA fun us s2⟨vs,H2,I2,r2,q2⟩=>hm pins s2 σ H2 x vs v us Q I2 r1 r2 q2
end
end L2
namespace L2
open PySem PySem.Spec PyProof.Rows
noncomputable def MtM (X:Cx) (id:String) (r:V->List V->Hp->VK->Prop):Prop:=
 ∀(pins:List (Addr×Obj))(s:Shared)(σ:St)(H:Hp)(x:V)(xs:List V)(v:Value)(us:List Value)(Q:VK),Inv X pins σ H s->W7 x v->W0 xs us->r x xs H Q->
  wpAny (model X.prog X.w) X.A (call (.builtin id) (v::us)) (EP X pins σ Q) X.xe s
theorem W0.one:∀{x:V}{us:List Value},W0 [x] us->∃u,us=[u]/\W7 x u
 | _,_,.cons r .nil=>⟨_,rfl,r⟩
theorem W0.zero:∀{us:List Value},W0 [] us->us=[]
 | _,.nil=>rfl
theorem W0.dropLast{xs:List V}{us:List Value}(h:W0 xs us):W0 xs.dropLast us.dropLast:=by
 induction h with
 | nil=>exact .nil
 | cons r t ih=>
  cases t with
  | nil=>exact .nil
  | cons q t'=>exact .cons r ih
theorem a7Y{α:Type}(l:List α):l.eraseIdx (l.length - 1)=l.dropLast:=by
 induction l with
 | nil=>rfl
 | cons a r ih=>
  cases r with
  | nil=>rfl
  | cons b r=>
   have e:(a::b::r).length - 1=((b::r).length - 1)+1:=by
    have h1:(a::b::r).length=r.length+2:=rfl
    have h2:(b::r).length=r.length+1:=rfl
    omega
   rw[e,List.eraseIdx_cons_succ,ih]
   all_goals rfl
section
variable{X:Cx}{pins:List (Addr×Obj)}{σ:St}{H:Hp}{s:Shared}{l b:Addr}{xs ys zs:List V}
theorem Inv.lset{its its':List Value}{n:Nat}{f:Array Value->Array Value}{t':Nat}(I:Inv X pins σ H s)(hH:H l=some (.lst xs))
  (e:s.heap.get? l=some {cls:= .type "list",data:= .seq its.toArray n})(hf:f its.toArray=its'.toArray)(hv:W0 ys its')(hz:ys.length<=sizeLine):
  Inv X pins σ (upd H l (.lst ys)) {s with heap:=s.heap.update l (Obj.mapSeq f),toks:=t'}:=by
 have q:=PySem.IsL.update e f
 rw[hf]at q
 refine I.write (x:=l) (e:=l) (by rw[hH];exact trivial) (.inl rfl) (fun b' u hb hu=>(Heap.get?_update_other s.heap (Obj.mapSeq f) (Ne.symm hb)).trans hu) ⟨_,q⟩ ?_
 exact⟨hz,its',_,hv,q⟩
theorem Inv.lnew{its:List Value}{t':Nat}(I:Inv X pins σ H s)(hv:W0 ys its)(hz:ys.length<=sizeLine):
  Inv X pins σ (upd H s.heap.objs.size (.lst ys)) {s with heap:=s.heap.push {cls:= .type "list",data:= .seq its.toArray},toks:=t'}:=
 I.laid (fun _ _ q=>AC _ q) (AD _) ⟨hz,its,0,hv,AG _ rfl⟩
theorem Inv.fresh(I:Inv X pins σ H s):H s.heap.objs.size=none:=I.hok.fresh (AD _)
theorem Inv.lstM(I:Inv X pins σ H s)(hH:H l=some (.lst xs)):xs.length<=sizeLine/\∃(its:List Value)(n:Nat),W0 xs its/\xs.length=its.length/\s.heap.get? l=some {cls:= .type "list",data:= .seq its.toArray n}:=by
 obtain⟨z,its,n,r,e⟩:=I.hok l _ hH
 exact⟨z,its,n,r,r.length,e⟩
end
section
variable{X:Cx}
noncomputable def a8W:V->List V->Hp->VK->Prop:=fun x vs H Q=>∃l xs y,x= .ref l/\vs=[y]/\H l=some (.lst xs)/\xs.length < sizeLine/\Q .non (upd H l (.lst (xs++[y])))
theorem D8:MtM X "list.append" a8W:=by
 intro pins s σ H x vs v us Q I rx rv h
 obtain⟨l,xs,y,rfl,rfl,hH,hz,q⟩:=h
 cases rx
 obtain⟨u,rfl,ru⟩:=rv.one
 obtain⟨z,its,n,r,hl,e⟩:=I.lstM hH
 refine call_meets F.slot_list_append ⟨_,e,rfl⟩ F.entry_list_append (F.args_list_append_2 _ _) (PySem.list_append l its.toArray n u (by rw[List.size_toArray];omega)) ⟨e,?_⟩
 refine⟨.non,_,I.lset (its':=its++[u]) hH e (by simp) (r.append (.cons ru .nil)) ?_,rfl,q⟩
 rw[List.length_append,List.length_singleton]
 omega
noncomputable def b6a:V->List V->Hp->VK->Prop:=fun x vs H Q=>∃l xs y,x= .ref l/\vs=[]/\H l=some (.lst xs)/\xs[xs.length - 1]?=some y/\Q y (upd H l (.lst xs.dropLast))
theorem b1Z:MtM X "list.pop" b6a:=by
 intro pins s σ H x vs v us Q I rx rv h
 obtain⟨l,xs,y,rfl,rfl,hH,hy,q⟩:=h
 cases rx
 have hus:=rv.zero
 subst hus
 obtain⟨z,its,n,r,hl,e⟩:=I.lstM hH
 obtain⟨u,hu,ru⟩:=r.get hy
 have hy':its.toArray[its.toArray.size - 1]?=some u:=by
  show its.toArray[its.length - 1]?=some u
  rw[<-Array.getElem?_toList,<-hl]
  exact hu
 refine call_meets F.slot_list_pop ⟨_,e,rfl⟩ F.entry_list_pop (F.args_list_pop_1 _) (MeetsSeq.list_pop_last l its.toArray n u hy' (by rw[List.size_toArray];omega)) ⟨e,?_⟩
 refine⟨y,_,I.lset (its':=its.dropLast) hH e ?_ r.dropLast ?_,ru,q⟩
 ·show its.toArray.eraseIdxIfInBounds (its.toArray.size - 1)=its.dropLast.toArray
  rw[List.size_toArray,List.eraseIdxIfInBounds_toArray,a7Y]
 ·rw[List.length_dropLast]
  omega
noncomputable def b5P:R2:=fun x y H Q=>∃l b xs zs,x= .ref l/\y= .ref b/\H l=some (.lst xs)/\H b=some (.lst zs)/\xs.length+zs.length<=sizeLine/\∀p,H p=none->Q (.ref p) (upd H p (.lst (xs++zs)))
theorem a4C:OpR X (binaryOp .Add) b5P:=by
 intro pins s σ H x y v u Q I rx ry h
 obtain⟨l,b,xs,zs,rfl,rfl,hH,hB,hz,q⟩:=h
 cases rx
 cases ry
 obtain⟨z,its,n,r,hl,e⟩:=I.lstM hH
 obtain⟨z2,its2,n2,r2,hl2,e2⟩:=I.lstM hB
 refine PySem.P.add_list e e2 ?_ (by rw[List.size_toArray,List.size_toArray];omega)
 have ea:its.toArray++its2.toArray=(its++its2).toArray:=by simp
 rw[ea]
 exact⟨.ref _,_,I.lnew (t':=s.toks) (r.append r2) (by rw[List.length_append];omega),rfl,q _ I.fresh⟩
end
section
variable{prog:Program}{w:World}{A:Around}{E:Value->Shared->Prop}{s:Shared}
set_option maxRecDepth 100000 in
end
section
variable{X:Cx}
end
end L2
namespace Att
open PySem PySem.W PySem.Calls PyProof.Rows
theorem a4m{P:Params}{h:Heap}:∀(ns:List Int)(vs:List Value),WellAll P h vs (ns.map WData.int)->IntsAre vs ns:=by
 intro ns
 induction ns with
 | nil=>
  intro vs w
  rw[List.map_nil]at w
  cases w
  exact .nil
 | cons n ns ih=>
  intro vs w
  rw[List.map_cons]at w
  cases w with
  | cons a b=>
   cases a
   exact .cons _ _ (ih _ b)
theorem b0s{l:OpenLaw}{n:Nat}(hn:l.most=some n){P:Params}{h:Heap}{args:List WData}{vals:List Value}
  (hpre:l.row.toRowW.claim.pre args=true)(hwl:WellAll P h vals args):
  ∃a vs ns,vals=[Value.ref a]/\args=[WData.list (ns.map WData.int)]/\h.get? a=some {cls:= .type "list",data:= .seq vs.toArray}/\IntsAre vs ns/\ns.length<=n:=by
 have hsh:WShape.hasAll [] args [.list .int]=true:=(pre_splitW hpre).1
 have hc:l.pre.holds [] {args:=args}=true:=(pre_splitW hpre).2
 obtain⟨d,r,rfl,h1,h2⟩:=hasAllW_cons hsh
 obtain rfl:=hasAllW_nil h2
 obtain⟨xs,rfl,h3⟩:=hasW_list h1
 obtain⟨ns,rfl⟩:=items_int h3
 have hlen:ns.length<=n:=by
  unfold OpenLaw.pre at hc
  have h4:(WTm.not (.lt (.lit (.int (n:Int))) (.len (.arg 0)))).holds [] {args:=[.list (ns.map .int)]}=true:=by
   have h4:=(holds_andW hc).1
   rw[hn]at h4
   exact h4
  have h5:=condW_of h4 (w_not (w_lt w_lit (w_len_list (w_arg rfl))))
  rw[AI]at h5
  refine Nat.le_of_not_lt fun q=>?_
  have q':(n:Int) < ((ns.length:Nat):Int):=by omega
  first
   | (rw[decide_eq_true q']at h5;exact absurd h5 (by decide))
   | (simp at h5;omega)
 cases hwl with
 | cons w1 w2=>
  cases w2
  cases w1 with
  | list ho hall=>exact⟨_,_,ns,rfl,rfl,ho,a4m ns _ hall,hlen⟩
theorem b0a(l:OpenLaw)(args:List WData):l.row.toRowW.claim.post args (.bool true) args=true:=
 postW_of (r:=l.row.toRowW) (X:=(true==true))
  (show WShape.has [] (.bool true) .bool=true by first | rfl | decide | simp[WShape.has,WShape.arms,WShape.armsAll])
  (show(WTm.eq .res (.lit (.bool true))).value [] {args:=args,res:=some (.bool true),after:=args}=some (.bool (true==true))from w_eq_bool (w_res rfl) w_lit) rfl
theorem a7s{l:OpenLaw}{n:Nat}{q:Program}{loose:List Str}{XP:(Str->Option Value)->Heap->Prop}{YP:World->Heap->Prop}{d:DefRec}
  (hn:l.most=some n)(hdf:d.params.defaults=[])
  (call:∀(w:World)(s₀ s₁:Shared)(mg mb:Str->Option Value)(fa:Addr)(o:Obj)(pm cd doc:Value)(a:Addr)(vs:List Value)(ns:List Int),
   Ground q loose [] XP w s₀ mg mb s₁.heap->YP w s₁.heap->
   s₁.heap.get? fa=some o->o.data= .func (docDef d.name d.params d.body d.scope pm cd doc)->s₁.heap.CodeRec cd d.name->mg d.name=some (.ref fa)->
   s₁.heap.get? a=some {cls:= .type "list",data:= .seq vs.toArray}->IntsAre vs ns->ns.length<=n->s₁.gens= #[]->
   codeAny (model l.prog w) callerA (.call (.ref fa) ⟨[.ref a],[]⟩) (fun r s'=>r= .ok (.ret (.bool true))/\OldK s₁.heap s'.heap/\s'.os=s₁.os/\AllBare s'.gens) s₁):
  WalkO q loose XP YP l.row.toRowW d [] (fun f vs=>PySem.call f vs):=by
 intro w s₀ s₁ mg mb G Y fa o pm cd doc dV kV ho hd hcd hD hmg hg args vals as hpre hlay hrd hwl hlo
 obtain rfl:dV= .none:=Dflts.none hD hdf
 obtain rfl:kV= .none:=Dflts.noKw hD
 obtain⟨a,vs,ns,rfl,rfl,hobj,hints,hlen⟩:=b0s hn hpre hwl
 refine enter_call (codeAny_mono (call w s₀ s₁ mg mb fa o pm cd doc a vs ns G Y ho (fd_plain hd) hcd hmg hobj hints hlen hg) fun r s' hq=>?_)
 obtain⟨rfl,h2,h3,h4⟩:=hq
 exact⟨.inl ⟨.bool true,.bool true,[],rfl,fun _=>rfl,.bool true,b0a l _,fun _=>⟨List.Pairwise.nil,fun _ hm=>(nomatch hm)⟩⟩,h2,h3,h4⟩
section
variable{prog:Program}{w:World}{A:Around}{E:Value->Shared->Prop}{s:Shared}{K:Frag}
end
end Att
namespace L2
open PySem PySem.Spec PyProof.Rows
theorem a6b:∀{vs:List Value}{ns:List Int},IntsAre vs ns->W0 (ns.map V.int) vs
 | _,_,.nil=> .nil
 | _,_,.cons n t h=> .cons ⟨t,rfl⟩ (a6b h)
noncomputable def b3D (H:Hp):Prop:=∀b,H b=none\/∃o xs,H b=some (.frz o (.lst xs))
theorem b0T{P:Program}{w:World}{K:W.Frag}{mg mb:Str->Option Value}{CX:CXT}{k:Nat}{fa a:Addr}{fd:FuncData}{x:Str}{sp:Sp}{s₁:Shared}{vs:List Value}{ns:List Int}
  (KX:K.In s₁.heap)(hns:s₁.heap.Ns mainGlobals mg)(hb:s₁.heap.Ns builtinsNs mb)(hbb:∀x:Str,x≠ "__name__" ->mb x=bootBuiltins x)(hlim:s₁.heap.NoLimit)(hg:s₁.gens= #[])
  (ha:s₁.heap.get? a=some {cls:= .type "list",data:= .seq vs.toArray})(hi:IntsAre vs ns)(hl:ns.length<=sizeLine)(hr:M6 k callerA)
  (F:∀base:Heap,K.In base->base.Ns mainGlobals mg->a2B P w K mg base CX k fa fd [x] sp)(hbind:∀(s:Shared)(u:Value),BindsTo s fd ⟨[u],[]⟩ [(x,u)])
  (hsp:∀H:Hp,b3D H->SqL K H a (ns.map V.int)->sp [.ref a] H (fun v _=>v= .bl true) fun _ _ _=>False)
  (hCX:∀H e s',CX [] H s₁ (fun _ _ _=>False) e s'->False):
  codeAny (model P w) callerA (.call (.ref fa) ⟨[.ref a],[]⟩) (fun r s'=>r= .ok (.ret (.bool true))/\OldK s₁.heap s'.heap/\s'.os=s₁.os/\AllBare s'.gens) s₁:=by
 have rv:=a6b hi
 have lenV:=hi.length
 have core:∀H:Hp,b3D H->SqL K H a (ns.map V.int)->HOk P w H s₁.heap->(∀b,H b≠none->b=a)->(H a≠none->K.lookup a=none)->
   codeAny (model P w) callerA (.call (.ref fa) ⟨[.ref a],[]⟩) (fun r s'=>r= .ok (.ret (.bool true))/\OldK s₁.heap s'.heap/\s'.os=s₁.os/\AllBare s'.gens) s₁:=by
  intro H hO hS hok hA hK
  have base_of:∀{b:Addr}{o:Obj},s₁.heap.get? b=some o->H b=none->(a6Y s₁.heap H).get? b=some o:=fun e n=>b1A e n
  have noA:∀{b:Addr}{o:Obj}{es:Array DictEntry}{ep:Nat},s₁.heap.get? b=some o->o.data= .dict es ep->H b=none:=fun{b o es ep}e d=>by
   cases q:H b with
   | none=>rfl
   | some u=>
    have e':b=a:=hA b (by rw[q];simp)
    subst e'
    rw[ha]at e;cases e
    have d':Data.seq vs.toArray _=Data.dict es ep:=d
    cases d'
  have nsK:∀{b:Addr}{m:Str->Option Value},s₁.heap.Ns b m->(a6Y s₁.heap H).Ns b m:=fun{b m}⟨o,es,ep,e,d,r⟩=>⟨o,es,ep,base_of e (noA e d),d,r⟩
  have hKb:K.In (a6Y s₁.heap H):=fun b o e=>base_of (KX b o e) (by
   cases q:H b with
   | none=>rfl
   | some u=>
    have e':b=a:=hA b (by rw[q];simp)
    subst e'
    rw[hK (by rw[q];simp)]at e;cases e)
  have hM:Mod K mg (a6Y s₁.heap H):=⟨hKb,nsK hns,⟨mb,nsK hb,hbb⟩,let⟨mc,h1,h2⟩:=hlim;⟨mc,nsK h1,h2⟩⟩
  have e0:a8c P w K mg (a6Y s₁.heap H) callerA [] s₁ H:=⟨rfl,hM,fun b o e=>b3j e,Nat.le_of_eq (b0f _ _),trivial,fun b hb=>absurd (show b∈([]:List Addr)from hb) (by simp),hok,.of_eq hg⟩
  refine codeAny_mono ((F _ hKb (nsK hns)).run callerA [] s₁ H ⟨[.ref a],[]⟩ [.ref a] [.ref a] _ _ hr e0 (hbind s₁ (.ref a)) (.cons rfl .nil) (hsp H hO hS)) fun r s' h=>?_
  cases r with
  | error e=>exact(hCX H e s' h).elim
  | ok fl=>
   cases fl with
   | next=>exact False.elim h
   | brk=>exact False.elim h
   | cont=>exact False.elim h
   | ret u=>
    obtain⟨v,H',os,bare,un,hok',r',q⟩:=h
    have q':v= .bl true:=q
    subst q'
    obtain rfl:u=Value.bool true:=r'
    refine⟨rfl,OldK.of_keep fun b o e=>?_,os,bare⟩
    cases q:H b with
    | none=>exact un.keep b o e q (by intro z;exact absurd (show b∈([]:List Addr)from z) (by simp)) (by simp)
    | some u=>
     rcases hO b with z | ⟨ob,xs,z⟩
     ·rw[q]at z;cases z
     ·have z2:=un.frzs b ob _ z
      obtain⟨e1,_⟩:=hok b _ z
      obtain⟨e2,_⟩:=hok' b _ z2
      rw[e]at e1;cases e1
      exact e2
 cases hk:K.lookup a with
 | some o=>
  have e:=KX a o hk
  rw[ha]at e
  cases e
  refine core (fun _=>none) (fun _=> .inl rfl) (.inr ⟨_,vs.toArray,_,hk,rfl,rfl,rfl,by rw[List.size_toArray,lenV];exact hl,by simpa using rv⟩) (fun b u z=>by have z':(none:Option HO)=some u:=z;cases z') (fun b z=>absurd rfl z) fun z=>absurd rfl z
 | none=>
  refine core (fun b=>if b=a then some (.frz {cls:= .type "list",data:= .seq vs.toArray} (.lst (ns.map V.int)))else none) (fun b=>?_) (.inl (.inr ⟨{cls:= .type "list",data:= .seq vs.toArray},if_pos rfl⟩)) (fun b u z=>?_) (fun b z=>?_) fun _=>hk
  ·by_cases hb:b=a
   ·exact .inr ⟨_,_,if_pos hb⟩
   ·exact .inl (if_neg hb)
  ·by_cases hb:b=a
   ·have z':=(if_pos hb).symm.trans z
    cases z'
    subst hb
    exact⟨ha,by rw[AI];exact hl,vs,_,rv,ha⟩
   ·have z':=(if_neg hb).symm.trans z
    cases z'
  ·by_cases hb:b=a
   ·exact hb
   ·exact absurd (if_neg hb) z
end L2
namespace L2
open PySem PySem.Spec PyProof.Rows
noncomputable abbrev KOf {K:W.Frag} {h:Heap} (_:K.In h):W.Frag:=K
theorem b2j{l:W.OpenLaw}{n k:Nat}{q:Program}{loose:List Str}{XP:(Str->Option Value)->Heap->Prop}{YP:World->Heap->Prop}{d:DefRec}{K:Params->W.Frag}{CX:World->CXT}{sp:World->Sp}{x:Str}
  (hn:l.most=some n)(hn2:n<=sizeLine)(hdf:d.params.defaults=[])(hr:M6 k callerA)
  (hY:∀(w:World)(h:Heap),YP w h->(K w.params).In h)
  (F:∀(w:World)(mg:Str->Option Value)(fa:Addr)(h:Heap),(K w.params).In h->h.Ns mainGlobals mg->mg d.name=some (.ref fa)->
   ∃fd:FuncData,(∀(s:Shared)(u:Value),BindsTo s fd ⟨[u],[]⟩ [(x,u)])/\
    ∀base:Heap,(K w.params).In base->base.Ns mainGlobals mg->a2B l.prog w (K w.params) mg base (CX w) k fa fd [x] (sp w))
  (hsp:∀(w:World)(H:Hp)(a:Addr)(ns:List Int),ns.length<=n->b3D H->SqL (K w.params) H a (ns.map V.int)->sp w [.ref a] H (fun v _=>v= .bl true) fun _ _ _=>False)
  (hCX:∀(w:World)(H:Hp)(s:Shared)(e:Value)(s':Shared),CX w [] H s (fun _ _ _=>False) e s'->False):
  W.WalkO q loose XP YP l.row.toRowW d [] (fun f vs=>PySem.call f vs):=by
 refine Att.a7s hn hdf fun w s₀ s₁ mg mb fa o pm cd doc a vs ns G Y ho hd hcd hmg hobj hints hlen hg=>?_
 have KX:=hY w _ Y
 obtain⟨fd,hb,hF⟩:=F w mg fa _ KX G.T.g hmg
 exact b0T KX G.T.g G.T.b G.T.builtins G.T.nolimit hg hobj hints (Nat.le_trans hlen hn2) hr hF hb (fun H hO hS=>hsp w H a ns hlen hO hS) fun H e s'=>hCX w H s₁ e s'
end L2
namespace L2
open PySem PySem.Spec PyProof.Rows
noncomputable def Z8 (s:Stmt) (j:Nat):Stmt:=match s with
 | .ClassDef _ _ _ body _ _ _ _ _ _ _=>body.getD j (.Pass ⟨0,0,0,0⟩)
 | _=> .Pass ⟨0,0,0,0⟩
noncomputable def R1 (s:Stmt):Arguments:=match s with
 | .FunctionDef _ a _ _ _ _ _ _ _ _=>a
 | _=>{posonlyargs:=[],args:=[],vararg:=none,kwonlyargs:=[],kw_defaults:=[],kwarg:=none,defaults:=[]}
noncomputable def R0 (s:Stmt):List Stmt:=match s with
 | .FunctionDef _ _ b _ _ _ _ _ _ _=>b
 | _=> []
noncomputable def I9 (s:Stmt):Scope:=match s with
 | .FunctionDef _ _ _ _ _ _ sc _ _ _=>sc
 | _=>{kind:= .function,names:=[],isGenerator:=false,isCoroutine:=false}
noncomputable abbrev CX0:CXT:=fun _ _ _ _ _ _=>False
noncomputable abbrev E0:XK:=fun _ _ _=>False
theorem a9i{X:Cx}:a2K CX0 X E0:=fun _ _ _ _ _ _ _ h=>h.elim
structure Fun(K:W.Frag)(x qual:Str)(st:Stmt)(f:Addr)(fd:FuncData):Prop where
 ex:∃(oc:Value)(od:Option Addr)(kV doc pm:Value)(an:Option Addr)(cdv ct:Value)(osl:Array (Option Value)),
  fd=W.fnOf x qual (R1 st) (R0 st) (I9 st) .none kV doc pm an cdv ct/\K.lookup f=some ⟨oc,od,.func fd,osl⟩/\W.codeIn K cdv qual=true
 kp:W.keepIn K (.ref f)=true
section
variable{P:Program}{w:World}{K:W.Frag}{mg:Str->Option Value}{base:Heap}
theorem Fun.ok{x qual:Str}{st:Stmt}{f:Addr}{fd:FuncData}{N ps:List Str}{k:Nat}{sp:Sp}(F:Fun K x qual st f fd)(S:R6 N ps (I9 st))(len:∀vs H Q E,sp vs H Q E->vs.length=ps.length)
  (hbody:∀(cdv:Value)(A:Around)(outer:List Env)(s:Shared)(H:Hp)(vs:List V)(Q:VK)(E:XK),M6 k (A.deeper (envOfC qual (I9 st) s.heap.objs.size f cdv))->sp vs H Q E->
   ∃t,PSs (a6z CX0 P w K mg base N qual (I9 st) f cdv A outer s H E).nox (R0 st) t/\t {nx:=fun _ H'=>Q .non H',rt:=Q} (a2n N vs) H):a2B P w K mg base CX0 (k+1) f fd ps sp:=by
 obtain⟨oc,od,kV,doc,pm,an,cdv,ct,osl,rfl,lk,hcd⟩:=F.ex
 refine b5n lk hcd S len fun A outer s H vs Q E hr hsp=>?_
 obtain⟨t,h,q⟩:=hbody cdv A outer s H vs Q E hr hsp
 exact⟨t,h.nox,q⟩
theorem Fun.binds{x qual:Str}{st:Stmt}{f:Addr}{fd:FuncData}{ps:List Str}(F:Fun K x qual st f fd)
  (h:∀(kV doc pm:Value)(an:Option Addr)(cdv ct:Value)(us:List Value),us.length=ps.length->bindArgs (W.fnOf x qual (R1 st) (R0 st) (I9 st) .none kV doc pm an cdv ct) ⟨us,[]⟩=pure (ps.zip us)):a1Y K fd ps []:=by
 obtain⟨oc,od,kV,doc,pm,an,cdv,ct,osl,rfl,lk,hcd⟩:=F.ex
 exact .all (h kV doc pm an cdv ct)
theorem a6A{x qual:Str}{st:Stmt}{f:Addr}{oc:Value}{od an:Option Addr}{osl:Array (Option Value)}{kV doc pm cdv ct:Value}(l:K.lookup f=some ⟨oc,od,.func (W.fnOf x qual (R1 st) (R0 st) (I9 st) .none kV doc pm an cdv ct),osl⟩)
  (c:W.codeIn K cdv qual=true)(k:W.keepIn K (.ref f)=true):Fun K x qual st f (W.fnOf x qual (R1 st) (R0 st) (I9 st) .none kV doc pm an cdv ct):=⟨⟨oc,od,kV,doc,pm,an,cdv,ct,osl,rfl,l,c⟩,k⟩
end
theorem a0O{A:Around}{k:Nat}(hr:M6 k A):A.units+1 < cLine:=Nat.lt_of_le_of_lt (Nat.add_le_add_left (by decide:1<=64) _) hr.units
theorem U5{n:Nat}(h:n<=1000):n < sizeLine:=Nat.lt_of_le_of_lt h (by decide)
section
variable{X:Cx}
theorem pv(i:Nat){x:Str}{pos:Pos}(hN:X.N[i]?=some x:=by rfl)(hv:Vis X.env.scope x:=by first | exact Or.inl rfl | exact Or.inr (Or.inl rfl) | exact Or.inr (Or.inr rfl))(hd:(x==("__debug__":Str))=false:=by decide)
  (hcd:(x==("__classdict__":Str))=false:=by decide):PE X (.Name x pos) (b3f i):=b3H hN hv hd hcd
end
theorem O7{A B:Prop}(h:B):if false=true then A else B:=by
 rw[if_neg AE]
 exact h
theorem a0I{A B:Prop}(h:A):if true=true then A else B:=by
 rw[if_pos rfl]
 exact h
theorem b0d{c A B:Prop}[Decidable c](h1:c->A)(h2:¬c->B):if c then A else B:=by
 by_cases h:c
 ·rw[if_pos h]
  exact h1 h
 ·rw[if_neg h]
  exact h2 h
theorem a8O{c A B:Prop}[Decidable c](hc:c)(h:B):if(!decide c)=true then A else B:=by
 rw[decide_eq_true hc]
 exact O7 h
noncomputable def J4 (H H':Hp):Prop:=∀b o,H b=some o->H' b=some o
theorem J4.refl(H:Hp):J4 H H:=fun _ _ h=>h
theorem J4.trans{H H1 H2:Hp}(a:J4 H H1)(b:J4 H1 H2):J4 H H2:=fun c o h=>b c o (a c o h)
theorem J4.free{H H':Hp}(e:J4 H H'){l:Addr}(h:H' l=Option.none):H l=Option.none:=by
 cases q:H l with
 | none=>rfl
 | some o=>
  rw[e l o q]at h
  cases h
theorem J4.seq{K:W.Frag}{H H':Hp}{a:Addr}{xs:List V}(e:J4 H H')(h:SqL K H a xs):SqL K H' a xs:=by
 rcases h with(h | ⟨o,h⟩) | h
 ·exact .inl (.inl (e _ _ h))
 ·exact .inl (.inr ⟨o,e _ _ h⟩)
 ·exact .inr h
end L2
set_option maxHeartbeats 16000000
namespace L2
open PySem PySem.Spec PyProof.Rows
section
variable{X:Cx}{pins:List (Addr×Obj)}{σ:List (Option V)}{H:Hp}{s:Shared}{h':Heap}
theorem Inv.turnedL{t':Nat}{ch:List Addr}(I:Inv X pins σ H s)(k:∀b o,b∉ch->s.heap.get? b=some o->h'.get? b=some o)(hf:∀b∈ch,a4l X pins H b):
  Inv X pins σ H {s with heap:=h',toks:=t'}:=by
 have nit:∀b u,H b=some u->b∉ch:=fun b u e z=>by rw[(hf b z).1]at e;cases e
 refine I.step (g':=s.gens) (d':=s.drawn) (ch:=ch) (fun b hb=>?_) (fun b o _ _ hc e _=>k b o hc e) (fun b o _ _ hc e _=>⟨o.slots,k b o hc e⟩) (fun _ _ _ _ n=>n)
  (fun b o hc e=>⟨o,k b o hc e⟩) (fun _ _ e=>e) (fun _ _ _ e=>e) (fun b ps e=>⟨#[],by rw[e];simp⟩) (fun m hm=>?_) (fun b u e=>?_) I.bare
 ·obtain⟨_,h1,_,h2,h3,h4⟩:=hf b hb
  exact⟨h2,h1,h3,h4⟩
 ·obtain⟨o,es,ep,ho,r⟩:=hm
  exact⟨o,es,ep,k _ o (fun z=>(hf _ z).2.1 rfl) ho,r⟩
 ·refine(I.hok b u e).stay (fun c v hc q=>k c v ?_ q) (fun _ q=>q) fun _ _ q=>q
  rcases hc with z | z
  ·rw[z];exact nit b u e
  ·exact nit c _ z
theorem Inv.track{T:Addr}{o:HO}(I:Inv X pins σ H s)(hf:a4l X pins H T)(new:Z4 X.prog X.w (upd H T o) s.heap T o):Inv X pins σ (upd H T o) s:=by
 obtain⟨h0,h1,h5,h2,h3,h4⟩:=hf
 have nT:∀b u,H b=some u->b≠T:=fun b u e z=>by rw[z,h0]at e;cases e
 refine I.step (h':=s.heap) (g':=s.gens) (d':=s.drawn) (t':=s.toks) (ch:=[T]) (fun b hb=>?_) (fun b o _ _ hc e _=>e) (fun b o _ _ hc e _=>⟨o.slots,e⟩)
  (fun b o hc _ n=>by rw[J0 (fun z=>hc (by simp[z]))];exact n)
  (fun b o hc e=>⟨o,e⟩) (fun b xs e=>by rw[J0 (nT _ _ e)];exact e) (fun b ob u e=>by rw[J0 (nT _ _ e)];exact e) (fun b ps e=>⟨#[],by rw[J0 (nT _ _ e),e];simp⟩) (fun m hm=>hm) (fun b u e=>?_) I.bare
 ·have e:b=T:=by simpa using hb
  subst e
  exact⟨h2,h1,h3,h4⟩
 ·by_cases hb:b=T
  ·subst hb;rw[G7]at e;cases e;exact new
  ·rw[J0 hb]at e
   exact(I.hok b u e).stay (fun c v _ q=>q) (fun c q=>by rw[J0 (nT _ _ q)];exact q) fun c xs q=>by rw[J0 (nT _ _ q)];exact q
end
section
variable{X:Cx}
theorem E3:a0R X (.builtin "isinstance") (fun xs H Q=>∃x t T b,xs=[x,.ty T]/\a3M X.K H x t/\W.kitOne X.K t (.type T)=some b/\Q (.bl b) H):=by
 intro pins s σ H xs us Q I r h
 obtain⟨x,t,T,b,rfl,ty,e,q⟩:=h
 obtain⟨u,w',rfl,rx,ry⟩:=b3n r
 cases(show w'=Value.type T from ry)
 exact a9O I rx ty e fun tk=>⟨.bl b,H,I.tok _,rfl,q⟩
theorem a6p:a0R X (.type "str") (fun xs H Q=>∃x,xs=[.str x]/\Q (.str x) H):=by
 intro pins s σ H xs us Q I r h
 obtain⟨x,rfl,q⟩:=h
 obtain⟨u,rfl,t,rfl⟩:=a4f r
 exact PySem.P.str_of_str ⟨.str x,H,I,⟨_,rfl⟩,q⟩
noncomputable def b5c (K:W.Frag):R2:=fun x y H Q=>∃a b xs ys,x= .ref a/\y= .ref b/\SqT K H a xs/\SqT K H b ys/\xs.length+ys.length<=sizeLine/\
 (xs=[]->Q (.ref b) H)/\(xs≠[]->ys=[]->Q (.ref a) H)/\(xs≠[]->ys≠[]->∀p,H p=none->Q (.ref p) (upd H p (.tup (xs++ys))))
theorem B1:OpR X (binaryOp .Add) (b5c X.K):=by
 intro pins s σ H x y v u Q I rx ry h
 obtain⟨a,b,xs,ys,rfl,rfl,ha,hb,hz,q0,q1,q2⟩:=h
 cases rx
 cases ry
 by_cases hx:xs=[]
 ·obtain⟨its,r1,p1,_⟩:=I.tuple ha
  obtain⟨its2,r2,p2,_⟩:=I.tuple hb
  obtain⟨⟨cls,dd,data,sl⟩,ho,hc,n,hd⟩:=id p1
  obtain⟨⟨cls2,dd2,data2,sl2⟩,ho2,hc2,n2,hd2⟩:=id p2
  simp only at hc hd hc2 hd2
  subst hc hd hc2 hd2
  have hv:its=[]:=r1.nil_iff.mpr hx
  exact concat_meets ⟨_,ho,rfl⟩ ⟨_,ho2,rfl⟩ noFill_tuple_add seq_tuple_add PySem.F.slot_tuple_add PySem.F.entry_tuple_add (PySem.F.args_tuple_add_2 _ _)
   (tuple_addW0 a b its.toArray its2.toArray n n2 dd dd2 sl sl2 (by simp[hv])) ⟨ho,ho2,⟨.ref b,H,I,rfl,q0 hx⟩⟩
 ·exact b2L pins s σ H (.ref a) (.ref b) (.ref a) (.ref b) Q I rfl rfl ⟨a,b,xs,ys,rfl,rfl,ha,hb,hx,hz,q1 hx,q2 hx⟩
theorem a5q:∀{x:V},a1b x=true->eqV x x=true
 | .non,_=>by rfl
 | .bl b,_=>by simp[eqV]
 | .int i,_=>by simp[eqV]
 | .str z,_=>by simp[eqV]
 | .byt _,h=>by first | exact absurd (show false=true from h) AE | simp[eqV]
 | .flt _,h=>by first | exact absurd (show false=true from h) AE | simp[eqV]
 | .ref _,h=>by first | exact absurd (show false=true from h) AE | simp[eqV]
 | .ty _,h=>by first | exact absurd (show false=true from h) AE | simp[eqV]
theorem a8a{A:Around}{s:Shared}{xs:List V}{its its2:List Value}(r1:W0 xs its)(r2:W0 xs its2)(hf:xs.all a1b=true):
  ∀j(h1:j < its.toArray.size)(h2:j < its2.toArray.size),SeqAt.EqAt A s its.toArray[j] its2.toArray[j] true:=by
 intro j h1 h2
 have hl:=r1.length
 have hj:j < xs.length:=by simpa [hl]using h1
 have hx:xs[j]?=some xs[j]:=by simp[hj]
 obtain⟨u,hu,ru⟩:=r1.get hx
 obtain⟨u2,hu2,ru2⟩:=r2.get hx
 have fx:a1b xs[j]=true:=List.all_eq_true.mp hf _ (List.getElem_mem hj)
 have e1:its.toArray[j]=u:=by
  have:its[j]?=some its.toArray[j]:=by simp at h1;simp[h1]
  rw[hu]at this;exact(Option.some.inj this).symm
 have e2:its2.toArray[j]=u2:=by
  have:its2[j]?=some its2.toArray[j]:=by simp at h2;simp[h2]
  rw[hu2]at this;exact(Option.some.inj this).symm
 rw[e1,e2]
 have:=a7c (A:=A) (s:=s) ru ru2 fx fx
 rw[a5q fx]at this
 exact this
theorem a0h(hu:X.A.units < cLine):OpR X (compareOp .NotEq) (fun x y H Q=>∃a b xs,x= .ref a/\y= .ref b/\SqT X.K H a xs/\SqT X.K H b xs/\xs.all a1b=true/\Q (.bl false) H):=by
 intro pins s σ H x y v u Q I rx ry h
 obtain⟨a,b,xs,rfl,rfl,ha,hb,hf,q⟩:=h
 cases rx
 cases ry
 obtain⟨its,r1,p1,_⟩:=I.tuple ha
 obtain⟨its2,r2,p2,_⟩:=I.tuple hb
 have hl1:=r1.length
 have hl2:=r2.length
 refine SeqAt.RcNeAt.tuples (e:=fun _=>true) (show s.heap.IsTuple a its.toArray from p1) (show s.heap.IsTuple b its2.toArray from p2) hu (a8a r1 r2 hf) X.prog X.w _ _ ?_
 have e:(!((List.range (min its.toArray.size its2.toArray.size)).all (fun _=>true) && its.toArray.size==its2.toArray.size))=false:=by
  have:its.toArray.size=its2.toArray.size:=by simp;omega
  simp[this]
 rw[e]
 exact⟨.bl false,H,I,rfl,q⟩
end
end L2
namespace ET
open PySem PySem.Spec
open PySem.AutoSeq1 (wpAny_loadPart')
section
variable{prog:Program}{w:World}{A:Around}{E:Value->Shared->Prop}{s:Shared}
theorem a3n{it l:Addr}{i:Nat}{items:Array Value}{x:Value}{Q:Value->Shared->Prop}(hit:s.heap.IsTupleIter it l i)
  (hl:s.heap.IsTuple l items)(hx:items[i]?=some x)
  (hQ:∀h',h'.IsTupleIter it l (i+1)->Heap.SameBut it s.heap h'->Q x {s with heap:=h'}):
  wpAny (model prog w) A (Builtin.SmallTypes.nextOf (.ref it)) Q E s:=by
 obtain⟨o,ho,hc,hd⟩:=id hit
 obtain⟨ol,hol,_,nl,hdl⟩:=hl
 unfold Builtin.SmallTypes.nextOf
 refine AA (wpAny_callSpecial?_slot (name:=Str.ofString "__next__") hit.typeIs F.slot_tuple_iterator_next
  (wpAny_call_entry F.slot_tuple_iterator_next hit.typeIs F.entry_tuple_iterator_next ?_ (F.args_tuple_iterator_next_1 _)))
 show wpAny _ _ (field (.ref it) 0 >>= _) _ _ s
 refine AA (wpAny_field ho hd (x:= .ref l) rfl ?_)
 show wpAny _ _ (if(Value.ref l==Value.none)=true then _ else _) _ _ s
 rw[if_neg (show¬((Value.ref l==Value.none)=true)from AE)]
 show wpAny _ _ (field (.ref it) 1 >>= _) _ _ s
 refine AA (wpAny_field ho hd (x:= .int i 0) rfl ?_)
 show wpAny _ _ (seqItems? (.ref l) >>= _) _ _ s
 refine AA (wpAny_seqItems hol hdl ?_)
 simp only[Int.toNat_natCast,hx]
 refine AA (wpAny_setField ho hd (by simp) (AB ⟨x,rfl,AB (hQ _ ?_ (Heap.SameBut.update ..))⟩))
 exact⟨_,Heap.get?_update_self _ ho (Obj.isFreed_of_fields (Obj.data_mapFields hd _)),(Obj.cls_mapFields ..).trans hc,by
  rw[Obj.data_mapFields hd];simp[rawInt]⟩
theorem a3H{it l:Addr}{i:Nat}{items:Array Value}{Q:Value->Shared->Prop}(hh:A.handled=none)
  (hit:s.heap.IsTupleIter it l i)(hl:s.heap.IsTuple l items)(hx:items[i]?=none)
  (hE:∀h' e,Heap.ExtBut it s.heap h'->(∃o,h'.get? e=some o/\o.cls= .type "StopIteration")->E (.ref e) {s with heap:=h'}):
  wpAny (model prog w) A (Builtin.SmallTypes.nextOf (.ref it)) Q E s:=by
 obtain⟨o,ho,hc,hd⟩:=id hit
 obtain⟨ol,hol,_,nl,hdl⟩:=hl
 unfold Builtin.SmallTypes.nextOf
 refine AA (wpAny_callSpecial?_slot (name:=Str.ofString "__next__") hit.typeIs F.slot_tuple_iterator_next
  (wpAny_call_entry F.slot_tuple_iterator_next hit.typeIs F.entry_tuple_iterator_next ?_ (F.args_tuple_iterator_next_1 _)))
 show wpAny _ _ (field (.ref it) 0 >>= _) _ _ s
 refine AA (wpAny_field ho hd (x:= .ref l) rfl ?_)
 show wpAny _ _ (if(Value.ref l==Value.none)=true then _ else _) _ _ s
 rw[if_neg (show¬((Value.ref l==Value.none)=true)from AE)]
 show wpAny _ _ (field (.ref it) 1 >>= _) _ _ s
 refine AA (wpAny_field ho hd (x:= .int i 0) rfl ?_)
 show wpAny _ _ (seqItems? (.ref l) >>= _) _ _ s
 refine AA (wpAny_seqItems hol hdl ?_)
 simp only[Int.toNat_natCast,hx]
 refine AA (wpAny_rule (AA (wpAny_setField ho hd (by simp) ?_)))
 show wpAny _ _ (newExc (.type "StopIteration") [] >>= _) _ _ _
 refine AA ?_
 simp only[newExc,newTuple]
 refine AA (wpAny_newObj_type ?_ (by size_fits))
 refine AA (m:=firstArgMember _ _) (wpAny_of_eq (a:=Value.none) (by first | rfl | (simp only[firstArgMember];rfl)) ?_)
 refine wpAny_newObj_type ?_ (by size_fits)
 simp only[raiseNew]
 refine AA (wpAny_handled ?_)
 first | rw[show A.in1.handled=none from hh] | rw[hh]
 refine AA (AB (wpAny_throw ?_))
 exact hE _ _ (((Heap.SameBut.update ..).extBut.push _).push _) ⟨_,AG _ rfl,rfl⟩
end
theorem a3Y{prog:Program}{w:World}{A:Around}(hh:A.handled=none)(it l:Addr)(hne:l≠it)(items:Array Value):
  Draws prog w A it [it,l] items.size (fun i v=>items[i]?=some v) (fun i h=>h.IsTupleIter it l i/\h.IsTuple l items)where
 live:=fun _ _ st=>let⟨o,ho,_⟩:=st.1;⟨o,ho⟩
 frame:=fun _ _ _ st hk=>⟨let⟨o,ho,r⟩:=st.1;⟨o,hk it (by simp) o ho,r⟩,let⟨o,ho,r⟩:=st.2;⟨o,hk l (by simp) o ho,r⟩⟩
 item:=fun i s Q E hi st hQ=>by
  refine a3n st.1 st.2 (x:=items[i]) (by simp[hi]) fun h' hit' hs'=>?_
  exact hQ _ h' s.toks (by simp[hi]) ⟨hit',st.2.extBut hs'.extBut hne⟩ hs'
 done:=fun s Q E st hE=>a3H hh st.1 st.2 (by simp) hE
theorem a2p(l:Addr)(items:Array Value)(n:Nat)(dct:Option Addr)(sl:Array (Option Value)):
  Meets (Builtin.«enumerate.__new__» ⟨[.type "enumerate",.ref l],[]⟩) (fun _ R s=>s.heap.get? l=some {cls:= .type "tuple",dict:=dct,data:= .seq items n,slots:=sl}/\
   R (.ok (.ret (.ref (s.heap.push {cls:= .type "tuple_iterator",data:= .fields #[.ref l,.int 0 0]}).objs.size)))
    {s with heap:=(s.heap.push {cls:= .type "tuple_iterator",data:= .fields #[.ref l,.int 0 0]}).push {cls:= .type "enumerate",data:= .fields #[.none,.bool false,.ref s.heap.objs.size,rawInt 0,.none,.none]}}):=
 .of_wp fun prog w A R s h=>by
  obtain⟨hp,g,d,tk,os⟩:=s;obtain⟨hl,h⟩:=h
  have hsub:=sub_enumerate
  have hL:Heap.IsTuple (Shared.heap ⟨hp,g,d,tk,os⟩) l items:=⟨_,hl,rfl,n,rfl⟩
  wp_walk using wpAny_loadPart' hl
  refine wpAny_stack_any fun st=>AB ?_
  split
  ·rename_i c _ _ _ _ _
   cases(c==Value.type "enumerate")
   ·wp_walk using wpAny_loadPart' hl,wpAny_pyIter_tuple hL
    exact⟨_,rfl,h⟩
   ·wp_walk using wpAny_loadPart' hl,wpAny_pyIter_tuple hL
    exact⟨_,rfl,h⟩
  ·wp_walk using wpAny_loadPart' hl,wpAny_pyIter_tuple hL
   exact⟨_,rfl,h⟩
theorem a2o{prog:Program}{w:World}{A:Around}{E:Value->Shared->Prop}{s:Shared}{l:Addr}{items:Array Value}{Q:Value->Shared->Prop}(hL:s.heap.IsTuple l items)
  (h:∀h',IsEnum h' (s.heap.objs.size+1) s.heap.objs.size 0 .none->h'.IsTupleIter s.heap.objs.size l 0->h'.objs.size=s.heap.objs.size+2->
   (∀b o,s.heap.get? b=some o->h'.get? b=some o)->Q (.ref (s.heap.objs.size+1)) {s with heap:=h'}):
  wpAny (model prog w) A (call (.type "enumerate") [.ref l]) Q E s:=by
 obtain⟨⟨c,dct,dt,sl⟩,hl,hc,n,hd⟩:=hL
 replace hc:c= .type "tuple":=hc
 replace hd:dt= .seq items n:=hd
 subst hc hd
 refine callType_new F.called_enumerate (by decide) (F.typeCall_enumerate_1 _) (F.newCall_enumerate_1 _) (fun obj=>F.args_object_init_2 obj _) F.entry_enumerate_new
  (a2p l items n dct sl) ⟨hl,?_⟩
 have hz:(s.heap.push {cls:= .type "tuple_iterator",data:= .fields #[.ref l,.int 0 0]}).objs.size=s.heap.objs.size+1:=Heap.size_push ..
 show _/\_
 rw[hz]
 have he:IsEnum ((s.heap.push {cls:= .type "tuple_iterator",data:= .fields #[.ref l,.int 0 0]}).push
   {cls:= .type "enumerate",data:= .fields #[.none,.bool false,.ref s.heap.objs.size,rawInt 0,.none,.none]}) (s.heap.objs.size+1) s.heap.objs.size 0 .none:=by
  have:=AG (s.heap.push {cls:= .type "tuple_iterator",data:= .fields #[.ref l,.int 0 0]})
   (o:={cls:= .type "enumerate",data:= .fields #[.none,.bool false,.ref s.heap.objs.size,rawInt 0,.none,.none]}) rfl
  rw[hz]at this;exact this
 refine⟨⟨_,he,rfl⟩,h _ he ⟨_,AC _ (AG _ rfl),rfl,rfl⟩ (by rw[Heap.size_push,hz]) fun b o x=>AC _ (AC _ x)⟩
end ET
namespace L2
open PySem PySem.Spec PyProof.Rows
noncomputable def Ite (K:W.Frag) (a:Addr):It:=
 ⟨fun i H=>∃xs x,SqT K H a xs/\xs[i]?=some x,
   fun i H x H'=>∃p v,(∀xs,SqT K H a xs->xs[i]?=some v)/\H p=none/\x= .ref p/\H'=upd H p (.tup [.int i,v]),
   fun i H=>∃xs,SqT K H a xs/\xs.length=i⟩
theorem a8e{P:Program}{w:World}{K:W.Frag}{elts:List Expr}{k:Nat}{pos:Pos}(a e it:Addr)(hei:e≠it):
  a7X P w K (.Tuple elts k pos) (Ite K a) [e,it] e (fun i h=>(∃old,IsEnum h e it i old)/\h.IsTupleIter it a i)where
 mem:=by simp
 obj:=fun i h st b hb=>by
  obtain⟨⟨old,he⟩,o,ho,hc,hd⟩:=st
  rcases List.mem_cons.mp hb with z | hb
  ·subst z
   exact⟨_,he,fun v z=>by
    have z':Data.fields _=Data.cell v:=z
    cases z'⟩
  ·obtain z:=AH.mp hb
   subst z
   exact⟨o,ho,fun v z=>by rw[hd]at z;cases z⟩
 keep:=fun i h h' st kk=>by
  obtain⟨⟨old,he⟩,o,ho,r⟩:=st
  exact⟨⟨old,kk e (by simp) _ he⟩,o,kk it (by simp) o ho,r⟩
 item:=by
  intro X hP hw hK hc i pins s σ H E I hf st hg
  subst hP hw hK
  obtain⟨xs,x,hq,hx⟩:=hg
  obtain⟨its,rv,p,hz⟩:=I.tuple hq
  obtain⟨u,hu,ru⟩:=rv.get hx
  obtain⟨⟨old,he⟩,hit⟩:=st
  have ht:s.heap.IsTuple a its.toArray:=p
  have hai:a≠it:=by
   intro z
   obtain⟨o,ho,hc1,_⟩:=id hit
   obtain⟨o2,ho2,hc2,_⟩:=id ht
   rw[z,ho]at ho2
   cases ho2
   rw[hc1]at hc2
   exact absurd hc2 (by decide)
  have hae:a≠e:=by
   intro z
   obtain⟨o2,ho2,hc2,_⟩:=id ht
   have he':=he
   unfold IsEnum at he'
   rw[z,he']at ho2
   cases ho2
   exact absurd (show Value.type "enumerate"=Value.type "tuple" from hc2) (by decide)
  have D:=ET.a3Y (prog:=X.prog) (w:=X.w) (A:=X.A.in1) (show X.A.in1.handled=none from I.ok.hd hc) it a hai its.toArray
  have hef:e∉ [it,a]:=by
   intro z
   rcases List.mem_cons.mp z with z | z
   ·exact hei z
   ·exact hae (AH.mp z).symm
  have W:=WalksT.enumerateD D e hei hef (by simp)
  have hlt:i < its.toArray.size:=by
   have h1:=(AO.mp hu).1
   simpa using h1
  refine W.item i s _ _ hlt ⟨⟨old,he⟩,hit,ht⟩ fun T vals h' tk hP hT hTup hM hk=>?_
  obtain⟨t,y,hy,rfl⟩:=hP
  have ey:y=u:=by
   have:its[i]?=some y:=by simpa using hy
   rw[hu]at this
   exact(Option.some.inj this).symm
  subst ey
  have I1:Inv X pins σ H {s with heap:=h',toks:=tk}:=I.turnedL (ch:=[e,it]) hk hf
  have hHT:H T=none:=I.hok.fresh hT
  have fT:a4l X pins H T:=I.fpOk hT hHT
  refine⟨_,rfl,?_⟩
  refine W.go elts k pos i T {s with heap:=h',toks:=tk} _ _ hM fun h2 st2 hk2=>?_
  have I2':=I1.turnedL (h':=h2) (t':=tk) (ch:=[e,it]) hk2 hf
  have I2:Inv X pins σ H {s with heap:=h2,toks:=tk}:=I2'
  have hT2:h2.IsTuple T #[.int i t,y]:=by
   obtain⟨o,ho,r⟩:=hTup
   exact⟨o,hk2 T o (W.apart i T h' hM) ho,r⟩
  have I3:Inv X pins σ (upd H T (.tup [.int i,x])) {s with heap:=h2,toks:=tk}:=
   I2.track fT ⟨by show 2<=sizeLine;decide,[.int i t,y],.cons ⟨t,rfl⟩ (.cons ru .nil),hT2⟩
  refine⟨.ref T,_,I3,rfl,⟨T,x,fun ys hy'=>by rw[I.tuple_inj hy' hq];exact hx,hHT,rfl,rfl⟩,⟨by simpa using st2.1,st2.2.1⟩,fun b hb=>?_⟩
  rw[J0 (fun z=>W.apart i T h' hM (by rw[<-z];exact hb))]
  exact(hf b hb).1
 done:=by
  intro X hP hw hK hc i pins s σ H E I hf st hg
  subst hP hw hK
  obtain⟨xs,hq,hx⟩:=hg
  obtain⟨its,rv,p,hz⟩:=I.tuple hq
  obtain⟨⟨old,he⟩,hit⟩:=st
  have ht:s.heap.IsTuple a its.toArray:=p
  have hai:a≠it:=by
   intro z
   obtain⟨o,ho,hc1,_⟩:=id hit
   obtain⟨o2,ho2,hc2,_⟩:=id ht
   rw[z,ho]at ho2
   cases ho2
   rw[hc1]at hc2
   exact absurd hc2 (by decide)
  have hae:a≠e:=by
   intro z
   obtain⟨o2,ho2,hc2,_⟩:=id ht
   have he':=he
   unfold IsEnum at he'
   rw[z,he']at ho2
   cases ho2
   exact absurd (show Value.type "enumerate"=Value.type "tuple" from hc2) (by decide)
  have D:=ET.a3Y (prog:=X.prog) (w:=X.w) (A:=X.A.in1) (show X.A.in1.handled=none from I.ok.hd hc) it a hai its.toArray
  have hef:e∉ [it,a]:=by
   intro z
   rcases List.mem_cons.mp z with z | z
   ·exact hei z
   ·exact hae (AH.mp z).symm
  have W:=WalksT.enumerateD D e hei hef (by simp)
  have hl:=rv.length
  have hn:i=its.toArray.size:=by simp;omega
  refine W.done s _ _ ⟨⟨old,by rw[<-hn];exact he⟩,by rw[<-hn];exact hit,ht⟩ fun h' tk hk=>⟨rfl,?_⟩
  exact I.turnedL (ch:=[e,it]) hk hf
 self:=fun _ _ _ _ _ st h=>by
  obtain⟨⟨old,he⟩,_⟩:=st
  exact wpAny_pyIter_enum he h
section
variable{X:Cx}{elts:List Expr}{k:Nat}{tpos:Pos}
noncomputable def b4I (K:W.Frag) (ta:TA):TI:=fun σ H R=>ta σ H fun vs H1=>∃a,vs=[.ref a]/\(∃xs,SqT K H1 a xs)/\R (Ite K a) H1
theorem a4A{a:Expr}{ta:TA}{p pos:Pos}(hg:Gl X "enumerate")(hm:X.mg "enumerate"=none)(ha:PA X [a] ta)(hs:starEach [a] X.env=[(false,eval a X.env)]:=by rfl):
  PI X (.Tuple elts k tpos) (.Call (.Name "enumerate" p) [a] [] pos) (b4I X.K ta):=by
 intro pins s σ H R I h
 refine Call_ (a2t I hg hm boot_enumerate (PyProof.Rows.callWith_type1 (thn (ha pos pins s σ H _ I h) fun us s1⟨vs,H1,I1,r1,q1⟩=>?_) hs rfl))
 obtain⟨a,e,⟨xs,hq⟩,q⟩:=q1
 subst e
 cases r1 with
 | cons r rr=>
  cases rr
  cases r
  obtain⟨its,rv,p,hz⟩:=I1.tuple hq
  refine ET.a2o (show s1.heap.IsTuple a its.toArray from p) fun h' he hit hsz hk=>?_
  have I2:Inv X pins σ H1 {s1 with heap:=h'}:=I1.kept (t':=s1.toks) hk
  refine wpAny_pyIter_enum he ?_
  refine⟨s1.heap.objs.size+1,[s1.heap.objs.size+1,s1.heap.objs.size],_,_,H1,rfl,I2,a8e a (s1.heap.objs.size+1) s1.heap.objs.size (Nat.succ_ne_self _),⟨⟨_,he⟩,hit⟩,fun b hb=>?_,q⟩
  have hb':s1.heap.objs.size<=b:=by
   rcases List.mem_cons.mp hb with z | z
   ·rw[z];exact Nat.le_succ _
   ·rw[AH.mp z];exact AD _
  exact I1.fpOk hb' (I1.hok.fresh hb')
end
theorem a7K{K:W.Frag}{a:Addr}{xs:List V}{g:TG}{tb:TS}{D:a1T}{σ:St}{H:Hp}(Pv:Nat->St->Hp->Prop)(h0:Pv 0 σ H)(hl:∀i σ H,i<=xs.length->Pv i σ H->SqT K H a xs)
  (hs:∀i x p σ H,xs[i]?=some x->Pv i σ H->H p=none->g (.ref p) σ (upd H p (.tup [.int i,x])) fun σ2 H2=>tb {D with nx:=Pv (i+1),ct:=Pv (i+1),bk:=D.nx} σ2 H2)(hd:∀σ H,Pv xs.length σ H->D.nx σ H):
  ∃W:Nat->Nat->St->Hp->Prop,(∃m,W 0 m σ H)/\∀i m σ H,W i m σ H->
   ((Ite K a).stop i H/\D.nx σ H)\/((Ite K a).go i H/\∃N:St->Hp->Prop,(∀σ' H',N σ' H'->∃m',m' < m/\W (i+1) m' σ' H')/\∀x H',(Ite K a).yld i H x H'->g x σ H' fun σ2 H2=>tb {D with nx:=N,ct:=N,bk:=D.nx} σ2 H2):=by
 refine⟨fun i m σ H=>m=xs.length - i/\i<=xs.length/\Pv i σ H,⟨xs.length,by simp,Nat.zero_le _,h0⟩,?_⟩
 rintro i m σ H ⟨rfl,hi,p⟩
 have q:=hl i σ H hi p
 by_cases hlt:i < xs.length
 ·refine .inr ⟨⟨xs,xs[i],q,by simp[hlt]⟩,Pv (i+1),fun σ' H' p'=>⟨xs.length - (i+1),by omega,rfl,hlt,p'⟩,fun x H' y=>?_⟩
  obtain⟨pp,v,y,hn,e1,e2⟩:=y
  subst e1 e2
  exact hs i v pp σ _ (y xs q) p hn
 ·have e:i=xs.length:=by omega
  subst e
  exact .inl ⟨⟨xs,q,rfl⟩,hd σ H p⟩
end L2
namespace L2
open PySem PySem.Spec PyProof.Rows
structure Cl(P:Program)(w:World)(K:W.Frag)(mg:Str->Option Value)(base:Heap)(k:Nat)(x:Str)(ps:List Str)(sp:Sp):Prop where
 ex:∃f fd,a2B P w K mg base CX0 k f fd ps sp/\mg x=some (.ref f)/\W.keepIn K (.ref f)=true/\a1Y K fd ps []
theorem W2{X:Cx}{j k:Nat}{x:Str}{ps:List Str}{sp:Sp}{e:Expr}{es:List Expr}{t:TA}{p pos:Pos}(C:Cl X.prog X.w X.K X.mg X.base j x ps sp)(hr:M6 k X.A)(hg:Gl X x)(ha:PA X (e::es) t)(hjk:j<=k:=by decide)
  (hdb:(x==("__debug__":Str))=false:=by decide)(he:starEach (e::es) X.env=(false,eval e X.env)::starEach es X.env:=by rfl)(hpl:(backTo pos (starEach es X.env)).any (·.1)=false:=by rfl):
  PE X (.Call (.Name x p) (e::es) [] pos) (b3m sp [] E0 t):=by
 obtain⟨f,fd,F,hm,hk,hb⟩:=C.ex
 exact b2V F (hr.mono hjk) hg hm hk hb .nil a9i ha hdb he hpl
noncomputable def E6 (K:W.Frag) (mg:Str->Option Value) (x:Str) (st:Stmt):Prop:=∃f fd,Fun K x x st f fd/\mg x=some (.ref f)
theorem W4{K:W.Frag}{mg:Str->Option Value}{h:Heap}{x:Str}{st:Stmt}{f:Addr}{oc:Value}{od an:Option Addr}{osl:Array (Option Value)}{kV doc pm cdv ct:Value}(X:K.In h)(G:h.Ns mainGlobals mg)
  (a:W.nsIn K mainGlobals x=some (some (.ref f)))(l:K.lookup f=some ⟨oc,od,.func (W.fnOf x x (R1 st) (R0 st) (I9 st) .none kV doc pm an cdv ct),osl⟩)
  (c:W.codeIn K cdv x=true)(k:W.keepIn K (.ref f)=true):E6 K mg x st:=
 ⟨f,_,a6A l c k,W.mg_of X G a⟩
theorem Cl.of{P:Program}{w:World}{K:W.Frag}{mg:Str->Option Value}{base:Heap}{x:Str}{st:Stmt}{N ps:List Str}{k:Nat}{sp:Sp}(T:E6 K mg x st)(S:R6 N ps (I9 st))(len:∀vs H Q E,sp vs H Q E->vs.length=ps.length)
  (hb:∀(kV doc pm:Value)(an:Option Addr)(cdv ct:Value)(us:List Value),us.length=ps.length->bindArgs (W.fnOf x x (R1 st) (R0 st) (I9 st) .none kV doc pm an cdv ct) ⟨us,[]⟩=pure (ps.zip us))
  (hbody:∀(f:Addr)(cdv:Value)(A:Around)(outer:List Env)(s:Shared)(H:Hp)(vs:List V)(Q:VK)(E:XK),M6 k (A.deeper (envOfC x (I9 st) s.heap.objs.size f cdv))->sp vs H Q E->
   ∃t,PSs (a6z CX0 P w K mg base N x (I9 st) f cdv A outer s H E).nox (R0 st) t/\t {nx:=fun _ H'=>Q .non H',rt:=Q} (a2n N vs) H):Cl P w K mg base (k+1) x ps sp:=by
 obtain⟨f,fd,F,m⟩:=T
 exact⟨f,fd,F.ok S len (fun cdv A outer s H vs Q E=>hbody f cdv A outer s H vs Q E),m,F.kp,F.binds hb⟩
noncomputable def U9 (H H':Hp):Prop:=∀b xs,H b=some (.tup xs)->H' b=some (.tup xs)
section
variable{H H1 H2:Hp}{l p:Addr}{o:HO}{xs ys:List V}
theorem J4.tups(e:J4 H H1):U9 H H1:=fun b xs q=>e b _ q
theorem U9.refl(H:Hp):U9 H H:=fun _ _ q=>q
theorem U9.trans(a:U9 H H1)(b:U9 H1 H2):U9 H H2:=fun c xs q=>b c xs (a c xs q)
theorem U9.lst(h:H l=some (.lst xs)):U9 H (upd H l (.lst ys)):=fun b zs q=>by
 rw[J0 (E9 q h (by intro z;cases z))];exact q
theorem U9.new(h:H p=none):U9 H (upd H p o):=fun b zs q=>by
 rw[J0 (J3 q h)];exact q
theorem J4.put(s:J4 H H1)(h:H l=none):J4 H (upd H1 l o):=fun b u q=>by
 rw[J0 (J3 q h)];exact s b u q
theorem J4.new(s:J4 H H1)(h:H1 p=none):J4 H (upd H1 p o):=s.put (s.free h)
theorem J2{u:HO}(h:H l=some u)(hp:H p=none):upd H p o l=some u:=by
 rw[J0 (J3 h hp)];exact h
end
theorem b1V{α:Type}(xs:List α)(d:α){i:Int}(h0:0<=i)(h1:i < (xs.length:Int)):atI xs i=some (xs.getD i.toNat d):=by
 have e:i=((i.toNat:Nat):Int):=by omega
 have hl:i.toNat < xs.length:=by omega
 have hx:xs[i.toNat]?=some (xs.getD i.toNat d):=by
  rw[List.getD_eq_getElem?_getD]
  simp[hl]
 have:=J6 hx
 rw[<-e]at this
 exact this
theorem a6G{α:Type}(f:α->V)(xs:List α)(d:α){i:Int}(h0:0<=i)(h1:i < (xs.length:Int)):atI (xs.map f) i=some (f (xs.getD i.toNat d)):=by
 have:=b1V (xs.map f) (f d) h0 (by simpa using h1)
 rw[this,List.getD_eq_getElem?_getD,List.getElem?_map,List.getD_eq_getElem?_getD]
 have hl:i.toNat < xs.length:=by omega
 simp[hl]
theorem a1a{x:Str}{A B:Prop}(h:A):if decide (V.str x=V.str x)=true then A else B:=by
 rw[if_pos (decide_eq_true rfl)];exact h
theorem Z6{x y:Str}{A B:Prop}(e:¬x=y)(h:B):if decide (V.str x=V.str y)=true then A else B:=by
 rw[if_neg (by rw[AT (fun q=>e (V.str.inj q))];exact AE)];exact h
theorem b4z{i j:Int}{A B:Prop}(h1:i=j->A)(h2:¬i=j->B):if decide (V.int i=V.int j)=true then A else B:=
 b0d (fun h=>h1 (V.int.inj (of_decide_eq_true h))) fun h=>h2 fun e=>h (decide_eq_true (congrArg V.int e))
theorem b0F{p:Prop}[Decidable p]{A B:Prop}(hp:p)(h:A):if decide p=true then A else B:=by
 rw[if_pos (decide_eq_true hp)];exact h
theorem b1d{p:Prop}[Decidable p]{A B:Prop}(hp:¬p)(h:B):if decide p=true then A else B:=by
 rw[if_neg (by rw[AT hp];exact AE)];exact h
theorem a0q(K:W.Frag)(T:String):W.kitOne K (.type T) (.type T)=some true:=by
 unfold W.kitOne
 rw[if_pos (by simp)]
theorem a4a(K:W.Frag):W.kitOne K (.type "int") (.type "str")=some false:=by kernel_rfl
theorem a6E(K:W.Frag):W.kitOne K (.type "int") (.type "bool")=some false:=by kernel_rfl
noncomputable def b3q (c:Nat):Bool:=decide (97<=c) && decide (c<=122)
noncomputable def b5i (c:Nat):Bool:=decide (48<=c) && decide (c<=57)
noncomputable def b5C (c:Nat):Bool:=b3q c || b5i c
noncomputable def b5Z:List Nat->Bool
 | []=>false
 | c::r=>b3q c && r.all b5C && decide (r.length<=7)
noncomputable def a1C (x:Str):Prop:=b5Z x.cps.toList=true
noncomputable instance (x:Str):Decidable (a1C x):=inferInstanceAs (Decidable (_=true))
inductive Th where
 | num (n:Int)
 | nam (x:Str)
noncomputable def thV:Th->V
 | .num n=> .int n
 | .nam x=> .str x
noncomputable def b5R:Th->Prop
 | .num n=>0<=n/\n < 10 ^ 60
 | .nam x=>a1C x
noncomputable def a6P (H:Hp) (v:V) (t:Int×Th):Prop:=∃p,v= .ref p/\H p=some (.tup [.int t.1,thV t.2])/\b5R t.2
noncomputable abbrev a9k (H:Hp):List V->List (Int×Th)->Prop:=Paired (a6P H)
theorem Paired.get?{α β:Type}{F:α->β->Prop}:∀{xs:List α}{ys:List β}{i:Nat}{x:α},Paired F xs ys->xs[i]?=some x->∃y,ys[i]?=some y/\F x y
 | _,_,_,_,.nil,e=>by simp at e
 | _,_,0,_,.cons r _,e=>by simp at e;subst e;exact⟨_,rfl,r⟩
 | _,_,i+1,x,.cons _ t,e=>by
  obtain⟨u,h1,h2⟩:=Paired.get? (i:=i) (x:=x) t (by simpa using e)
  exact⟨u,by simpa using h1,h2⟩
theorem a6P.mono{H H':Hp}(s:U9 H H'){v:V}{t:Int×Th}(h:a6P H v t):a6P H' v t:=by
 obtain⟨p,e,h,o⟩:=h
 exact⟨p,e,s p _ h,o⟩
theorem a9k.mono{H H':Hp}(s:U9 H H'){vs:List V}{ts:List (Int×Th)}(h:a9k H vs ts):a9k H' vs ts:=Paired.mapP h fun _ _ q=>q.mono s
structure E7(H:Hp)(t:Addr)(ts:List (Int×Th)):Prop where
 ex:∃vs,H t=some (.tup vs)/\a9k H vs ts
 lo:1<=ts.length
 hi:ts.length<=6
theorem E7.mono{H H':Hp}(s:U9 H H'){t:Addr}{ts:List (Int×Th)}(h:E7 H t ts):E7 H' t ts:=by
 obtain⟨⟨vs,h1,h2⟩,lo,hi⟩:=h
 exact⟨⟨vs,s t _ h1,h2.mono s⟩,lo,hi⟩
noncomputable def a6N (H:Hp) (v:V) (d:Int×Str):Prop:=∃p,v= .ref p/\H p=some (.tup [.int d.1,.str d.2])
noncomputable abbrev a1L (H:Hp):List V->List (Int×Str)->Prop:=Paired (a6N H)
theorem a6N.mono{H H':Hp}(s:U9 H H'){v:V}{t:Int×Str}(h:a6N H v t):a6N H' v t:=by
 obtain⟨p,e,h⟩:=h
 exact⟨p,e,s p _ h⟩
theorem a1L.mono{H H':Hp}(s:U9 H H'){vs:List V}{ts:List (Int×Str)}(h:a1L H vs ts):a1L H' vs ts:=Paired.mapP h fun _ _ q=>q.mono s
noncomputable def U2:Int->List (Int×Th)->List (Int×Str)
 | _,[]=> []
 | k,(_,.num _)::r=>U2 (k+2) r
 | k,(_,.nam x)::r=>(k,x)::U2 (k+2) r
theorem a0u:∀(ts us:List (Int×Th))(k:Int),U2 k (ts++us)=U2 k ts++U2 (k+2*ts.length) us
 | [],us,k=>by simp[U2]
 | (s,.num n)::r,us,k=>by
  have e:k+2+2*(r.length:Int)=k+2*(((s,Th.num n)::r).length:Int):=by simp;omega
  show U2 (k+2) (r++us)=U2 (k+2) r++U2 (k+2*(((s,Th.num n)::r).length:Int)) us
  rw[a0u r us (k+2),e]
 | (s,.nam x)::r,us,k=>by
  have e:k+2+2*(r.length:Int)=k+2*(((s,Th.nam x)::r).length:Int):=by simp;omega
  show(k,x)::U2 (k+2) (r++us)=(k,x)::U2 (k+2) r++U2 (k+2*(((s,Th.nam x)::r).length:Int)) us
  rw[a0u r us (k+2),e]
  rfl
theorem a0j:∀(ts:List (Int×Th))(k:Int),(U2 k ts).length<=ts.length
 | [],k=>by simp[U2]
 | (s,.num n)::r,k=>by
  have:=a0j r (k+2)
  show(U2 (k+2) r).length<=_
  simp only[List.length_cons];omega
 | (s,.nam x)::r,k=>by
  have:=a0j r (k+2)
  show((k,x)::U2 (k+2) r).length<=_
  simp only[List.length_cons];omega
theorem U3{α:Type}{l:List α}{i:Nat}{x:α}(h:l[i]?=some x):l.take (i+1)=l.take i++[x]:=by
 rw[List.take_succ,h];rfl
end L2
namespace L2
open PySem PySem.Spec PyProof.Rows
section
variable{X:Cx}
end
inductive a9c:List Expr->List Str->Prop
 | nil:a9c [] []
 | cons {x:Str} {j pos} {es:List Expr} {ys:List Str} (h:a9c es ys):a9c (.Constant (.str x) j pos::es) (x::ys)
section
variable{X:Cx}
theorem b2g{es:List Expr}{ys:List Str}(h:a9c es ys):PA X es (fun _ H Q=>Q (ys.map V.str) H):=by
 induction h with
 | nil=>exact G8
 | @cons x j pos es ys h ih=>
  exact G0 (es:=es) (R4 (x:=x) (j:=j) (pos:=pos)) ih rfl
end
end L2
namespace L2
open PySem PySem.Spec PyProof.Rows
noncomputable def a1e (cells:List (Str×Addr)):List (Str×NameKind)->List (Str×Addr)->List (Str×Addr)
 | [],cs=>cs
 | (n,k)::r,cs=>a1e cells r (if k== .free then(n,(cells.lookup n).getD 0)::cs else cs)
theorem a8o{cells:List (Str×Addr)}{env:Env}(he:env.cells=cells):∀(l:List (Str×NameKind))(cs:List (Str×Addr)),(∀y∈l,y.2= .free->∃c,cells.lookup y.1=some c)->
  (forIn l cs fun p cs=>(do if p.2== .free then(do let a<-cellOf env p.1;pure (ForInStep.yield ((p.1,a)::cs)))else pure (ForInStep.yield cs):Sem (ForInStep (List (Str×Addr)))))=pure (a1e cells l cs):=by
 intro l
 induction l with
 | nil=>intro cs _;rfl
 | cons p r ih=>
  intro cs h
  obtain⟨n,k⟩:=p
  rw[List.forIn_cons]
  have hr:∀y∈r,y.2= .free->∃c,cells.lookup y.1=some c:=fun y hy=>h y (AN _ hy)
  by_cases hk:k= .free
  ·subst hk
   obtain⟨c,hc⟩:=h (n,.free) AL rfl
   have hc':env.cells.lookup n=some c:=by rw[he];exact hc
   have e:cellOf env n=pure c:=by unfold cellOf;rw[hc']
   simp only[beq_self_eq_true,if_true,e,pure_bind]
   rw[ih _ hr]
   unfold a1e
   rw[if_pos (by simp),show(cells.lookup n).getD 0=c by rw[show cells.lookup n=some c from hc];rfl]
   conv=>rhs;unfold a1e
  ·have hb:(k==NameKind.free)=false:=by simpa using hk
   simp only[hb,Bool.false_eq_true,if_false,pure_bind]
   rw[ih _ hr]
   conv=>rhs;unfold a1e
   rw[if_neg (by rw[hb];exact AE)]
theorem a3i{cells:List (Str×Addr)}{x:Str}{c:Addr}:∀(l:List (Str×NameKind))(cs:List (Str×Addr)),(∀y∈l,y.2= .free->∃c,cells.lookup y.1=some c)->(a1e cells l cs).lookup x=some c->cells.lookup x=some c\/cs.lookup x=some c
 | [],cs,_,h=> .inr h
 | (n,k)::r,cs,hy,h=>by
  unfold a1e at h
  rcases a3i r _ (fun y q=>hy y (AN _ q)) h with h | h
  ·exact .inl h
  ·by_cases hk:k= .free
   ·subst hk
    obtain⟨c',hc⟩:=hy (n,.free) AL rfl
    have hc:cells.lookup n=some c':=hc
    rw[if_pos (by simp),List.lookup_cons]at h
    split at h
    ·rename_i e
     have e':x=n:=by simpa using e
     subst e'
     rw[hc]at h
     cases h
     exact .inl hc
    ·exact .inr h
   ·rw[if_neg (by simpa using hk)]at h
    exact .inr h
theorem a5b{cells:List (Str×Addr)}{x:Str}:∀(l:List (Str×NameKind))(cs:List (Str×Addr)),(∃c,cs.lookup x=some c)->∃c,(a1e cells l cs).lookup x=some c
 | [],_,h=>h
 | (n,k)::r,cs,h=>by
  unfold a1e
  refine a5b r _ ?_
  split
  ·rw[List.lookup_cons]
   split
   ·exact⟨_,rfl⟩
   ·exact h
  ·exact h
theorem a3P{cells:List (Str×Addr)}{x:Str}:∀(l:List (Str×NameKind))(cs:List (Str×Addr)),(x,NameKind.free)∈l->∃c,(a1e cells l cs).lookup x=some c
 | (n,k)::r,cs,h=>by
  unfold a1e
  rcases List.mem_cons.mp h with e | h
  ·cases e
   refine a5b r _ ?_
   rw[if_pos (by simp),List.lookup_cons]
   simp
  ·exact a3P r _ h
theorem a3g{sc:Scope}{env:Env}(h:∀y∈sc.names,y.2= .free->∃c,env.cells.lookup y.1=some c):closureFor sc env=pure (a1e env.cells sc.names []):=by
 have:=a8o (env:=env) rfl sc.names [] h
 unfold closureFor
 simp only[bind_pure]
 exact this
theorem a3a{env:Env}{x:Str}:∀{names:List (Str×NameKind)},names.lookup x=some .free->
  (names.map fun(n,k)=>if(k==NameKind.free && env.scope.kind== .function && env.kindOf n==some .cell)then(n,NameKind.cell)else(n,k)).lookup x=some .cell\/
  (names.map fun(n,k)=>if(k==NameKind.free && env.scope.kind== .function && env.kindOf n==some .cell)then(n,NameKind.cell)else(n,k)).lookup x=some .free
 | [],h=>by simp at h
 | (n,k)::r,h=>by
  have ih:=@a3a env x r
  simp only[List.map_cons]
  by_cases hc:(k==NameKind.free && env.scope.kind== .function && env.kindOf n==some .cell)=true
  ·rw[if_pos hc]
   simp only[List.lookup_cons]at h⊢
   cases hx:x==n with
   | true=>exact .inl rfl
   | false=>simp only[hx]at h⊢;exact ih h
  ·rw[if_neg hc]
   simp only[List.lookup_cons]at h⊢
   cases hx:x==n with
   | true=>simp only[hx]at h⊢;exact .inr h
   | false=>simp only[hx]at h⊢;exact ih h
theorem a3q{env:Env}{x:Str}:∀{names:List (Str×NameKind)},
  (names.map fun(n,k)=>if(k==NameKind.free && env.scope.kind== .function && env.kindOf n==some .cell)then(n,NameKind.cell)else(n,k)).lookup x=some .cell\/
  (names.map fun(n,k)=>if(k==NameKind.free && env.scope.kind== .function && env.kindOf n==some .cell)then(n,NameKind.cell)else(n,k)).lookup x=some .free->
  (x,NameKind.free)∈names\/(x,NameKind.cell)∈names
 | [],h=>by simp at h
 | (n,k)::r,h=>by
  have ih:=@a3q env x r
  simp only[List.map_cons]at h
  have tl:(x,NameKind.free)∈r\/(x,NameKind.cell)∈r->(x,NameKind.free)∈(n,k)::r\/(x,NameKind.cell)∈(n,k)::r:=fun q=>q.imp (AN _) (AN _)
  by_cases hc:(k==NameKind.free && env.scope.kind== .function && env.kindOf n==some .cell)=true
  ·rw[if_pos hc]at h
   have hk:k= .free:=by
    simp only[Bool.and_eq_true]at hc
    simpa using hc.1.1
   simp only[List.lookup_cons]at h
   cases hx:x==n with
   | true=>
    have e:x=n:=by simpa using hx
    subst e hk
    exact .inl AL
   | false=>simp only[hx]at h;exact tl (ih h)
  ·rw[if_neg hc]at h
   simp only[List.lookup_cons]at h
   cases hx:x==n with
   | true=>
    have e:x=n:=by simpa using hx
    subst e
    simp only[hx]at h
    rcases h with h | h
    ·cases h;exact .inr AL
    ·cases h;exact .inl AL
   | false=>simp only[hx]at h;exact tl (ih h)
structure a3I(osc:Scope)(N:List Str)(sc:Scope)(M:List Str)(ρ:List (Option Nat)):Prop where
 kind:sc.kind= .function
 nocell:∀y∈sc.names,y.2≠ .cell
 own:∀y∈sc.names,y.2= .local->sc.names.lookup y.1=some .local
 fre:∀y∈sc.names,y.2= .free->osc.names.lookup y.1=some .cell\/osc.names.lookup y.1=some .free
 len:ρ.length=M.length
 ren:∀p∈ρ.zip M,(match p.1 with | none=>true | some i=>decide (N[i]?=some p.2/\sc.names.lookup p.2=some .free))=true
 nd:M.Nodup
noncomputable def a9U (ρ:List (Option Nat)) (σ:St):St:=ρ.map fun o=>match o with | none=>none | some i=>(σ[i]?).join
noncomputable def B4 (X:Cx) (sc:Scope) (cl:List (Str×Addr)) (C:Addr) (M:List Str) (s:Shared) (H:Hp) (fp:List Addr) (xe:Value->Shared->Prop):Cx where
 prog:=X.prog
 w:=X.w
 K:=X.K
 mg:=X.mg
 base:=X.base
 A:=X.A
 N:=M
 s₀:=s
 H₀:=H
 env:=compEnvC sc cl C X.env
 outer:=X.stack
 stack:=X.stack
 ex:=fp
 fn:=fun _=>false
 calm:=X.calm
 pn:=[]
 xe:=xe
theorem a9L{P:Program}{w:World}{A:Around}{R:Result->Shared->Prop}{s:Shared}{elt tg iter:Expr}{ifs:List Expr}{sc:Scope}{pos:Pos}{it acc:Value}{env:Env}(J:Nat->Shared->Prop)
  (turn:∀n s,J n s->wpAny (model P w) A (pyNext it) (fun r s1=>match r with
   | none=>R (.ok .next) s1
   | some v=>wpAny (model P w) A (letOwnedTupleGo tg it v) (fun _ s2=>wpAny (model P w) A (assign tg env v) (fun _ s3=>
     wpAny (model P w) A (forIn ifs true fun c r=>if r=true then do let ok<-isTrue c env (eval c env);pure (ForInStep.yield ok)else pure (ForInStep.yield r)) (fun ok s4=>
      if ok=true then wpAny (model P w) A (eval elt env) (fun x s5=>wpAny (model P w) A (call (.builtin "list.append") [acc,x]) (fun _ s6=>∃m,m < n/\J m s6) (notedBy (model P w) A env fun e s'=>R (.error e) s') s5)
       (notedBy (model P w) A env fun e s'=>R (.error e) s') s4
      else∃m,m < n/\J m s4) (notedBy (model P w) A env fun e s'=>R (.error e) s') s3) (notedBy (model P w) A env fun e s'=>R (.error e) s') s2) (notedBy (model P w) A env fun e s'=>R (.error e) s') s1)
   (notedBy (model P w) A env fun e s'=>R (.error e) s') s)
  (n:Nat)(h:J n s):codeAny (model P w) A (.compLoop (.ListComp elt [⟨tg,iter,ifs,0⟩] sc pos) 0 it acc env) R s:=by
 refine codeAny_loop rfl J (fun n s hJ=>?_) n h
 show wpAny (model P w) A ((compTurn (.ListComp elt [⟨tg,iter,ifs,0⟩] sc pos) 0 it acc env).onRaise fun x=>do noteFrame x env;theTreesLotGoes x) _ _ s
 refine wpAny_noted ?_
 rw[compTurn_list]
 refine AA (wpAny_standAt (AA (thn (turn n s hJ) fun r s1 h1=>?_)))
 cases r with
 | none=>exact AB h1
 | some v=>
  refine AA (thn h1 fun _ s2 h2=>AA (thn h2 fun _ s3 h3=>AA (thn h3 fun ok s4 h4=>?_)))
  cases ok with
  | false=>exact AB ⟨rfl,h4⟩
  | true=>exact AA (AA (thn h4 fun x s5 h5=>AA (thn h5 fun _ s6 h6=>AB (AB ⟨rfl,h6⟩))))
noncomputable def PTs (X:Cx) (ifs:List Expr) (t:TT):Prop:=
 ∀(pins:List (Addr×Obj))(s:Shared)(σ:St)(H:Hp)(Q:Bool->Hp->Prop),Inv X pins σ H s->t σ H Q->
  wpAny (model X.prog X.w) X.A (forIn ifs true fun c r=>if r=true then do let ok<-isTrue c X.env (eval c X.env);pure (ForInStep.yield ok)else pure (ForInStep.yield r)) (TP X pins σ Q) X.xe s
noncomputable def a6w:TT:=fun _ H Q=>Q true H
theorem ntG{i:Nat}{v:V}{σ:St}{H:Hp}{A B:St->Hp->Prop}(h:A (σ.set i (some v)) H):a3T i v σ H (fun σ4 H4=>a6w σ4 H4 fun b H5=>if b=true then A σ4 H5 else B σ4 H5):=by
 show if true=true then A (σ.set i (some v)) H else B (σ.set i (some v)) H
 exact a0I h
theorem a3t{X:Cx}:PTs X [] a6w:=fun _ _ _ H _ I h=>wpAny_tests_nil ⟨H,I,h⟩
theorem b3k{X:Cx}{c:Expr}{t:TT}(h:PT X c t):PTs X [c] t:=fun pins s σ H Q I q=>wpAny_tests_one (h pins s σ H Q I q)
noncomputable def b3p (wi:TI) (ρ:List (Option Nat)) (g:TG) (tt:TT) (te:TE):TE:=fun σ H Q=>wi σ H fun J H1=>∀D,H1 D=none->∃W:Nat->Nat->St->Hp->Prop,(∃m,W 0 m (a9U ρ σ) (upd H1 D (.lst [])))/\∀i m σ2 H2,W i m σ2 H2->
 (J.stop i H2/\Q (.ref D) H2)\/(J.go i H2/\∃N:St->Hp->Prop,(∀σ' H',N σ' H'->∃m',m' < m/\W (i+1) m' σ' H')/\∀x H3,J.yld i H2 x H3->g x σ2 H3 fun σ4 H4=>tt σ4 H4 fun b H5=>
  if b=true then te σ4 H5 fun y H6=>∃ys,H6 D=some (.lst ys)/\ys.length < sizeLine/\N σ4 (upd H6 D (.lst (ys++[y])))
  else N σ4 H5)
theorem a2V{J:It}{g:TG}{tt:TT}{te:TE}{Q:Hp->Prop}{σ:St}{H:Hp}{D:Addr}(n:Nat)(Pv:Nat->St->Hp->Prop)(h0:Pv 0 σ (upd H D (.lst [])))
  (hs:∀i σ2 H2,i < n->Pv i σ2 H2->J.go i H2/\∀x H3,J.yld i H2 x H3->g x σ2 H3 fun σ4 H4=>tt σ4 H4 fun b H5=>
   if b=true then te σ4 H5 fun y H6=>∃ys,H6 D=some (.lst ys)/\ys.length < sizeLine/\Pv (i+1) σ4 (upd H6 D (.lst (ys++[y])))else Pv (i+1) σ4 H5)
  (hd:∀σ2 H2,Pv n σ2 H2->J.stop n H2/\Q H2):
  ∃W:Nat->Nat->St->Hp->Prop,(∃m,W 0 m σ (upd H D (.lst [])))/\∀i m σ2 H2,W i m σ2 H2->
   (J.stop i H2/\Q H2)\/(J.go i H2/\∃N:St->Hp->Prop,(∀σ' H',N σ' H'->∃m',m' < m/\W (i+1) m' σ' H')/\∀x H3,J.yld i H2 x H3->g x σ2 H3 fun σ4 H4=>tt σ4 H4 fun b H5=>
    if b=true then te σ4 H5 fun y H6=>∃ys,H6 D=some (.lst ys)/\ys.length < sizeLine/\N σ4 (upd H6 D (.lst (ys++[y])))else N σ4 H5):=by
 refine⟨fun i m σ H=>m=n - i/\i<=n/\Pv i σ H,⟨n,by simp,Nat.zero_le _,h0⟩,?_⟩
 rintro i m σ2 H2 ⟨rfl,hi,p⟩
 by_cases hlt:i < n
 ·obtain⟨h1,h2⟩:=hs i σ2 H2 hlt p
  exact .inr ⟨h1,Pv (i+1),fun σ' H' p'=>⟨n - (i+1),by omega,rfl,hlt,p'⟩,h2⟩
 ·have e:i=n:=by omega
  subst e
  exact .inl (hd σ2 H2 p)
section
variable{X:Cx}{tg elt iter:Expr}{ifs:List Expr}{sc:Scope}{pos:Pos}{M:List Str}{ρ:List (Option Nat)}{wi:TI}{g:TG}{tt:TT}{te:TE}
theorem a5d(osc:Scope)(hosc:X.env.scope=osc)(N:List Str)(hN:X.N=N)(S:a3I osc N sc M ρ)(hc:X.calm=true)
  (hg:∀cl C s H fp xe,PG (B4 X sc cl C M s H fp xe) tg g)(ht:∀cl C s H fp xe,PTs (B4 X sc cl C M s H fp xe) ifs tt)(he:∀cl C s H fp xe,PE (B4 X sc cl C M s H fp xe) elt te)
  {pins:List (Addr×Obj)}{σ:St}{H:Hp}{s:Shared}{itv:Value}{Q:VK}{RR:Value->Addr->Result->Shared->Prop}(I:Inv X pins σ H s)
  (h2:PIE X pins σ tg (fun J H1=>∀D,H1 D=none->∃W:Nat->Nat->St->Hp->Prop,(∃m,W 0 m (a9U ρ σ) (upd H1 D (.lst [])))/\∀i m σ2 H2,W i m σ2 H2->
   (J.stop i H2/\Q (.ref D) H2)\/(J.go i H2/\∃N:St->Hp->Prop,(∀σ' H',N σ' H'->∃m',m' < m/\W (i+1) m' σ' H')/\∀x H3,J.yld i H2 x H3->g x σ2 H3 fun σ4 H4=>tt σ4 H4 fun b H5=>
    if b=true then te σ4 H5 fun y H6=>∃ys,H6 D=some (.lst ys)/\ys.length < sizeLine/\N σ4 (upd H6 D (.lst (ys++[y])))
    else N σ4 H5)) itv s)
  (hR:∀(D C:Addr)(H':Hp)(s':Shared)(mC:Str->Option Value),Inv X pins σ H' s'->s'.heap.Ns C mC->a4l X pins H' C->Q (.ref D) H'->RR (.ref D) C (.ok .next) s'):
  wpAny (model X.prog X.w) X.A (newList []) (fun acc s3=>wpAny (model X.prog X.w) X.A (newFunctionEnv sc X.env.globals (a1e X.env.cells sc.names []) [] X.env.qual none .none (some X.env)) (fun cenv s4=>
   codeAny (model X.prog X.w) X.A (.compStart (.ListComp elt [⟨tg,iter,ifs,0⟩] sc pos) 0 itv acc {cenv with scope:=relabel sc X.env}) (RR acc cenv.locals) s4) X.xe s3) X.xe s:=by
 subst hosc hN
 obtain⟨it,fp,tn,J,H2,rfl,I2,T,st2,f2,q2⟩:=h2
 have hcells:∀y∈sc.names,y.2= .free->∃c,X.env.cells.lookup y.1=some c:=fun y hy hf=>I2.ok.has y.1 (S.fre y hy hf)
 have hclx:∀{x c},(a1e X.env.cells sc.names []).lookup x=some c->X.env.cells.lookup x=some c:=fun{x c}e=>(a3i _ _ hcells e).elim id fun z=>by simp at z
 generalize hcl:a1e X.env.cells sc.names []=cl at hclx⊢
 refine wpAny_newObj_type (wpAny_newFunctionEnv S.nocell (by intro y hy;simp at hy) (fun h1 hns hsb=>?_) S.kind)
 dsimp only at hns hsb⊢
 generalize hG:s.heap.push {cls:= .type "list",dict:=none,data:= .seq ([]:List Value).toArray}=G at hns hsb⊢
 have hC:G.objs.size=s.heap.objs.size+1:=by rw[<-hG,Heap.size_push]
 have old:∀b o,s.heap.get? b=some o->h1.get? b=some o:=fun b o e=>
  hsb.extBut b o (AS (by rw[hC];exact Nat.lt_succ_of_lt (AJ e))) (AC _ (hG▸AC _ e))
 have hD1:h1.get? s.heap.objs.size=some {cls:= .type "list",dict:=none,data:= .seq ([]:List Value).toArray}:=
  hsb.extBut _ _ (by rw[hC];exact AS (Nat.lt_succ_self _)) (AC _ (hG▸AG _ rfl))
 have hDn:H2 s.heap.objs.size=none:=I2.hok.fresh (AD _)
 obtain⟨W,⟨m0,w0⟩,turn⟩:=q2 s.heap.objs.size hDn
 have hCle:s.heap.objs.size<=G.objs.size:=by rw[hC];exact Nat.le_succ _
 have hCD:G.objs.size≠s.heap.objs.size:=by rw[hC];exact Nat.succ_ne_self _
 generalize hxe:notedBy (model X.prog X.w) X.A (compEnvC sc cl G.objs.size X.env) (fun e s'=>RR (.ref s.heap.objs.size) G.objs.size (.error e) s')=xe
 have fpC:∀b∈fp,b≠G.objs.size:=fun b hb=>by
  obtain⟨o,e,_⟩:=T.obj 0 _ st2 b hb
  have:=AJ e
  exact AS (AQ this hCle)
 have fpS:∀b∈fp,b∉frs X.stack:=fun b hb z=>by
  obtain⟨f0,f1,f3,_⟩:=f2 b hb
  rcases List.mem_cons.mp (I2.stkSub b z)with e | e
  ·exact f1 e
  ·exact f3 e
 have hok:(B4 X sc cl G.objs.size M s H2 fp xe).Ok:=by
  refine⟨I2.ok.mod,S.kind,I2.ok.glob,I2.ok.blt,hCle,fun x y c e1 e2=>I2.ok.inj x y c (hclx e1) (hclx e2),fun x hx=>?_,(fun x c e _=>absurd (show false=true from e) AE),I2.ok.hd,I2.ok.frames,.inl rfl,fun b hb=>⟨fpC b hb,fun x c e=>(f2 b hb).2.2.2.2.1 x c (hclx e)⟩,
   I2.bs,Nat.le_trans I2.ok.bsz I2.sz,fun b o e hb=>?_,fpS,I2.stack,I2.stkFree⟩
  ·rcases a3q (names:=sc.names) (env:=X.env) hx with q | q
   ·rw[<-hcl];exact a3P _ _ q
   ·exact absurd rfl (S.nocell _ q)
  ·rcases(f2 b hb).2.2.2.1 with z | z
   ·exact I2.ok.noex b o e z
   ·exact absurd (AQ (AJ e) (Nat.le_trans I2.ok.bsz z)) (Nat.lt_irrefl _)
 have I4:Inv (B4 X sc cl G.objs.size M s H2 fp xe) [] (a9U ρ σ) (upd H2 s.heap.objs.size (.lst [])) {s with heap:=h1,toks:=s.toks+([]:List (Str×Value)).length}:=by
  refine⟨hok,rfl,I2.bare,Un.laid old (AD _) hDn,⟨_,hns,fun j x v e1 e2 _=>?_⟩,fun x c e=>?_,?_,fun x c e=>?_,fun p hp=>absurd (show p∈([]:List (Addr×Obj))from hp) (by simp),I2.hok.laid old (AD _) ⟨by show 0<=sizeLine;decide,[],0,.nil,hD1⟩,?_⟩
  ·unfold a9U at e2
   rw[List.getElem?_map]at e2
   cases q:ρ[j]? with
   | none=>rw[q]at e2;cases e2
   | some o=>
    rw[q]at e2
    cases o with
    | none=>cases e2
    | some i=>
     have e2':(σ[i]?).join=some v:=Option.some.inj e2
     have e3:σ[i]?=some (some v):=by
      cases z:σ[i]? with
      | none=>rw[z]at e2';cases e2'
      | some y=>rw[z]at e2';cases y with
       | none=>cases e2'
       | some y=>cases e2';rfl
     have hz:(ρ.zip M)[j]?=some (some i,x):=List.getElem?_zip_eq_some.mpr ⟨q,e1⟩
     have hr:=S.ren (some i,x) (AX hz)
     obtain⟨r1,r2⟩:=of_decide_eq_true hr
     obtain⟨m,hn,hl⟩:=I2.loc
     have hfr:=S.fre _ (PySem.mem_of_lookup r2) rfl
     obtain⟨u,ru,lk⟩:=hl i x v r1 e3 (hfr.elim (fun z=> .inr (.inl z)) fun z=> .inr (.inr z))
     refine⟨u,ru,?_⟩
     rcases lk with⟨k,_⟩ | ⟨_,c,hcc,cell⟩
     ·have k':X.env.scope.names.lookup x=some .local:=k
      rcases hfr with z | z
      ·rw[k']at z;cases z
      ·rw[k']at z;cases z
     ·obtain⟨c',hc'⟩:=a3P (cells:=X.env.cells) sc.names [] (PySem.mem_of_lookup r2)
      rw[hcl]at hc'
      have:=hclx hc'
      rw[hcc]at this
      cases this
      obtain⟨oc,ho,hd⟩:=cell
      exact .inr ⟨a3a r2,_,hc',oc,old _ _ ho,hd⟩
  ·obtain⟨v,oc,ho,hd⟩:=I2.cell x c (hclx e)
   exact⟨v,oc,old _ _ ho,hd⟩
  ·show upd H2 s.heap.objs.size (.lst []) G.objs.size=none
   rw[J0 hCD]
   exact I2.hok.fresh hCle
  ·show upd H2 s.heap.objs.size (.lst []) c=none
   obtain⟨v,oc,ho,hd⟩:=I2.cell x c (hclx e)
   rw[J0 (AS (AJ ho))]
   exact I2.freeC x c (hclx e)
  ·show(a9U ρ σ).length=M.length
   unfold a9U
   rw[AI,S.len]
 have st4:tn 0 h1:=T.keep 0 _ _ st2 fun b _ o e=>old b o e
 have fr4:∀b∈fp,upd H2 s.heap.objs.size (.lst []) b=none:=fun b hb=>by
  obtain⟨o,e,_⟩:=T.obj 0 _ st2 b hb
  rw[J0 (AS (AJ e))]
  exact(f2 b hb).1
 have stat:∀{H':Hp},(∀b∈fp,H' b=none)->∀b∈fp,a4l (B4 X sc cl G.objs.size M s H2 fp xe) [] H' b:=fun hn b hb=>
  ⟨hn b hb,fpC b hb,fpS b hb,.inl hb,fun x c e=>(f2 b hb).2.2.2.2.1 x c (hclx e),fun p hp=>absurd (show p∈([]:List (Addr×Obj))from hp) (by simp)⟩
 have loop:codeAny (model X.prog X.w) X.A (.compLoop (.ListComp elt [⟨tg,iter,ifs,0⟩] sc pos) 0 (.ref it) (.ref s.heap.objs.size) (compEnvC sc cl G.objs.size X.env)) (RR (.ref s.heap.objs.size) G.objs.size)
   {s with heap:=h1,toks:=s.toks+([]:List (Str×Value)).length}:=by
  refine a9L (fun n s'=>∃i σ' H',Inv (B4 X sc cl G.objs.size M s H2 fp xe) [] σ' H' s'/\tn i s'.heap/\(∀b∈fp,H' b=none)/\W i n σ' H') ?_ m0 ⟨0,_,_,I4,st4,fr4,w0⟩
  rw[hxe]
  rintro n s3 ⟨i,σ3,H3,I3,st3,fr3,w3⟩
  rcases turn i n σ3 H3 w3 with⟨stop,qn⟩ | ⟨go,N,hN,step⟩
  ·refine thn (T.done (B4 X sc cl G.objs.size M s H2 fp xe) rfl rfl rfl hc i [] s3 σ3 H3 xe I3 (stat fr3) st3 stop) fun r s4⟨hr,I5⟩=>?_
   subst hr
   obtain⟨mC,nC,_⟩:=I5.loc
   have I6:Inv X pins σ H3 s4:=I2.call' I5.os I5.base I5.hok I5.bare fun b hb=>⟨(f2 b hb).2.2.2.1,(f2 b hb).2.1,(f2 b hb).2.2.2.2.1,(f2 b hb).2.2.2.2.2⟩
   exact hR _ _ H3 s4 mC I6 nC (I2.fpOk hCle I5.free) qn
  ·refine thn (T.item (B4 X sc cl G.objs.size M s H2 fp xe) rfl rfl rfl hc i [] s3 σ3 H3 xe I3 (stat fr3) st3 go) fun r s4⟨u,hr,h4⟩=>?_
   subst hr
   refine thn h4 fun _ s5⟨x,H5,I5,r5,y5,st5,fr5⟩=>?_
   have I5':=I5.pinned (stat fr5) (T.obj _ _ st5)
   refine thn (hg cl G.objs.size s H2 fp xe _ s5 σ3 H5 x u _ I5' r5 (step x H5 y5)) fun _ s6⟨σ6,H6,I6,q6⟩=>?_
   have fin:∀{s7:Shared}{σ7:St}{H7:Hp},Inv (B4 X sc cl G.objs.size M s H2 fp xe) ([]++a4T fp s5.heap) σ7 H7 s7->(∃m',m' < n/\W (i+1) m' σ7 H7)->
     ∃m,m < n/\∃i σ' H',Inv (B4 X sc cl G.objs.size M s H2 fp xe) [] σ' H' s7/\tn i s7.heap/\(∀b∈fp,H' b=none)/\W i m σ' H':=fun{s7 σ7 H7}I7⟨m',hm,w7⟩=>by
    refine⟨m',hm,i+1,σ7,H7,I7.unpinned,T.keep _ _ _ st5 fun b hb o e=>(I7.pin (b,o) (AU _ (AU _ (a1Q hb e)))).1,fun b hb=>?_,w7⟩
    obtain⟨o,e,d⟩:=T.obj _ _ st5 b hb
    exact(I7.pin (b,o) (AU _ (AU _ (a1Q hb e)))).2.1
   refine thn (ht cl G.objs.size s H2 fp xe _ s6 σ6 H6 _ I6 q6) fun ok s7⟨H7,I7,q7⟩=>?_
   cases ok with
   | false=>
    rw[if_neg AE]at q7⊢
    exact fin I7 (hN _ _ q7)
   | true=>
    rw[if_pos rfl]at q7⊢
    refine thn (he cl G.objs.size s H2 fp xe _ s7 σ6 H7 _ I7 q7) fun y s8⟨yv,H8,I8,r8,ys,hys,hlt,q8⟩=>?_
    obtain⟨z,its,k,rv,hl,e⟩:=I8.lstM hys
    refine call_meets F.slot_list_append ⟨_,e,rfl⟩ F.entry_list_append (F.args_list_append_2 _ _) (PySem.list_append _ its.toArray k y (by rw[List.size_toArray];omega)) ⟨e,?_⟩
    exact fin (I8.lset (its':=its++[y]) hys e (by simp) (rv.append (.cons r8 .nil)) (by rw[List.length_append,List.length_singleton];omega)) (hN _ _ q8)
 exact codeAny_compStart_list loop (T.self X.A 0 _ _ _ st4 loop)
theorem a6L(osc:Scope)(N:List Str)(S:a3I osc N sc M ρ)(hi:PI X tg iter wi)(hg:∀cl C s H fp xe,PG (B4 X sc cl C M s H fp xe) tg g)(ht:∀cl C s H fp xe,PTs (B4 X sc cl C M s H fp xe) ifs tt)
  (he:∀cl C s H fp xe,PE (B4 X sc cl C M s H fp xe) elt te)(hosc:X.env.scope=osc:=by rfl)(hN:X.N=N:=by rfl)(hc:X.calm=true:=by rfl)(hs:∀x,foldedSetIterable iter X.env x=pure x:=by intro _;rfl):
  PE X (.ListComp elt [⟨tg,iter,ifs,0⟩] sc pos) (b3p wi ρ g tt te):=by
 intro pins s σ H Q I h
 have hcells:∀y∈sc.names,y.2= .free->∃c,X.env.cells.lookup y.1=some c:=fun y hy hf=>I.ok.has y.1 (by show X.env.scope.names.lookup y.1=_\/X.env.scope.names.lookup y.1=_;rw[hosc];exact S.fre y hy hf)
 rw[eval_ListComp]
 refine wpAny_comprehension_free (M:=model X.prog X.w) (A:=X.A) (E:=X.xe) (e:= .ListComp elt [⟨tg,iter,ifs,0⟩] sc pos) rfl hs (a3g hcells) S.kind S.own (thn (hi pins s σ H _ I h) fun v s1 h1=>thn h1 fun itv s2 h2=>?_)
 obtain⟨_,_,_,_,_,_,I2,_⟩:=id h2
 refine a5d (RR:=fun acc C=>compPost (model X.prog X.w) X.A X.xe none (EP X pins σ Q) acc C) osc hosc N hN S hc hg ht he I2 h2 fun D C H' s' mC I' nC fC q=>?_
 refine⟨mC,nC,fun h' sb=>?_⟩
 obtain⟨f0,f1,_,f3,f4,f5⟩:=fC
 exact⟨.ref D,H',I'.turned (t':=s'.toks) (fun b o hb e=>(sb.2 b hb).trans e) f0 f1 f3 f4 f5,rfl,q⟩
theorem a7a{j:Nat}{x:Str}{px spos:Pos}(osc:Scope)(N:List Str)(S:a3I osc N sc M ρ)(hNd:X.N.Nodup)(hj:X.N[j]?=some x)(hx:Loc X.env.scope x)(hi:PI X tg iter wi)(hg:∀cl C s H fp xe,PG (B4 X sc cl C M s H fp xe) tg g)
  (ht:∀cl C s H fp xe,PTs (B4 X sc cl C M s H fp xe) ifs tt)(he:∀cl C s H fp xe,PE (B4 X sc cl C M s H fp xe) elt te)
  (hsw:swapsWith (.ListComp elt [⟨tg,iter,ifs,0⟩] sc pos) (some (.Name x px)) spos.line X.env=pure true:=by rfl)(hosc:X.env.scope=osc:=by rfl)(hN:X.N=N:=by rfl)(hc:X.calm=true:=by rfl)(hs:∀x,foldedSetIterable iter X.env x=pure x:=by intro _;rfl)
  (hf:X.fn x=true\/X.env.scope.names.lookup x=some .local:=by first | exact .inl rfl | exact .inr rfl | assumption):
  PS X (.Assign [.Name x px] (.ListComp elt [⟨tg,iter,ifs,0⟩] sc pos) spos) (b4J (b3p wi ρ g tt te) (a3T j)):=by
 intro pins s σ H D I h
 have hcells:∀y∈sc.names,y.2= .free->∃c,X.env.cells.lookup y.1=some c:=fun y hy hf=>I.ok.has y.1 (by show X.env.scope.names.lookup y.1=_\/X.env.scope.names.lookup y.1=_;rw[hosc];exact S.fre y hy hf)
 rw[exec_Assign_Name_used _ _ _ _ hsw]
 refine AA (wpAny_standAt (AA ?_))
 show wpAny (model X.prog X.w) X.A (do let _<-comprehension (.ListComp elt [⟨tg,iter,ifs,0⟩] sc pos) sc X.env (firstIterPos [⟨tg,iter,ifs,0⟩] pos) (newList []) false (eval iter X.env) (some (assign (.Name x px) X.env))) _ X.xe s
 refine AA (thn (Q:=fun _ s'=>SP X pins D .next s') (wpAny_comprehension_free (M:=model X.prog X.w) (A:=X.A) (E:=X.xe) (e:= .ListComp elt [⟨tg,iter,ifs,0⟩] sc pos) (use:=some (assign (.Name x px) X.env)) rfl hs (a3g hcells) S.kind S.own
  (thn (hi pins s σ H _ I h) fun v s1 h1=>thn h1 fun itv s2 h2=>?_)) fun _ s' hq=>AB (AB hq))
 obtain⟨_,_,_,_,_,_,I2,_⟩:=id h2
 refine a5d (Q:=fun v H'=>a3T j v σ H' D.nx) (RR:=fun acc C=>compPost (model X.prog X.w) X.A X.xe (some (assign (.Name x px) X.env)) (fun _ s'=>SP X pins D .next s') acc C) osc hosc N hN S hc hg ht he I2 h2 fun D' C H' s' mC I' nC fC q=>?_
 show wpAny _ _ (assign (.Name x px) X.env (.ref D')) _ _ s'
 refine wpAny_assign_Name (a5Q I' hNd hj hx (v:= .ref D') rfl (fun s3 I3⟨a,sb,ha⟩=>?_) hf)
 have hCa:C≠a:=by
  rcases ha with e | e
  ·rw[e];exact fC.2.1
  ·exact fun z=>fC.2.2.2.2.1 x a e z.symm
 refine⟨mC,nC.sameBut sb hCa,fun h' sb2=>?_⟩
 obtain⟨f0,f1,_,f3,f4,f5⟩:=fC
 exact⟨_,H',I3.turned (t':=s3.toks) (fun b o hb e=>(sb2.2 b hb).trans e) f0 f1 f3 f4 f5,q⟩
end
end L2
namespace L2
open PySem PySem.Spec PyProof.Rows
section
variable{X:Cx}{tg:Expr}
theorem a5f{K:W.Frag}(h:X.K=K):IxR X (b4V K):=h▸W9
theorem a0U{K:W.Frag}(h:X.K=K):IxR X (b4x K):=h▸J9
theorem a8B{K:W.Frag}{pos:Pos}{es:List Expr}{k:Nat}{t:TGs}{n:Nat}(hK:X.K=K)(hc:X.calm=true)(h:PGs X es t)(hn:(assignEach es X.env).length=n:=by rfl)(hst:(assignEach es X.env).findIdx? (·.1)=none:=by rfl):PG X (.Tuple es k pos) (b5f K n t):=hK▸M2 hc h hn hst
end
end L2
namespace L2
open PySem PySem.Spec PyProof.Rows
noncomputable def a6y (H:Hp) (v:V) (d:Str×Str):Prop:=∃p,v= .ref p/\H p=some (.tup [.str d.1,.str d.2])/\a1C d.1/\a1C d.2
noncomputable abbrev a9m (H:Hp):List V->List (Str×Str)->Prop:=Paired (a6y H)
theorem a6y.mono{H H':Hp}(s:U9 H H'){v:V}{t:Str×Str}(h:a6y H v t):a6y H' v t:=by
 obtain⟨p,e,h,o⟩:=h
 exact⟨p,e,s p _ h,o⟩
theorem a9m.mono{H H':Hp}(s:U9 H H'){vs:List V}{ts:List (Str×Str)}(h:a9m H vs ts):a9m H' vs ts:=Paired.mapP h fun _ _ q=>q.mono s
structure a1R(H:Hp)(t:Addr)(ps:List (Str×Str)):Prop where
 ex:∃vs,H t=some (.tup vs)/\a9m H vs ps
 hi:ps.length<=6
theorem a1R.mono{H H':Hp}(s:U9 H H'){t:Addr}{ts:List (Str×Str)}(h:a1R H t ts):a1R H' t ts:=by
 obtain⟨⟨vs,h1,h2⟩,hi⟩:=h
 exact⟨⟨vs,s t _ h1,h2.mono s⟩,hi⟩
noncomputable def a9P:Option Str->V
 | none=> .non
 | some x=> .str x
inductive Rw where
 | bring (p:Str) (ps:List (Str×Str))
 | give (o g:Str)
 | set (o:Str) (ts:List (Int×Th))
 | take (o:Str)
 | say (ts:List (Int×Th)) (w:Option Str)
 | need (ts:List (Int×Th))
 | ask (p:Str) (w:Option Str)
 | part (p:Str)
 | doo (p:Str)
noncomputable def O5 (H:Hp) (r:Addr):Rw->Prop
 | .bring p ps=>∃t,H r=some (.tup [.str "bring",.str p,.ref t])/\a1R H t ps
 | .give o g=>H r=some (.tup [.str "give",.str o,.str g])
 | .set o ts=>∃t,H r=some (.tup [.str "set",.str o,.ref t])/\E7 H t ts
 | .take o=>H r=some (.tup [.str "take",.str o])
 | .say ts w=>∃t,H r=some (.tup [.str "say",.ref t,a9P w])/\E7 H t ts
 | .need ts=>∃t,H r=some (.tup [.str "need",.ref t])/\E7 H t ts
 | .ask p w=>H r=some (.tup [.str "ask",.str p,a9P w])
 | .part p=>H r=some (.tup [.str "part",.str p])
 | .doo p=>H r=some (.tup [.str "do",.str p])
theorem O5.mono{H H':Hp}(s:U9 H H'){r:Addr}{rw:Rw}(h:O5 H r rw):O5 H' r rw:=by
 cases rw with
 | bring p ps=>obtain⟨t,h1,h2⟩:=h;exact⟨t,s _ _ h1,h2.mono s⟩
 | give o g=>exact s _ _ h
 | set o ts=>obtain⟨t,h1,h2⟩:=h;exact⟨t,s _ _ h1,h2.mono s⟩
 | take o=>exact s _ _ h
 | say ts w=>obtain⟨t,h1,h2⟩:=h;exact⟨t,s _ _ h1,h2.mono s⟩
 | need ts=>obtain⟨t,h1,h2⟩:=h;exact⟨t,s _ _ h1,h2.mono s⟩
 | ask p w=>exact s _ _ h
 | part p=>exact s _ _ h
 | doo p=>exact s _ _ h
end L2
namespace L2
open PySem PySem.Spec PyProof.Rows
section
variable{X:Cx}{elts:List Expr}{k:Nat}{tpos:Pos}
end
end L2
namespace L2
open PySem PySem.Spec PyProof.Rows
noncomputable abbrev Pt:=Str×List Rw
noncomputable def a4L:Rw->Bool
 | .part _ | .doo _=>false
 | _=>true
noncomputable def a2N (H:Hp) (v:V) (rw:Rw):Prop:=∃r,v= .ref r/\O5 H r rw
noncomputable abbrev a1B (H:Hp):List V->List Rw->Prop:=Paired (a2N H)
theorem a1B.mono{H H':Hp}(s:U9 H H'){vs:List V}{rs:List Rw}(h:a1B H vs rs):a1B H' vs rs:=Paired.mapP h fun _ _⟨r,e,q⟩=>⟨r,e,q.mono s⟩
noncomputable def a1E (H:Hp) (v:V) (p:Pt):Prop:=∃t u vs,v= .ref t/\H t=some (.tup [.str p.1,.ref u])/\H u=some (.tup vs)/\a1B H vs p.2
theorem a1E.mono{H H':Hp}(s:U9 H H'){v:V}{p:Pt}(h:a1E H v p):a1E H' v p:=by
 obtain⟨t,u,vs,e,h1,h2,h3⟩:=h
 exact⟨t,u,vs,e,s _ _ h1,s _ _ h2,h3.mono s⟩
end L2
namespace L2
open PySem PySem.Spec PyProof.Rows
section
variable{κ:Type}[DecidableEq κ]
noncomputable def Y7 (kvs:List (κ×V)) (k:κ):Option V:=(kvs.find? fun kv=>decide (kv.1=k)).map (·.2)
noncomputable def O2 (kvs:List (κ×V)) (k:κ) (v:V):List (κ×V):=
 if(kvs.any fun kv=>decide (kv.1=k))=true then kvs.map (fun kv=>if kv.1=k then(kv.1,v)else kv)else kvs++[(k,v)]
theorem D2{p:κ×V}{r:List (κ×V)}{k:κ}(e:p.1=k):Y7 (p::r) k=some p.2:=by simp[Y7,List.find?_cons,e]
theorem F4{p:κ×V}{r:List (κ×V)}{k:κ}(e:¬p.1=k):Y7 (p::r) k=Y7 r k:=by simp[Y7,List.find?_cons,e]
theorem a2X(k:κ):∀kvs:List (κ×V),(kvs.any fun kv=>decide (kv.1=k))=(Y7 kvs k).isSome
 | []=>rfl
 | p::r=>by
  rw[List.any_cons]
  by_cases e:p.1=k
  ·simp only[D2 e,decide_eq_true e,Bool.true_or,Option.isSome_some]
  ·rw[F4 e,AT e,Bool.false_or];exact a2X k r
theorem a7C(k j:κ)(y:V):∀kvs:List (κ×V),Y7 (kvs.map fun kv=>if kv.1=k then(kv.1,y)else kv) j=(Y7 kvs j).map fun x=>if j=k then y else x
 | []=>rfl
 | p::r=>by
  have ih:=a7C k j y r
  rw[List.map_cons]
  by_cases h:p.1=k
  ·rw[if_pos h]
   by_cases e:p.1=j
   ·rw[D2 (p:=(p.1,y)) e,D2 e,Option.map_some,if_pos (e.symm.trans h)]
   ·rw[F4 (p:=(p.1,y)) e,F4 e,ih]
  ·rw[if_neg h]
   by_cases e:p.1=j
   ·rw[D2 (p:=p) e,D2 e,Option.map_some,if_neg (fun z=>h (e.trans z))]
   ·rw[F4 (p:=p) e,F4 e,ih]
theorem a6l(k j:κ)(y:V):∀kvs:List (κ×V),Y7 kvs k=none->Y7 (kvs++[(k,y)]) j=if j=k then some y else Y7 kvs j
 | [],_=>by
  by_cases e:k=j
  ·rw[if_pos e.symm];exact D2 (p:=(k,y)) e
  ·rw[if_neg (fun z=>e z.symm)];exact F4 (p:=(k,y)) e
 | p::r,hn=>by
  rw[List.cons_append]
  have hk:¬p.1=k:=fun z=>by rw[D2 z]at hn;cases hn
  rw[F4 hk]at hn
  have ih:=a6l k j y r hn
  by_cases e:p.1=j
  ·rw[D2 e,D2 e,if_neg (fun z=>hk (e.trans z))]
  ·rw[F4 e,F4 e,ih]
theorem a0p(kvs:List (κ×V))(k j:κ)(y:V):Y7 (O2 kvs k y) j=if j=k then some y else Y7 kvs j:=by
 unfold O2
 by_cases a:(kvs.any fun kv=>decide (kv.1=k))=true
 ·rw[if_pos a,a7C]
  rw[a2X]at a
  by_cases e:j=k
  ·obtain⟨x,hx⟩:=Option.isSome_iff_exists.mp a
   rw[if_pos e,e,hx,Option.map_some,if_pos rfl]
  ·rw[if_neg e]
   cases Y7 kvs j with
   | none=>rfl
   | some x=>rw[Option.map_some,if_neg e]
 ·rw[if_neg a]
  refine a6l k j y kvs ?_
  rw[a2X]at a
  cases q:Y7 kvs k with
  | none=>rfl
  | some x=>rw[q]at a;exact(a rfl).elim
theorem a1v(kvs:List (κ×V))(k:κ)(v:V):(O2 kvs k v).length<=kvs.length+1:=by
 unfold O2
 split
 ·rw[AI];omega
 ·rw[List.length_append,List.length_cons,List.length_nil];omega
theorem a2D.isSome_eq{o:Option V}{u:Option Value}(r:a2D o u):o.isSome=u.isSome:=by
 cases o with
 | none=>cases u with
  | none=>rfl
  | some _=>exact(show False from r).elim
 | some _=>cases u with
  | none=>exact(show False from r).elim
  | some _=>rfl
theorem KV.val{kvs:List (κ×V)}{vs:List (κ×Value)}(r:KV kvs vs)(k:κ):a2D (Y7 kvs k) (valueAt vs k):=by
 unfold KV at r
 induction r with
 | nil=>exact True.intro
 | @cons p q ps qs h t ih=>
  obtain⟨h1,h2⟩:=h
  by_cases e:p.1=k
  ·have e':q.1=k:=h1.symm.trans e
   have b:valueAt (q::qs) k=some q.2:=by simp[valueAt,List.find?_cons,e']
   rw[D2 e,b];exact h2
  ·have e':¬q.1=k:=fun z=>e (h1.trans z)
   have b:valueAt (q::qs) k=valueAt qs k:=by simp[valueAt,List.find?_cons,e']
   rw[F4 e,b];exact ih
theorem KV.any{kvs:List (κ×V)}{vs:List (κ×Value)}(r:KV kvs vs)(k:κ):(kvs.any fun kv=>decide (kv.1=k))=vs.any fun kv=>decide (kv.1=k):=by
 unfold KV at r
 induction r with
 | nil=>rfl
 | cons h t ih=>rw[List.any_cons,List.any_cons,ih,h.1]
theorem KV.repl{kvs:List (κ×V)}{vs:List (κ×Value)}(r:KV kvs vs)(k:κ){y:V}{u:Value}(ry:W7 y u):
  KV (kvs.map fun kv=>if kv.1=k then(kv.1,y)else kv) (vs.map fun kv=>if kv.1=k then(kv.1,u)else kv):=by
 unfold KV at r⊢
 induction r with
 | nil=>exact .nil
 | @cons p q ps qs h t ih=>
  rw[List.map_cons,List.map_cons]
  refine .cons ?_ ih
  obtain⟨h1,h2⟩:=h
  by_cases e:p.1=k
  ·rw[if_pos e,if_pos (h1.symm.trans e)];exact⟨h1,ry⟩
  ·rw[if_neg e,if_neg (fun z=>e (h1.trans z))];exact⟨h1,h2⟩
theorem KV.put{kvs:List (κ×V)}{vs:List (κ×Value)}(r:KV kvs vs)(k:κ){y:V}{u:Value}(ry:W7 y u):KV (O2 kvs k y) (stored vs k u):=by
 unfold O2 stored
 rw[r.any k]
 by_cases e:(vs.any fun kv=>decide (kv.1=k))=true
 ·rw[if_pos e,if_pos e];exact r.repl k ry
 ·rw[if_neg e,if_neg e];exact Paired.snoc r ⟨rfl,ry⟩
theorem KV.length{kvs:List (κ×V)}{vs:List (κ×Value)}(r:KV kvs vs):kvs.length=vs.length:=AF r
end
theorem a7N{P:Program}{w:World}{k:Key}{u:Value}(r:W7 (kV k) u):(E8 P w).is k u=true:=by
 cases k with
 | inl i=>obtain⟨t,e⟩:=(show∃t,u=Value.int i t from r);subst e;exact a7l P w i t
 | inr x=>obtain⟨t,e⟩:=(show∃t,u=Value.str x t from r);subst e;exact a4c P w x t
theorem a6e{P:Program}{w:World}:∀{ks:List Key}{us:List Value},W0 (ks.map kV) us->ItemsAre (E8 P w) ks us
 | [],_,r=>by rw[List.map_nil]at r;cases r;exact .nil
 | k::ks,_,r=>by
  rw[List.map_cons]at r
  cases r with
  | cons h t=>exact .cons (a7N h) (a6e t)
noncomputable abbrev KT (H:Hp):List (List Key×V)->List (List Key×Addr×Value)->Prop:=Paired fun p q=>p.1=q.1/\H q.2.1=some (.tup (p.1.map kV))/\W7 p.2 q.2.2
theorem KT.val{H:Hp}{kvs:List (List Key×V)}{xs:List (List Key×Addr×Value)}(r:KT H kvs xs)(k:List Key):a2D (Y7 kvs k) ((atKey xs k).map (·.2)):=by
 induction r with
 | nil=>exact True.intro
 | @cons p q ps qs h t ih=>
  obtain⟨h1,_,h2⟩:=h
  by_cases e:p.1=k
  ·have e':q.1=k:=h1.symm.trans e
   have b:atKey (q::qs) k=some q.2:=by simp[atKey,List.find?_cons,e']
   rw[D2 e,b];exact h2
  ·have e':¬q.1=k:=fun z=>e (h1.trans z)
   have b:atKey (q::qs) k=atKey qs k:=by simp[atKey,List.find?_cons,e']
   rw[F4 e,b];exact ih
theorem KT.repl{H:Hp}{kvs:List (List Key×V)}{xs:List (List Key×Addr×Value)}(r:KT H kvs xs)(k:List Key){y:V}{u:Value}(ry:W7 y u):
  KT H (kvs.map fun kv=>if kv.1=k then(kv.1,y)else kv) (xs.map (putAt k u)):=by
 induction r with
 | nil=>exact .nil
 | @cons p q ps qs h t ih=>
  rw[List.map_cons,List.map_cons]
  refine .cons ?_ ih
  obtain⟨h1,h2,h3⟩:=h
  unfold putAt
  by_cases e:p.1=k
  ·rw[if_pos e,if_pos (h1.symm.trans e)];exact⟨h1,h2,ry⟩
  ·rw[if_neg e,if_neg (fun z=>e (h1.trans z))];exact⟨h1,h2,h3⟩
theorem KT.put{H:Hp}{kvs:List (List Key×V)}{xs:List (List Key×Addr×Value)}(r:KT H kvs xs)(k:List Key){b:Addr}{y:V}{u:Value}(hb:H b=some (.tup (k.map kV)))(ry:W7 y u):
  KT H (O2 kvs k y) (storedH xs k b u):=by
 have e:(kvs.any fun kv=>decide (kv.1=k))=(atKey xs k).isSome:=by
  rw[a2X,(r.val k).isSome_eq,Option.isSome_map]
 unfold O2 storedH
 rw[e]
 by_cases q:(atKey xs k).isSome=true
 ·rw[if_pos q,if_pos q];exact r.repl k ry
 ·rw[if_neg q,if_neg q];exact Paired.snoc r ⟨rfl,hb,ry⟩
theorem KT.keeps{H H':Hp}{kvs:List (List Key×V)}{xs:List (List Key×Addr×Value)}(r:KT H kvs xs)(ht:∀b ys,H b=some (.tup ys)->H' b=some (.tup ys)):KT H' kvs xs:=
 Paired.mapP r fun _ _ z=>⟨z.1,ht _ _ z.2.1,z.2.2⟩
section
variable{P:Program}{w:World}{H:Hp}{h:Heap}{a:Addr}
theorem b3s{u:HO}(ok:HOk P w H h)(e:Rd H a u):Z4 P w H h a u:=e.ok ok
theorem a7J{kvs:List (Key×V)}(ok:HOk P w H h)(e:Rd H a (.dK kvs)):kvs.length<=sizeLine/\(a==sysModules)=false/\∃vs,KV kvs vs/\h.DictOf (E8 P w) a vs:=
 show Z4 P w H h a (.dK kvs)from b3s ok e
theorem b3w{kvs:List (Key×V)}(ok:HOk P w H h)(e:H a=some (.dK kvs)):kvs.length<=sizeLine/\(a==sysModules)=false/\∃vs,KV kvs vs/\h.DictOf (E8 P w) a vs:=a7J ok (.inl e)
theorem a4J{ks:List Key}(ok:HOk P w H h)(e:H a=some (.tup (ks.map kV))):(tupleKind (E8 P w)).is h ks a:=by
 obtain⟨_,its,r,o,h1,h2,n,h3⟩:=(show Z4 P w H h a (.tup (ks.map kV))from ok a _ e)
 exact⟨o,its.toArray,n,h1,h2,h3,by simpa using a6e r⟩
theorem a7f{kvs:List (List Key×V)}(ok:HOk P w H h)(e:Rd H a (.dT kvs)):kvs.length<=sizeLine/\(a==sysModules)=false/\
  ∃xs,KT H kvs xs/\h.DictOfH (tupleKind (E8 P w)) a xs:=by
 obtain⟨z,y,xs,r,o,es,ep,h1,h2,h3,h4,h5⟩:=(show Z4 P w H h a (.dT kvs)from b3s ok e)
 refine⟨z,y,xs,r,o,es,ep,h1,h2,h3,h4,fun x hx=>?_,h5⟩
 have all:∀{l:List (List Key×V)}{m:List (List Key×Addr×Value)},KT H l m->∀x∈m,(tupleKind (E8 P w)).is h x.1 x.2.1:=by
  intro l m q
  induction q with
  | nil=>intro x hx;exact nomatch hx
  | @cons p q ps qs hq t ih=>
   intro x hx
   rcases List.mem_cons.mp hx with e | hx
   ·subst e
    exact a4J ok (by rw[<-hq.1];exact hq.2.1)
   ·exact ih x hx
 exact all r x hx
theorem b4N{kvs:List (List Key×V)}(ok:HOk P w H h)(e:H a=some (.dT kvs)):kvs.length<=sizeLine/\(a==sysModules)=false/\
  ∃xs,KT H kvs xs/\h.DictOfH (tupleKind (E8 P w)) a xs:=a7f ok (.inl e)
end
noncomputable def a0S (H:Hp) (a:Addr) (y:V) (r:Option V):Prop:=
 (∃kvs k,Rd H a (.dK kvs)/\y=kV k/\r=Y7 kvs k)\/∃kvs k b,Rd H a (.dT kvs)/\y= .ref b/\H b=some (.tup (k.map kV))/\r=Y7 kvs k
noncomputable def a3F (H:Hp) (a:Addr) (y v:V) (H':Hp):Prop:=
 (∃kvs k,H a=some (.dK kvs)/\y=kV k/\kvs.length < sizeLine/\H'=upd H a (.dK (O2 kvs k v)))\/
 ∃kvs k b,H a=some (.dT kvs)/\y= .ref b/\H b=some (.tup (k.map kV))/\kvs.length < sizeLine/\H'=upd H a (.dT (O2 kvs k v))
theorem a0S.k{H:Hp}{a:Addr}{kvs:List (Key×V)}{k:Key}(e:H a=some (.dK kvs)):a0S H a (kV k) (Y7 kvs k):= .inl ⟨kvs,k,.inl e,rfl,rfl⟩
theorem a0S.t{H:Hp}{a b:Addr}{kvs:List (List Key×V)}{k:List Key}(e:H a=some (.dT kvs))(eb:H b=some (.tup (k.map kV))):a0S H a (.ref b) (Y7 kvs k):= .inr ⟨kvs,k,b,.inl e,rfl,eb,rfl⟩
theorem a3F.k{H:Hp}{a:Addr}{kvs:List (Key×V)}{k:Key}{v:V}(e:H a=some (.dK kvs))(hl:kvs.length < sizeLine):a3F H a (kV k) v (upd H a (.dK (O2 kvs k v))):= .inl ⟨kvs,k,e,rfl,hl,rfl⟩
theorem a3F.t{H:Hp}{a b:Addr}{kvs:List (List Key×V)}{k:List Key}{v:V}(e:H a=some (.dT kvs))(eb:H b=some (.tup (k.map kV)))(hl:kvs.length < sizeLine):
  a3F H a (.ref b) v (upd H a (.dT (O2 kvs k v))):= .inr ⟨kvs,k,b,e,rfl,eb,hl,rfl⟩
section
variable{X:Cx}{pins:List (Addr×Obj)}{σ:St}{H:Hp}{s:Shared}{a:Addr}{y v:V}{u r:Value}{o:Option V}{A:Around}{E:Value->Shared->Prop}
theorem Inv.big(I:Inv X pins σ H s):sysModules < s.heap.objs.size:=by
 have h:mainGlobals < s.heap.objs.size:=(I.mod.glob.keeps I.bk).lt
 exact Nat.lt_trans (by decide) h
theorem b0j{Q:Value->Shared->Prop}(hu:A.units+1 < cLine)(I:Inv X pins σ H s)(g:a0S H a y (some v))(ry:W7 y u)(h:∀w' s',Inv X pins σ H s'->W7 v w'->Q w' s'):
  wpAny (model X.prog X.w) A (getItem (.ref a) u) Q E s:=by
 rcases g with⟨kvs,k,e,ey,l⟩ | ⟨kvs,k,b,e,ey,eb,l⟩
 ·subst ey
  obtain⟨z,hd,vs,rel,dd⟩:=a7J I.hok e
  obtain⟨w',hw,rw'⟩:=a2D.some_of (v:=v) (o:=valueAt vs k) (by rw[l];exact rel.val k)
  exact wpAny_getItem_of (a7N ry) dd.mapOf hw (h w' _ (I.tok _) rw')
 ·subst ey
  cases(show u=Value.ref b from ry)
  obtain⟨z,hd,xs,rel,dd⟩:=a7f I.hok e
  obtain⟨w',hw,rw'⟩:=a2D.some_of (v:=v) (o:=(atKey xs k).map (·.2)) (by rw[l];exact rel.val k)
  obtain⟨p,hp,hp2⟩:=Option.map_eq_some_iff.mp hw
  refine wpAny_getItem_heap (tupleKind_room_in1 hu) (a4J I.hok eb) dd hp ?_
  rw[hp2]
  exact h w' _ (I.tok _) rw'
theorem b5s{Q:Value->Shared->Prop}(hu:A.units+1 < cLine)(I:Inv X pins σ H s)(g:a0S H a y o)(ry:W7 y u)(h:∀s',Inv X pins σ H s'->Q (.bool o.isSome) s'):
  wpAny (model X.prog X.w) A (compareOp .In u (.ref a)) Q E s:=by
 rcases g with⟨kvs,k,e,ey,l⟩ | ⟨kvs,k,b,e,ey,eb,l⟩
 ·subst ey
  obtain⟨z,hd,vs,rel,dd⟩:=a7J I.hok e
  refine wpAny_in_of (a7N ry) hd dd.mapOf ?_
  rw[<-(rel.val k).isSome_eq,<-l]
  exact h _ (I.tok _)
 ·subst ey
  cases(show u=Value.ref b from ry)
  obtain⟨z,hd,xs,rel,dd⟩:=a7f I.hok e
  refine wpAny_in_heap (tupleKind_room_in1 hu) (a4J I.hok eb) hd dd ?_
  have q:=(rel.val k).isSome_eq
  rw[Option.isSome_map]at q
  rw[<-q,<-l]
  exact h _ (I.tok _)
theorem b2R{Q:Value->Shared->Prop}(hu:A.units+1 < cLine)(I:Inv X pins σ H s)(g:a0S H a y o)(ry:W7 y u)(h:∀s',Inv X pins σ H s'->Q (.bool (!o.isSome)) s'):
  wpAny (model X.prog X.w) A (compareOp .NotIn u (.ref a)) Q E s:=by
 rcases g with⟨kvs,k,e,ey,l⟩ | ⟨kvs,k,b,e,ey,eb,l⟩
 ·subst ey
  obtain⟨z,hd,vs,rel,dd⟩:=a7J I.hok e
  refine wpAny_notIn_of (a7N ry) hd dd.mapOf ?_
  rw[<-(rel.val k).isSome_eq,<-l]
  exact h _ (I.tok _)
 ·subst ey
  cases(show u=Value.ref b from ry)
  obtain⟨z,hd,xs,rel,dd⟩:=a7f I.hok e
  refine wpAny_notIn_heap (tupleKind_room_in1 hu) (a4J I.hok eb) hd dd ?_
  have q:=(rel.val k).isSome_eq
  rw[Option.isSome_map]at q
  rw[<-q,<-l]
  exact h _ (I.tok _)
theorem a6s{h':Heap}{t':Nat}{ob:HO}(I:Inv X pins σ H s)(mu:Mut (H a))(hs:Heap.SameBut a s.heap h')(he:∃q,h'.get? a=some q)(new:Z4 X.prog X.w (upd H a ob) h' a ob):
  Inv X pins σ (upd H a ob) {s with heap:=h',toks:=t'}:=
 I.write (x:=a) (e:=a) mu (.inl rfl) (fun b q hb z=>(hs.2 b hb).trans z) he new
theorem b0O{P:Program}{w:World}{H':Hp}{h':Heap}{kvs:List (Key×V)}{vs:List (Key×Value)}(z:kvs.length<=sizeLine)(hd:(a==sysModules)=false)(rel:KV kvs vs)(dd:h'.DictOf (E8 P w) a vs):
  Z4 P w H' h' a (.dK kvs):=⟨z,hd,vs,rel,dd⟩
theorem a9D{H':Hp}{Q:Unit->Shared->Prop}(hu:A.units+1 < cLine)(I:Inv X pins σ H s)(g:a3F H a y v H')(ry:W7 y u)(rv:W7 v r)(h:∀s',Inv X pins σ H' s'->Q () s'):
  wpAny (model X.prog X.w) A (setItem (.ref a) u r) Q E s:=by
 rcases g with⟨kvs,k,e,ey,l,eH⟩ | ⟨kvs,k,b,e,ey,eb,l,eH⟩
 ·subst ey eH
  obtain⟨z,hd,vs,rel,dd⟩:=b3w I.hok e
  have hz:vs.length<=sizeLine:=by rw[<-rel.length];exact z
  have hl:(O2 kvs k v).length<=sizeLine:=by have:=a1v kvs k v;omega
  refine wpAny_setItem_pairs (hsz:=hz) (a7N ry) dd fun h' dd' hs=>h _ ?_
  have he:∃q,h'.get? a=some q:=let⟨q,_,_,hq,_⟩:=dd';⟨q,hq⟩
  exact a6s I (by rw[e];exact True.intro) hs he (b0O hl hd (rel.put k rv) dd')
 ·subst ey eH
  cases(show u=Value.ref b from ry)
  obtain⟨z,hd,xs,rel,dd⟩:=b4N I.hok e
  have hz:xs.length<=sizeLine:=by rw[<-AF rel];exact z
  have hl:(O2 kvs k v).length<=sizeLine:=by have:=a1v kvs k v;omega
  refine wpAny_setItem_heap (hsz:=hz) (tupleKind_room_in1 hu) (a4J I.hok eb) dd fun h' dd' hs=>h _ ?_
  obtain⟨q,es,ep,hq,h2,h3,h4,_,h5⟩:=dd'
  refine a6s I (by rw[e];exact True.intro) hs ⟨q,hq⟩ ⟨hl,hd,_,(rel.put k eb rv).keeps fun c ys ec=>?_,q,es,ep,hq,h2,h3,h4,h5⟩
  rw[J0 (E9 ec e (fun z=>nomatch z))]
  exact ec
end
section
variable{X:Cx}{pins:List (Addr×Obj)}{σ:St}{H:Hp}{s:Shared}{a:Addr}{kvs:List (Key×V)}{k:Key}{u:Value}{A:Around}{E:Value->Shared->Prop}
end
noncomputable def b4v (i:Expr):Prop:=∀ov iv,subscripted i false ov iv=operate [ov,iv] (getItem ov iv)
theorem b2S{prog:Program}{w:World}{A:Around}{E:Value->Shared->Prop}{s:Shared}{env:Env}{value slice:Expr}{pos:Pos}{T id:String}{Q:Value->Shared->Prop}
  (hl:typeLookup (.type T) "__getitem__"=pure (some (.builtin id)))(hs:b4v slice)
  (h:wpAny (model prog w) A (eval value env) (fun o s₁=>wpAny (model prog w) A (eval slice env) (fun i s₂=>s₂.TypeIs o T/\wpAny (model prog w) A (getItem o i) Q E s₂) E s₁) E s):
  wpAny (model prog w) A (eval (.Subscript value slice pos) env) Q E s:=by
 refine Subscript_ (wpAny_mono h (fun o s₁ h₁=>wpAny_mono h₁ (fun i s₂ h₂=>?_) fun _ _ x=>x) fun _ _ x=>x)
 obtain⟨hT,h₂⟩:=h₂
 unfold subscriptTail
 refine AA ?_
 rw[getitemInPython_of_ne hT.not_modules]
 refine AA (wpAny_specialOf hT hl ?_)
 have fin:wpAny (model prog w) A (subscripted slice false o i) (fun r s₃=>wpAny (model prog w) A (letTemporaryGo value o r >>= fun _=>pure r) Q E s₃) E s₂:=by
  rw[hs o i]
  exact wpAny_operating (wpAny_mono h₂ (fun r s₃ h₃=>AA (wpAny_letTemporaryGo (AB h₃))) fun _ _ x=>x)
 first
  | exact AB (AA fin)
  | exact AA (AB (AA fin))
  | exact AA fin
theorem a7A{X:Cx}{pins:List (Addr×Obj)}{σ:St}{H:Hp}{s:Shared}{a:Addr}{y:V}{o:Option V}(I:Inv X pins σ H s)(g:a0S H a y o):s.TypeIs (.ref a) "dict":=by
 rcases g with⟨kvs,k,e,_,_⟩ | ⟨kvs,k,b,e,_,_,_⟩
 ·obtain⟨_,_,vs,_,dd⟩:=a7J I.hok e
  exact dd.typeIs
 ·obtain⟨_,_,xs,_,dd⟩:=a7f I.hok e
  exact dd.typeIs
noncomputable def b4t (td ty:TE):TE:=fun σ H Q=>td σ H fun x H1=>ty σ H1 fun y H2=>∃a v,x= .ref a/\a0S H2 a y (some v)/\Q v H2
noncomputable def b5v (ty td:TE):TE:=fun σ H Q=>ty σ H fun y H1=>td σ H1 fun x H2=>∃a o,x= .ref a/\a0S H2 a y o/\Q (.bl o.isSome) H2
noncomputable def b2G (ty td:TE):TE:=fun σ H Q=>ty σ H fun y H1=>td σ H1 fun x H2=>∃a o,x= .ref a/\a0S H2 a y o/\Q (.bl (!o.isSome)) H2
noncomputable def b4F (td ty tv:TE):TS:=fun D σ H=>tv σ H fun v H1=>td σ H1 fun x H2=>ty σ H2 fun y H3=>∃a H4,x= .ref a/\a3F H3 a y v H4/\D.nx σ H4
section
variable{X:Cx}{o i e value:Expr}{pos pos' tpos:Pos}{td ty tv:TE}
theorem a1V(hu:X.A.units+1 < cLine)(ho:PE X o td)(hi:PE X i ty)(hs:b4v i):PE X (.Subscript o i pos) (b4t td ty):=by
 intro pins s σ H Q I h
 refine b2S PySem.F.slot_dict_getitem.lookup hs (thn (ho pins s σ H _ I h) fun u s1⟨x,H1,I1,rx,q1⟩=>thn (hi pins s1 σ H1 _ I1 q1) fun iv s2⟨y,H2,I2,ry,a,v,ex,g,q2⟩=>?_)
 subst ex
 obtain rfl:u=Value.ref a:=rx
 exact⟨a7A I2 g,b0j hu I2 g ry fun w' s3 I3 rw'=>⟨v,H2,I3,rw',q2⟩⟩
theorem b1W(hu:X.A.units+1 < cLine)(hi:PE X i ty)(ho:PE X o td):PC X .In i o (b5v ty td):=by
 intro pins s σ H Q I h
 refine thn (hi pins s σ H _ I h) fun iv s1⟨y,H1,I1,ry,q1⟩=>thn (ho pins s1 σ H1 _ I1 q1) fun u s2⟨x,H2,I2,rx,a,ov,ex,g,q2⟩=>?_
 subst ex
 obtain rfl:u=Value.ref a:=rx
 exact b5s hu I2 g ry fun s3 I3=>⟨.bl ov.isSome,H2,I3,rfl,q2⟩
theorem a3O(hu:X.A.units+1 < cLine)(hi:PE X i ty)(ho:PE X o td):PC X .NotIn i o (b2G ty td):=by
 intro pins s σ H Q I h
 refine thn (hi pins s σ H _ I h) fun iv s1⟨y,H1,I1,ry,q1⟩=>thn (ho pins s1 σ H1 _ I1 q1) fun u s2⟨x,H2,I2,rx,a,ov,ex,g,q2⟩=>?_
 subst ex
 obtain rfl:u=Value.ref a:=rx
 exact b2R hu I2 g ry fun s3 I3=>⟨.bl (!ov.isSome),H2,I3,rfl,q2⟩
theorem a1x(hu:X.A.units+1 < cLine)(ho:PE X o td)(hi:PE X i ty)(hv:PE X value tv)(hs:swapsWith value (some (.Subscript o i pos')) pos.line X.env=pure false):
  PS X (.Assign [.Subscript o i pos'] value pos) (b4F td ty tv):=by
 intro pins s σ H D I h
 refine wpAny_Assign_Subscript (thn (hv pins s σ H _ I h) fun r s1⟨v,H1,I1,rv,q1⟩=>thn (ho pins s1 σ H1 _ I1 q1) fun u s2⟨x,H2,I2,rx,q2⟩=>thn (hi pins s2 σ H2 _ I2 q2) fun iv s3⟨y,H3,I3,ry,a,H4,ex,g,q3⟩=>?_) hs
 subst ex
 obtain rfl:u=Value.ref a:=rx
 exact a9D hu I3 g ry rv fun s4 I4=>⟨σ,H4,I4,q3⟩
end
theorem a7x{P:Program}{w:World}{H:Hp}(h:Heap)(hb:sysModules < h.objs.size):Z4 P w H (h.push {cls:= .type "dict",data:= .dict #[]}) h.objs.size (.dK []):=
 ⟨Nat.zero_le _,beq_eq_false_iff_ne.mpr (Ne.symm (AS hb)),[],.nil,Heap.DictOf.new h⟩
theorem b0E{P:Program}{w:World}{H:Hp}(h:Heap)(hb:sysModules < h.objs.size):Z4 P w H (h.push {cls:= .type "dict",data:= .dict #[]}) h.objs.size (.dT []):=
 ⟨Nat.zero_le _,beq_eq_false_iff_ne.mpr (Ne.symm (AS hb)),[],.nil,_, #[],0,AG _ rfl,⟨rfl,rfl,rfl⟩,rfl,rfl,List.nodup_nil⟩
noncomputable def b3E:TE:=fun _ H Q=>∀p,H p=none->Q (.ref p) (upd H p (.dK []))
noncomputable def b4d:TE:=fun _ H Q=>∀p,H p=none->Q (.ref p) (upd H p (.dT []))
section
variable{X:Cx}{pos:Pos}
theorem a3h:PE X (.Dict [] [] pos) b3E:=fun pins s σ H Q I h=>
 wpAny_Dict_empty ⟨.ref s.heap.objs.size,_,I.laid (a:=s.heap.objs.size) (o:= .dK []) (t':=s.toks) (fun _ _ q=>AC _ q) (AD _) (a7x s.heap I.big),rfl,h _ (I.hok.fresh (AD _))⟩
theorem a2d:PE X (.Dict [] [] pos) b4d:=fun pins s σ H Q I h=>
 wpAny_Dict_empty ⟨.ref s.heap.objs.size,_,I.laid (a:=s.heap.objs.size) (o:= .dT []) (t':=s.toks) (fun _ _ q=>AC _ q) (AD _) (b0E s.heap I.big),rfl,h _ (I.hok.fresh (AD _))⟩
end
noncomputable abbrev VV:List (V×V)->List (Value×Value)->Prop:=Paired fun p q=>W7 p.1 q.1/\W7 p.2 q.2
section
variable{X:Cx}{pins:List (Addr×Obj)}{σ:St}{H:Hp}{s:Shared}{a:Addr}{y d:V}{u r:Value}{o:Option V}{A:Around}{E:Value->Shared->Prop}
end
section
variable{X:Cx}{o e f:Expr}{apos cpos:Pos}{td ty tx:TE}
end
section
variable{X:Cx}{pins:List (Addr×Obj)}{σ:St}{H:Hp}{s:Shared}{a:Addr}{kvs:List (Key×V)}{A:Around}{E:Value->Shared->Prop}
end
section
variable{X:Cx}{pins:List (Addr×Obj)}{σ:St}{H:Hp}{s:Shared}{a:Addr}{y:V}{u:Value}{A:Around}{E:Value->Shared->Prop}
end
end L2
namespace L2
open PySem PySem.Spec PyProof.Rows
section
variable{X:Cx}
end
section
variable{κ:Type}[DecidableEq κ]
end
end L2
namespace L2
open PySem PySem.Spec PyProof.Rows
theorem a9F{prog:Program}{w:World}{A:Around}{E:Value->Shared->Prop}{s:Shared}{a:Addr}{items:Array Value}{Q:Option Value->Shared->Prop}(hL:s.heap.IsTuple a items)(hn:∀o,s.heap.get? a=some o->o.dict=none)(hA:A.handled=none)
  (h:∀h' tk,(∀b ob,s.heap.get? b=some ob->h'.get? b=some ob)->Q none {s with heap:=h',toks:=tk}):wpAny (model prog w) A (getAttr? (.ref a) "keys") Q E s:=by
 obtain⟨⟨c,dct,dat,sl⟩,hx,hc,k,hd⟩:=hL
 have hdn:=hn _ hx
 simp only at hc hd hdn
 subst hc hd hdn
 obtain⟨hp,g,d,tk,os⟩:=s
 have hT:∀tk',(⟨hp,g,d,tk',os⟩:Shared).TypeIs (.ref a) "tuple":=fun _=>⟨_,hx,rfl⟩
 have f1:=sub_AttributeError
 have f3:=F.slot_tuple_getattribute.lookup
 have f4:=F.slot_tuple_getattribute.bind (.ref a)
 have f5:=am_tuple_getattr_none
 have hmiss:typeLookup (.type "tuple") "keys"=pure none:=am_miss_of_fast (by decide +kernel)
 unfold getAttr? getAttrBy? getAttrBy
 repeat (any_goals (first | assumption | exact hT _ | ((with_reducible show wpAny _ _ (call (Value.builtin "tuple.__getattribute__") _ _) _ _ _);refine call_meets F.slot_tuple_getattribute (hT _) am_entry_tuple_getattribute (F.args_tuple_getattribute_2 _ _) (meets_getattribute_miss_tuple a items k sl "keys" _ hmiss (by decide +kernel) (by decide +kernel)) ⟨hx,hA,fun h' tk' e hx'=>?_⟩) | wp_step))
 obtain⟨t',u',he⟩:=hx'.there
 show wpAny _ _ (getattributeRaised _ _ _ _ _ _ _) _ _ _
 unfold getattributeRaised
 repeat (any_goals (first | assumption | wp_step))
 exact h _ _ hx'.keeps
theorem a5S:entryFor table "dict.update.loop"=some Builtin.«dict.update.loop»:=entryFor_of_fast (by kernel_rfl)
theorem a2A:plainId "dict.update.loop"=true:=by decide +kernel
section
variable{X:Cx}
noncomputable def a2E (ps:List (Str×V)) (m:List (Key×V)):List (Key×V):=ps.foldl (fun m p=>O2 m (Sum.inr p.1) p.2) m
theorem a9y(hc:X.calm=true){A:Around}(hA:A.handled=none){pins:List (Addr×Obj)}{σ:St}{H0:Hp}{Q:VK}{a d it:Addr}{vs:List V}(hda:d≠a)(hit:it≠a)(hdi:d≠it):
  ∀(n i:Nat)(s:Shared)(m:List (Key×V))(ps:List (Str×V))(j:Int)(tk:Tok),n=vs.length - i->Inv X pins σ (upd H0 d (.dK m)) s->s.heap.IsTupleIter it a i->a4l X pins (upd H0 d (.dK m)) it->SqT X.K (upd H0 d (.dK m)) a vs->
   Paired (fun v(p:Str×V)=>∃t,v= .ref t/\t≠d/\SqT X.K H0 t [.str p.1,p.2]) (vs.drop i) ps->m.length+ps.length<=1000->H0 it=none->
   Q (.ref d) (upd H0 d (.dK (a2E ps m)))->codeAny (model X.prog X.w) A (.builtin "dict.update.loop" ⟨[.ref d,.ref it,.int j tk,.none],[]⟩) (wants (fun u s'=>u= .none/\∃H',Inv X pins σ H' s'/\Q (.ref d) H') (fun _ _=>False)) s:=by
 intro n
 induction n with
 | zero=>
  intro i s m ps j tk hn I st fp hsq hp hlen hn0 q
  have hd:vs.drop i=[]:=List.drop_eq_nil_of_le (by omega)
  rw[hd]at hp
  cases hp
  obtain⟨its,rv,pt,hz⟩:=I.tuple hsq
  have hl:=rv.length
  obtain⟨f0,f1,f2,f3,f4,f5⟩:=fp
  refine codeAny_builtin a5S ?_
  rw[Around.under_plainId a2A _]
  show wpAny _ A.in1 (pyNext (.ref it) >>= _) _ _ s
  refine AA (wpAny_pyNext_tuple_end (A:=A.in1) hA st (show s.heap.IsTuple a its.toArray from pt) (by simp;omega) fun h' eb=>?_)
  have I':Inv X pins σ (upd H0 d (.dK m)) {s with heap:=h'}:=I.turned (t':=s.toks) (fun b o hb e=>eb b o hb e) f0 f1 f3 f4 f5
  show wpAny _ _ (Builtin.Dict.addKeywords d [] >>= _) _ _ _
  exact AA (AB (AB ⟨rfl,_,I',q⟩))
 | succ n ih=>
  intro i s m ps j tk hn I st fp hsq hp hlen hn0 q
  have hi:i < vs.length:=by omega
  have hdr:vs.drop i=vs[i]::vs.drop (i+1):=List.drop_eq_getElem_cons hi
  rw[hdr]at hp
  cases hp with
  | @cons _ p _ ps' h1 hrest=>
  obtain⟨t,e,htd,ht⟩:=h1
  obtain⟨its,rv,pt,hz⟩:=I.tuple hsq
  have hl:=rv.length
  have hx:vs[i]?=some (V.ref t):=by simp[hi,e]
  obtain⟨u,hu,ru⟩:=rv.get hx
  cases ru
  obtain⟨f0,f1,f2,f3,f4,f5⟩:=id fp
  refine codeAny_builtin a5S ?_
  rw[Around.under_plainId a2A _]
  show wpAny _ A.in1 (pyNext (.ref it) >>= _) _ _ s
  refine AA (wpAny_pyNext_tuple_item (A:=A.in1) st (show s.heap.IsTuple a its.toArray from pt) (x:= .ref t) (by simpa using hu) fun h' st' sb=>?_)
  have I':Inv X pins σ (upd H0 d (.dK m)) {s with heap:=h'}:=I.turned (t':=s.toks) (fun b o hb e=>(sb.2 b hb).trans e) f0 f1 f3 f4 f5
  have ht':SqT X.K (upd H0 d (.dK m)) t [.str p.1,p.2]:=by
   rcases ht with(ht | ⟨o,ht⟩) | ht
   ·exact .inl (.inl (by rw[J0 htd];exact ht))
   ·exact .inl (.inr ⟨o,by rw[J0 htd];exact ht⟩)
   ·exact .inr ht
  obtain⟨kv,rkv,ptt,_⟩:=I'.tuple ht'
  cases rkv with
  | @cons _ ku _ _ rk rr=>
  cases rr with
  | @cons _ vu _ _ rvv rr=>
  cases rr
  obtain⟨tk2,rfl⟩:=rk
  have hTy:(⟨h',s.gens,s.drawn,s.toks,s.os⟩:Shared).TypeIs (.ref t) "tuple":=by obtain⟨o,ho,hcl,_⟩:=ptt;exact⟨o,ho,hcl⟩
  dsimp only
  obtain⟨ot,hot,hoc,kt,hodat⟩:=ptt
  obtain⟨z,hsm,ws,rel,dd⟩:=b3w I'.hok (G7 (H:=H0) (a:=d) (o:= .dK m))
  have hz2:ws.length<=sizeLine:=by rw[<-rel.length];exact z
  refine AA (wpAny_holding (AA (wpAny_tryCatch ?_)))
  unfold Builtin.Dict.pairItems
  refine AA (wpAny_typeOf hTy ?_)
  rw[if_pos (by decide)]
  refine AA (wpAny_seqItems hot hodat (AB ?_))
  show wpAny _ _ (holding [Value.str p.1 tk2,vu] (dictSet d (Value.str p.1 tk2) vu)) _ _ _
  refine wpAny_holding (wpAny_dictSet_pairs (knd:=E8 X.prog X.w) (k:=Sum.inr p.1) (a4c X.prog X.w p.1 tk2) dd (fun h2 dd2 sb2=>?_) hz2)
  have hl2:(O2 m (Sum.inr p.1) p.2).length<=sizeLine:=by
   have h3:=a1v m (Sum.inr p.1) p.2
   have:sizeLine=16777216:=sizeLine_eq
   simp only[List.length_cons]at hlen
   omega
  have he:∃q,h2.get? d=some q:=let⟨q,_,_,hq,_⟩:=dd2;⟨q,hq⟩
  have I2:Inv X pins σ (upd (upd H0 d (.dK m)) d (.dK (O2 m (Sum.inr p.1) p.2))) {heap:=h2,gens:=s.gens,drawn:=s.drawn,toks:=s.toks+1,os:=s.os}:=
   a6s (s:={heap:=h',gens:=s.gens,drawn:=s.drawn,toks:=s.toks,os:=s.os}) (t':=s.toks+1) I' (by rw[G7];exact True.intro) sb2 he (b0O hl2 hsm (rel.put _ rvv) dd2)
  rw[b2q]at I2
  refine AB ⟨plainId_quiet a2A _,?_⟩
  have hsq2:SqT X.K (upd H0 d (.dK (O2 m (Sum.inr p.1) p.2))) a vs:=by
   rcases hsq with(h | ⟨o,h⟩) | h
   ·rw[J0 hda.symm]at h;exact .inl (.inl (by rw[J0 hda.symm];exact h))
   ·rw[J0 hda.symm]at h;exact .inl (.inr ⟨o,by rw[J0 hda.symm];exact h⟩)
   ·exact .inr h
  refine ih (i+1) _ (O2 m (Sum.inr p.1) p.2) ps' (j+1) _ (by omega) I2 ?_ ⟨by rw[J0 hdi.symm];exact hn0,f1,f2,f3,f4,f5⟩ hsq2 hrest ?_ hn0 q
  ·obtain⟨oi,hoi,r⟩:=st'
   exact⟨oi,(sb2.2 it hdi.symm).trans hoi,r⟩
  ·have h3:=a1v m (Sum.inr p.1) p.2
   simp only[List.length_cons]at hlen
   omega
theorem a7W(hc:X.calm=true):a0R X (.type "dict") (fun xs H Q=>∃(a:Addr)(o:Obj)(vs:List V)(ps:List (Str×V)),xs=[.ref a]/\H a=some (.frz o (.tup vs))/\o.dict=none/\Paired (fun v(p:Str×V)=>∃t,v= .ref t/\SqT X.K H t [.str p.1,p.2]) vs ps/\ps.length<=1000/\
  ∀d,H d=none->Q (.ref d) (upd H d (.dK (a2E ps [])))):=by
 intro pins s σ H xs us Q I r h
 obtain⟨a,o,vs,ps,rfl,ha,hod,hp,hlen,q⟩:=h
 obtain⟨u,rfl,ru⟩:=a4f r
 cases ru
 have hsq:SqT X.K H a vs:= .inl (.inr ⟨o,ha⟩)
 obtain⟨its,rv,pt,hz⟩:=I.tuple hsq
 have hobj:s.heap.get? a=some o:=(I.hok a _ ha).1
 have hfr:H s.heap.objs.size=none:=I.hok.fresh (AD _)
 refine callType_codes (Q₁:=fun obj s₁=>obj= .ref s.heap.objs.size/\s₁={s with heap:=s.heap.push {cls:= .type "dict",data:= .dict #[]}}) F.kt_called_dict (F.kt_typeCall_dict_1 _) F.entry_dict_init (kt_code_dict_new _ ⟨rfl,rfl⟩) ?_
 rintro obj s₁ ⟨rfl,rfl⟩
 have I1:Inv X pins σ (upd H s.heap.objs.size (.dK [])) {s with heap:=s.heap.push {cls:= .type "dict",data:= .dict #[]}}:=
  I.laid (a:=s.heap.objs.size) (o:= .dK []) (t':=s.toks) (fun _ _ q=>AC _ q) (AD _) (a7x s.heap I.big)
 have hnew:(s.heap.push {cls:= .type "dict",data:= .dict #[]}).DictOf (E8 X.prog X.w) s.heap.objs.size []:=Heap.DictOf.new s.heap
 refine⟨hnew.typeIs,F.args_dict_init_2 _ _,?_⟩
 unfold Builtin.«dict.__init__»
 refine AA ?_
 unfold Builtin.Dict.selfAndRest
 refine AA (wpAny_notOrdered_dict hnew.typeIs ?_)
 show wpAny _ _ (pure (s.heap.objs.size,[Value.ref a])) _ _ _
 refine AB ?_
 show wpAny _ _ (Builtin.Dict.updateFrom "dict.__init__" s.heap.objs.size (.ref a) [] .none) _ _ _
 have had:s.heap.objs.size≠a:=Ne.symm (J3 ha hfr)
 have hobj1:(s.heap.push {cls:= .type "dict",data:= .dict #[]}).get? a=some o:=AC _ hobj
 have htp:(s.heap.push {cls:= .type "dict",data:= .dict #[]}).IsTuple a its.toArray:=by
  obtain⟨o2,h1,h2⟩:=pt
  exact⟨o2,AC _ h1,h2⟩
 unfold Builtin.Dict.updateFrom
 refine AA (wpAny_typeOf (s:={s with heap:=s.heap.push {cls:= .type "dict",data:= .dict #[]}}) (T:="tuple") (by obtain⟨o2,h1,h2,_⟩:=htp;exact⟨o2,h1,h2⟩) ?_)
 rw[if_pos (by decide)]
 refine AA (a9F htp (fun o2 h2=>by rw[hobj1]at h2;cases h2;exact hod) (I.ok.hd hc) fun h' tk hk=>?_)
 rw[if_pos (show(none:Option Value).isNone=true from rfl)]
 refine AA (wpAny_rule ?_)
 have I2:Inv X pins σ (upd H s.heap.objs.size (.dK [])) {s with heap:=h',toks:=tk}:=I1.kept hk
 have htp2:h'.IsTuple a its.toArray:=by
  obtain⟨o2,h1,h2⟩:=htp
  exact⟨o2,hk _ _ h1,h2⟩
 refine AA (wpAny_pyIter_tuple (s:={s with heap:=h',toks:=tk}) htp2 ?_)
 refine AB ⟨plainId_quiet a2A _,?_⟩
 have I3:=I2.kept (h':=h'.push {cls:= .type "tuple_iterator",data:= .fields #[.ref a,.int 0 0]}) (t':=tk) fun b ob e=>AC _ e
 have hfi:upd H s.heap.objs.size (.dK []) h'.objs.size=none:=I2.hok.fresh (AD _)
 have hdi:s.heap.objs.size≠h'.objs.size:=by
  intro z
  rw[<-z,G7]at hfi
  cases hfi
 have hfi0:H h'.objs.size=none:=by rw[J0 hdi.symm]at hfi;exact hfi
 have hia:h'.objs.size≠a:=fun z=>by
  rw[z,ha]at hfi0
  cases hfi0
 have hsq1:SqT X.K (upd H s.heap.objs.size (.dK [])) a vs:= .inl (.inr ⟨o,by rw[J0 had.symm];exact ha⟩)
 have L:=a9y (X:=X) hc (A:=X.A.in1) (I.ok.hd hc) (pins:=pins) (σ:=σ) (H0:=H) (Q:=Q) (a:=a) (d:=s.heap.objs.size) (it:=h'.objs.size) (vs:=vs) had hia hdi vs.length 0 _ [] ps 0 0 (by omega) I3 ⟨_,AG _ rfl,rfl,rfl⟩ (I2.fpOk (AD _) hfi) hsq1
  (Paired.mapP hp fun v p⟨t,e,ht⟩=>⟨t,e,fun z=>?_,ht⟩) (by simpa using hlen) hfi0 (q _ hfr)
 ·refine codeAny_mono L fun r s' hr=>?_
  cases r with
  | error e=>exact False.elim hr
  | ok f=>
   cases f with
   | ret v=>
    obtain⟨e,H',I',q'⟩:=hr
    exact⟨e,.ref s.heap.objs.size,H',I',rfl,q'⟩
   | next=>exact False.elim hr
   | brk=>exact False.elim hr
   | cont=>exact False.elim hr
 ·obtain⟨its2,_,⟨o2,h2,_⟩,_⟩:=I.tuple ht
  rw[z]at h2
  exact absurd (AJ h2) (Nat.lt_irrefl _)
end
end L2
namespace L2
open PySem PySem.Spec PyProof.Rows PySem.W
section
variable{prog:Program}{w:World}{A:Around}{E:Value->Shared->Prop}{s:Shared}{T:String}{r d:Addr}{n:Nat}{P:Nat->Value->Prop}{OK:Heap->Prop}
end
section
variable{X:Cx}
end
end L2
namespace L2
open PySem PySem.Spec PyProof.Rows
noncomputable def Z5:Rw->Str
 | .bring _ _=>"bring"
 | .give _ _=>"give"
 | .set _ _=>"set"
 | .take _=>"take"
 | .say _ _=>"say"
 | .need _=>"need"
 | .ask _ _=>"ask"
 | .part _=>"part"
 | .doo _=>"do"
noncomputable def a2c (l:List Str) (x:Str):List Str:=if x∈l then l else l++[x]
noncomputable def a1F (l:List Str):List (Key×V):=l.map fun x=>(Sum.inr x,.bl true)
theorem b1R(l:List Str):(a1F l).length=l.length:=AI _
theorem b1O(l:List Str)(x:Str):((a1F l).any fun kv=>decide (kv.1=Sum.inr x))=decide (x∈l):=by
 induction l with
 | nil=>simp[a1F]
 | cons a r ih=>
  have:a1F (a::r)=(Sum.inr a,.bl true)::a1F r:=rfl
  rw[this,List.any_cons,ih]
  by_cases e:a=x
  ·subst e;simp
  ·have h1:¬(Sum.inr a:Key)=Sum.inr x:=fun z=>e (Sum.inr.inj z)
   have h2:¬x=a:=fun z=>e z.symm
   simp[e,h2]
theorem b1s(l:List Str)(x:Str):O2 (a1F l) (Sum.inr x) (.bl true)=a1F (a2c l x):=by
 unfold O2
 rw[b1O]
 unfold a2c
 by_cases e:x∈l
 ·rw[if_pos (by simpa using e),if_pos e]
  unfold a1F
  rw[List.map_map]
  refine List.map_congr_left fun a _=>?_
  show(if(Sum.inr a:Key)=Sum.inr x then((Sum.inr a:Key),V.bl true)else(Sum.inr a,V.bl true))=_
  split<;>rfl
 ·rw[if_neg (by simpa using e),if_neg e]
  unfold a1F
  rw[AV]
  rfl
noncomputable def a1o (H:Hp) (a:Addr) (ps:List Pt):Prop:=∃o vs,H a=some (.frz o (.tup vs))/\o.dict=none/\Paired (a1E H) vs ps
theorem J4.partsF{H H':Hp}(s:J4 H H'){a:Addr}{ps:List Pt}(h:a1o H a ps):a1o H' a ps:=by
 obtain⟨o,vs,h1,h2,h3⟩:=h
 exact⟨o,vs,s _ _ h1,h2,Paired.mapP h3 fun _ _ q=>q.mono s.tups⟩
theorem a6a:∀(ps:List (Str×V))(m:List (Key×V))(n:Str)(v:V),(ps.map (·.1)).Nodup->((n,v)∈ps\/((∀p∈ps,p.1≠n)/\Y7 m (Sum.inr n)=some v))->Y7 (a2E ps m) (Sum.inr n)=some v
 | [],m,n,v,_,h=>by
  rcases h with h | h
  ·simp at h
  ·exact h.2
 | p::ps,m,n,v,hn,h=>by
  rw[List.map_cons,List.nodup_cons]at hn
  show Y7 (a2E ps (O2 m (Sum.inr p.1) p.2)) _=_
  refine a6a ps _ n v hn.2 ?_
  rcases h with h | ⟨h1,h2⟩
  ·rcases List.mem_cons.mp h with e | e
   ·refine .inr ⟨fun q hq z=>hn.1 ?_,?_⟩
    ·rw[<-e];show n∈_;rw[<-z];exact AM hq
    ·rw[<-e]
     show Y7 (O2 m (Sum.inr n) v) (Sum.inr n)=_
     rw[a0p,if_pos rfl]
   ·exact .inl e
  ·refine .inr ⟨fun q hq=>h1 q (AN _ hq),?_⟩
   rw[a0p,if_neg (fun z=>h1 p AL (Sum.inr.inj z).symm)]
   exact h2
theorem O5.kind{H:Hp}{r:Addr}{rw:Rw}(h:O5 H r rw):∃x rest,H r=some (.tup (.str (Z5 rw)::x::rest)):=by
 cases rw with
 | bring p ps=>obtain⟨t,h1,h2⟩:=h;exact⟨_,_,h1⟩
 | give o g=>exact⟨_,_,h⟩
 | set o ts=>obtain⟨t,h1,h2⟩:=h;exact⟨_,_,h1⟩
 | take o=>exact⟨_,_,h⟩
 | say ts w=>obtain⟨t,h1,h2⟩:=h;exact⟨_,_,h1⟩
 | need ts=>obtain⟨t,h1,h2⟩:=h;exact⟨_,_,h1⟩
 | ask p w=>exact⟨_,_,h⟩
 | part p=>exact⟨_,_,h⟩
 | doo p=>exact⟨_,_,h⟩
end L2
namespace L2
open PySem PySem.Spec PyProof.Rows
section
variable{X:Cx}
end
end L2
namespace L2
open PySem PySem.Spec PyProof.Rows
section
variable{X:Cx}
end
end L2
namespace L2
open PySem PySem.Spec PyProof.Rows
section
variable{X:Cx}{elts:List Expr}{k:Nat}{tpos:Pos}
end
end L2
namespace L2
open PySem PySem.Spec PyProof.Rows
end L2
namespace L2
open PySem PySem.Spec PyProof.Rows
end L2
namespace RV
open PySem PySem.Spec PyProof.Rows
theorem b1c:Manifest.owners.lookup (String.ofList ['d', 'e', 's', 'r', 'e', 'v', 'e', 'r'].reverse)=some Manifest.sig_reversed:=by kernel_rfl
theorem a3m:Slot "reversed" "__next__" "reversed.__next__":=
 .of (owner:="reversed") (n:="__next__") (by rw[typeLookup_type,builtinLookup_eq_fast];kernel_rfl) (by decide +kernel) (by decide +kernel) (by decide +kernel)
  (by first | exact .inl (by decide +kernel) | exact .inr (by decide +kernel)) (by rw[isSubtype_type];kernel_rfl)
theorem a8Y:Slot "reversed" "__iter__" "reversed.__iter__":=
 .of (owner:="reversed") (n:="__iter__") (by rw[typeLookup_type,builtinLookup_eq_fast];kernel_rfl) (by decide +kernel) (by decide +kernel) (by decide +kernel)
  (by first | exact .inl (by decide +kernel) | exact .inr (by decide +kernel)) (by rw[isSubtype_type];kernel_rfl)
theorem a2W:entryFor table "reversed.__next__"=some Builtin.«reversed.__next__»:=entryFor_of_tree (by kernel_rfl)
theorem a6o:entryFor table "reversed.__iter__"=some Builtin.«dict_keyiterator.__iter__»:=
 entryFor_alias (id':="dict_keyiterator.__iter__") (by kernel_rfl) (by first | rfl | decide +kernel | (unfold String.splitOn;simp +decide [String.splitOnAux])) (by decide +kernel) (by kernel_rfl)
theorem a3s(a:Value):argsOk "reversed.__next__" ⟨[a],[]⟩:=by
 unfold argsOk;rw[signature?_of (id:="reversed.__next__") (n:=['_', '_', 't', 'x', 'e', 'n', '_', '_']) (o:=['d', 'e', 's', 'r', 'e', 'v', 'e', 'r']) (by kernel_rfl) b1c];kernel_rfl
theorem a6x(a:Value):argsOk "reversed.__iter__" ⟨[a],[]⟩:=by
 unfold argsOk;rw[signature?_of (id:="reversed.__iter__") (n:=['_', '_', 'r', 'e', 't', 'i', '_', '_']) (o:=['d', 'e', 's', 'r', 'e', 'v', 'e', 'r']) (by kernel_rfl) b1c];kernel_rfl
theorem b3P:typeLookup (.type "tuple") "__reversed__"=pure none:=by rw[typeLookup_type,builtinLookup_eq_fast];kernel_rfl
theorem b1C:isSubtype (.type "tuple") (.type "dict")=pure false:=by rw[isSubtype_type];kernel_rfl
theorem b4D:isSubtype (.type "reversed") (.type "reversed")=pure true:=by rw[isSubtype_type];kernel_rfl
theorem b2Y:Slot "reversed" "__init__" "object.__init__":=
 .of (owner:="object") (n:="__init__") (by rw[typeLookup_type,builtinLookup_eq_fast];kernel_rfl) (by decide +kernel) (by decide +kernel) (by decide +kernel)
  (by first | exact .inl (by decide +kernel) | exact .inr (by decide +kernel)) (by rw[isSubtype_type];kernel_rfl)
theorem a3w:TypeCalled "reversed" "reversed.__new__" "object.__init__":=
 ⟨by decide +kernel,by decide +kernel,⟨_,_,F.mro_reversed⟩,F.made_reversed,by decide +kernel,b4D,b2Y⟩
end RV
namespace RV
open PySem PySem.Spec PyProof.Rows
noncomputable def a9A (t:Addr) (i:Int):Obj:={cls:= .type "reversed",data:= .fields #[.ref t,rawInt i]}
noncomputable def a1c (h:Heap) (a t:Addr) (i:Int):Prop:=∃o,h.get? a=some o/\o.cls= .type "reversed"/\o.data= .fields #[.ref t,rawInt i]
theorem a1c.move{h h':Heap}{a t:Addr}{i:Int}(x:a1c h a t i)(e:∀o,h.get? a=some o->h'.get? a=some o):a1c h' a t i:=by
 obtain⟨o,ho,r⟩:=x
 exact⟨o,e o ho,r⟩
section
variable{prog:Program}{w:World}{A:Around}{E:Value->Shared->Prop}{s:Shared}
theorem a1c.ty{a t:Addr}{i:Int}(x:a1c s.heap a t i):s.TypeIs (.ref a) "reversed":=by
 obtain⟨o,ho,hc,_⟩:=x
 exact⟨o,ho,hc⟩
theorem b1u{t:Addr}{its:Array Value}{Q₁:Value->Shared->Prop}(ht:IsTup s.heap t its)(hz:its.size<=sizeLine)
  (q:∀tk,Q₁ (.ref s.heap.objs.size) {s with heap:=s.heap.push (a9A t ((its.size:Int) - 1)),toks:=tk}):
  codeAny (model prog w) A (.call (.builtin "reversed.__new__") ⟨[.type "reversed",.ref t],[]⟩) (wants Q₁ E) s:=by
 refine codeAny_of_tree ?_
 show wpAny _ A.in1 (checkBuiltinCall "reversed.__new__" ⟨[.type "reversed",.ref t],[]⟩ >>= fun _=>again (.builtin "reversed.__new__" ⟨[.type "reversed",.ref t],[]⟩)) _ _ s
 refine AA (wpAny_of_eq (F.newCall_reversed_1 _) (AB ⟨plainId_quiet F.plain_reversed_new _,codeAny_builtin F.entry_reversed_new ?_⟩))
 rw[Around.under_plainId F.plain_reversed_new _]
 unfold Builtin.«reversed.__new__»
 refine AA (wpAny_of_eq (newClass_reversed _) ?_)
 try dsimp only
 refine AA (wpAny_of_eq (a:=()) (by first | rfl | kernel_rfl) ?_)
 refine AA (wpAny_of_eq (a:=()) (by first | rfl | kernel_rfl) ?_)
 try dsimp only
 refine AA (wpAny_specialOf ht.typeIs b3P ?_)
 try dsimp only
 refine AA (AA (wpAny_isInstance ht.typeIs b1C ?_))
 rw[if_neg AE]
 refine AA (wpAny_specialOf ht.typeIs slot_tuple_getitem.lookup ?_)
 show wpAny _ _ (if(["tuple.__getitem__","str.__getitem__","bytes.__getitem__","bytearray.__getitem__","memoryview.__getitem__","numpy.ndarray.__getitem__","sqlite3.Row.__getitem__"].contains "tuple.__getitem__")=true then pure true else _) _ _ s
 rw[if_pos (by decide +kernel)]
 refine AB ?_
 rw[if_neg (by decide)]
 have hfit:(its.size:Int) < 2 ^ 63:=by have:sizeLine=16777216:=sizeLine_eq;omega
 refine AA (len_tuple ht hfit ?_)
 refine AA (wpAny_of_eq (a:=some (its.size:Int)) rfl ?_)
 show wpAny _ _ (newObj (Value.type "reversed") (.fields #[Value.ref t,rawInt ((its.size:Int) - 1)]) >>= _) _ _ _
 refine AA (wpAny_newObj_type (AB ?_))
 exact q _
theorem b1N{t:Addr}{its:Array Value}{Q:Value->Shared->Prop}(ht:IsTup s.heap t its)(hz:its.size<=sizeLine)
  (q:∀tk,Q (.ref s.heap.objs.size) {s with heap:=s.heap.push (a9A t ((its.size:Int) - 1)),toks:=tk}):wpAny (model prog w) A (call (.type "reversed") [.ref t]) Q E s:=by
 refine callType_codes (Q₁:=fun obj s₁=>s₁.TypeIs obj "reversed"/\Q obj s₁) a3w (F.typeCall_reversed_1 _) F.entry_object_init (b1u ht hz fun tk=>⟨⟨_,AG _ rfl,rfl⟩,q tk⟩) fun obj s₁ h₁=>?_
 exact⟨h₁.1,F.args_object_init_2 obj _,object_init_meets a3w.init.lookup a3w.made (by decide) prog w A.in1 _ s₁ ⟨h₁.1,rfl,h₁.2⟩⟩
theorem a3C{it t:Addr}{i:Nat}{its:Array Value}{x:Value}{Q:Option Value->Shared->Prop}(hit:a1c s.heap it t (i:Int))(ht:IsTup s.heap t its)(hx:its[i]?=some x)(hz:its.size<=sizeLine)
  (q:∀h' tk,a1c h' it t ((i:Int) - 1)->Heap.SameBut it s.heap h'->Q (some x) {s with heap:=h',toks:=tk}):wpAny (model prog w) A (pyNext (.ref it)) Q E s:=by
 obtain⟨o,ho,hc,hd⟩:=id hit
 have hi:i < its.size:=by
  obtain⟨z,_⟩:=Array.getElem?_eq_some_iff.mp hx
  exact z
 have hsl:sizeLine=16777216:=sizeLine_eq
 have hneg:¬((i:Int) < 0):=by omega
 have hseq:seqIndex? (i:Int) its.size=some i:=by simp[seqIndex?,hneg,hi]
 unfold pyNext
 refine AA (wpAny_attempt (wpAny_callSpecial?_slot (name:=Str.ofString "__next__") hit.ty a3m (wpAny_call_entry a3m hit.ty a2W ?_ (a3s _))))
 unfold Builtin.«reversed.__next__»
 refine AA (wpAny_of_eq (a:=(Value.ref it,[])) rfl ?_)
 try dsimp only
 refine AA (wpAny_field ho hd (x:= .ref t) rfl ?_)
 refine AA (wpAny_field ho hd (x:=rawInt (i:Int)) rfl ?_)
 show wpAny _ _ (if(i:Int) < 0 then _ else _) _ _ s
 rw[if_neg (by omega)]
 refine AA (wpAny_specialOf ht.typeIs slot_tuple_getitem.lookup ?_)
 rw[if_neg (by simp)]
 refine AA (wpAny_mkInt ?_)
 refine AA (wpAny_attempt (getItem_tuple (s:={s with toks:=s.toks+1}) ht (by omega) (by omega) hseq hx ?_))
 show wpAny _ _ (field (Value.ref it) 1 >>= _) _ _ _
 refine AA (wpAny_field (s:={s with toks:=s.toks+1}) ho hd (x:=rawInt (i:Int)) rfl ?_)
 show wpAny _ _ (setField (Value.ref it) 1 (rawInt ((i:Int) - 1)) >>= _) _ _ _
 refine AA (wpAny_setField (s:={s with toks:=s.toks+1}) ho hd (by simp) ?_)
 refine AB ⟨x,rfl,AB (q _ _ ?_ (Heap.SameBut.update ..))⟩
 exact⟨_,Heap.get?_update_self _ ho (Obj.isFreed_of_fields (Obj.data_mapFields hd _)),(Obj.cls_mapFields ..).trans hc,by
  rw[Obj.data_mapFields hd]
  simp⟩
theorem a4X{it t:Addr}{Q:Option Value->Shared->Prop}(hh:A.handled=none)(hit:a1c s.heap it t (-1))
  (q:∀h' tk,Heap.ExtBut it s.heap h'->Q none {s with heap:=h',toks:=tk}):wpAny (model prog w) A (pyNext (.ref it)) Q E s:=by
 obtain⟨o,ho,hc,hd⟩:=id hit
 unfold pyNext
 refine AA (wpAny_attempt (wpAny_callSpecial?_slot (name:=Str.ofString "__next__") hit.ty a3m (wpAny_call_entry a3m hit.ty a2W ?_ (a3s _))))
 unfold Builtin.«reversed.__next__»
 refine AA (wpAny_of_eq (a:=(Value.ref it,[])) rfl ?_)
 try dsimp only
 refine AA (wpAny_field ho hd (x:= .ref t) rfl ?_)
 refine AA (wpAny_field ho hd (x:=rawInt (-1)) rfl ?_)
 show wpAny _ _ (if(-1:Int) < 0 then _ else _) _ _ s
 rw[if_pos (by decide)]
 refine AA (wpAny_rule ?_)
 refine AA (AA (wpAny_setField ho hd (by simp) ?_))
 have h1:=Heap.get?_update_self (Obj.mapFields (·.setIfInBounds 1 (rawInt (-1)))) ho (Obj.isFreed_of_fields (Obj.data_mapFields hd _))
 refine wpAny_setField h1 (Obj.data_mapFields hd _) (by simp) ?_
 refine AA ?_
 show wpAny _ _ (newExc (Value.type "StopIteration") [] >>= _) _ _ _
 refine AA ?_
 simp only[newTuple,newExc]
 refine AA (wpAny_newObj_type (AA (m:=firstArgMember _ _) (wpAny_of_eq (a:=Value.none) (by first | rfl | (simp only[firstArgMember];rfl)) (wpAny_newObj_type ?_ (by size_fits)))) (by size_fits))
 simp only[raiseNew]
 refine AA (wpAny_handled ?_)
 rw[show A.in1.handled=none from hh]
 refine AA (AB (wpAny_throw ?_))
 exact AA (wpAny_isInstance (T:="StopIteration") (b:=true) ⟨_,AG _ rfl,rfl⟩ isSubtype_stop (AB (q _ _ ((((Heap.SameBut.update ..).trans (Heap.SameBut.update ..)).extBut.push _).push _))))
theorem a1H{it t:Addr}{i:Int}{Q:Value->Shared->Prop}(hit:a1c s.heap it t i)(h:Q (.ref it) s):wpAny (model prog w) A (pyIter (.ref it)) Q E s:=by
 refine wpAny_pyIter_slot hit.ty a8Y (wpAny_call_entry a8Y hit.ty a6o ?_ (a6x _))
 show wpAny _ _ (ret (.ref it)) _ _ s
 exact AB ⟨_,rfl,"reversed",_,hit.ty,a3m.lookup,h⟩
end
end RV
namespace RV
open PySem PySem.Spec PyProof.Rows
section
variable{prog:Program}{w:World}{A:Around}{E:Value->Shared->Prop}{s:Shared}
end
end RV
namespace RV
open PySem PySem.Spec PyProof.Rows
section
variable{prog:Program}{w:World}{A:Around}{E:Value->Shared->Prop}{s:Shared}
end
end RV
namespace L2
open PySem PySem.Spec PyProof.Rows PySem.W RV
theorem a8S:∀{xs:List V}{its:List Value}{i:Nat}{v:Value},W0 xs its->its[i]?=some v->∃x,xs[i]?=some x/\W7 x v
 | _,_,_,_,.nil,e=>by simp at e
 | _,_,0,_,.cons r _,e=>by simp at e;subst e;exact⟨_,rfl,r⟩
 | _,_,i+1,_,.cons _ t,e=>by
  obtain⟨x,h1,h2⟩:=a8S (i:=i) t (by simpa using e)
  exact⟨x,by simpa using h1,h2⟩
theorem a9n:∀{xs:List V}{us:List Value},us.length=xs.length->(∀(j:Nat)(u:Value),us[j]?=some u->∃x,xs[j]?=some x/\W7 x u)->W0 xs us
 | [],[],_,_=> .nil
 | [],_::_,h,_=>by simp at h
 | _::_,[],h,_=>by simp at h
 | x::xs,u::us,h,k=>by
  obtain⟨y,e,r⟩:=k 0 u rfl
  have e':x=y:=by simpa using e
  subst e'
  exact .cons r (a9n (by simpa using h) fun j v hj=>by simpa using k (j+1) v (by simpa using hj))
section
variable{X:Cx}{e:Expr}{te:TE}{pos pos2 p p2:Pos}
theorem b4e(he:PE X e te)(gR:Gl X "reversed")(mR:X.mg "reversed"=none)(hs:starEach [e] X.env=[(false,eval e X.env)]:=by rfl)
  {pins:List (Addr×Obj)}{s:Shared}{σ:St}{H:Hp}{R:VK}{Q:Value->Shared->Prop}(I:Inv X pins σ H s)(h:te σ H R)
  (k:∀x H1 s1 a xs its tk,Inv X pins σ H1 s1->R x H1->x= .ref a->W0 xs its->IsTup s1.heap a its.toArray->its.toArray.size<=sizeLine->SqT X.K H1 a xs->Q (.ref s1.heap.objs.size) {s1 with heap:=s1.heap.push (a9A a ((its.toArray.size:Int) - 1)),toks:=tk})
  (kr:∀x H1,R x H1->∃a xs,x= .ref a/\SqT X.K H1 a xs):
  wpAny (model X.prog X.w) X.A (eval (.Call (.Name "reversed" p2) [e] [] pos2) X.env) Q X.xe s:=by
 refine wpAny_Call_Name_kw (a2t I gR mR boot_reversed ?_ (by decide) (by decide))
 refine PyProof.Rows.callWith_type1 ?_ hs (by rfl)
 rw[hs]
 refine Calls.spliced_cons (thn (he pins s σ H _ I h) fun u s1⟨x,H1,I1,r1,q1⟩=>?_)
 obtain⟨a,xs,rfl,ht⟩:=kr x H1 q1
 cases r1
 obtain⟨its,hv,htup,hz⟩:=I1.tuple ht
 have hz':its.toArray.size<=sizeLine:=by have:=hv.length;simp;omega
 refine Calls.spliced_nil ?_
 exact b1N htup hz' fun tk=>k _ H1 s1 a xs its tk I1 q1 rfl hv htup hz' ht
end
end L2
namespace L2
open PySem PySem.Spec PyProof.Rows
section
variable{P:Program}{w:World}{A:Around}{E:Value->Shared->Prop}{s:Shared}{z TI TO i1 i2 l1 l2:Addr}{xs ys:Array Value}{I1 I2:Nat->Heap->Prop}{S1 S2:Heap->Prop}
end
section
variable{X:Cx}{elts:List Expr}{k:Nat}{tpos:Pos}
end
end L2
namespace L2
open PySem PySem.Spec PyProof.Rows PySem.W
noncomputable def a7L (h:Heap) (d:Addr) (es:Array DictEntry) (ep:Nat):Prop:=∃o,h.get? d=some o/\o.ExactDict/\o.data= .dict es ep
section
variable{P:Program}{w:World}{A:Around}{E:Value->Shared->Prop}{s:Shared}{d:Addr}{es:Array DictEntry}{ep:Nat}
theorem a7L.ty(r:a7L s.heap d es ep):s.TypeIs (.ref d) "dict":=by
 obtain⟨ob,e,c,_⟩:=r
 exact⟨ob,e,c.1⟩
theorem b1X{Q:Value->Shared->Prop}(lo:(d==sysModules)=false)(r:a7L s.heap d es ep)
  (q:Q (.ref s.heap.objs.size) {s with heap:=s.heap.push {cls:= .type "dict_keyiterator",data:= .fields #[.ref d,.int 0 0,.int es.size 0,.int ep 0]}}):wpAny (model P w) A (pyIter (.ref d)) Q E s:=by
 have ty:=r.ty
 obtain⟨ob,eb,cb,db⟩:=r
 refine wpAny_pyIter_slot ty F.slot_dict_iter (wpAny_call_entry F.slot_dict_iter ty F.entry_dict_iter ?_ (F.args_dict_iter_1 _))
 unfold Builtin.«dict.__iter__» Builtin.Dict.dictSlotNone
 refine AA (AA (wpAny_notOrdered_dict ty ?_))
 show wpAny _ _ (pure (Value.ref d)) _ _ s
 refine AB ?_
 show wpAny _ _ (Builtin.Dict.showsAll d >>= _) _ _ s
 unfold Builtin.Dict.showsAll
 rw[if_neg (fun z=>by rw[lo]at z;exact AE z)]
 refine AA (AB (AA (wpAny_dictEntries eb db (AA (wpAny_dictEpoch eb db ?_)))))
 refine AA (wpAny_newObj_type (AB ⟨_,rfl,"dict_keyiterator",_,⟨_,AG _ rfl,rfl⟩,F.slot_dict_keyiterator_next.lookup,?_⟩))
 simpa [rawInt]using q
theorem b2c{it:Addr}{i:Nat}{e:DictEntry}{Q:Option Value->Shared->Prop}(hi:s.heap.IsKeyIter it d i es.size ep)(r:a7L s.heap d es ep)(he:es[i]?=some e)
  (q:∀h',h'.IsKeyIter it d (i+1) es.size ep->Heap.SameBut it s.heap h'->Q (some e.key) {s with heap:=h'}):wpAny (model P w) A (pyNext (.ref it)) Q E s:=by
 obtain⟨oi,ei,ci,di⟩:=id hi
 obtain⟨ob,eb,cb,db⟩:=r
 unfold pyNext
 refine AA (wpAny_attempt (wpAny_callSpecial?_slot (name:=Str.ofString "__next__") hi.typeIs F.slot_dict_keyiterator_next (wpAny_call_entry F.slot_dict_keyiterator_next hi.typeIs F.entry_dict_keyiterator_next ?_ (F.args_dict_keyiterator_next_1 _))))
 refine AA (AB (AA (AA ?_)))
 first | refine AA (wpAny_typeNameOfWhole_keyiter hi.typeIs (AB (AA (wpAny_fieldsOf ei di ?_)))) | refine AA (wpAny_typeNameOf_keyiter hi.typeIs (AB (AA (wpAny_fieldsOf ei di ?_))))
 simp only[show Builtin.Dict_items.ownsTuple "dict_keyiterator"=false by decide,Bool.false_eq_true,if_false]
 show wpAny _ _ (ite ((Value.ref d==Value.none)=true) _ _) _ _ s
 rw[if_neg (by exact AE)]
 refine AA (AB (AA (wpAny_dictEntries eb db ?_)))
 rw[if_neg (by simp)]
 refine AA (AB (AA (wpAny_dictEpoch eb db ?_)))
 rw[if_neg (by simp)]
 refine AB ?_
 simp only[show¬((i:Int) < 0)from by omega,if_false,Int.toNat_natCast,he]
 refine AA ?_
 first | refine AA (wpAny_typeNameOfWhole_keyiter hi.typeIs (AB (AA (wpAny_isOneOf_keyiter hi.typeIs ?_)))) | refine AA (wpAny_typeNameOf_keyiter hi.typeIs (AB (AA (wpAny_isOneOf_keyiter hi.typeIs ?_))))
 show wpAny _ _ (setField (Value.ref it) 1 (rawInt ((i:Int)+1)) >>= _) _ _ s
 refine AA (wpAny_setField ei di (by simp) ?_)
 have hi2:(s.heap.update it (Obj.mapFields (·.setIfInBounds 1 (rawInt ((i:Int)+1))))).IsKeyIter it d (i+1) es.size ep:=⟨_,Heap.get?_update_self _ ei (Obj.isFreed_of_fields (Obj.data_mapFields di _)),(Obj.cls_mapFields ..).trans ci,by
  rw[Obj.data_mapFields di]
  simp[rawInt]⟩
 refine AA (wpAny_holding (AA (wpAny_isOneOf_keyiter (s:={s with heap:=s.heap.update it (Obj.mapFields (·.setIfInBounds 1 (rawInt ((i:Int)+1))))}) hi2.typeIs ?_)))
 show wpAny _ _ (pure e.key) _ _ _
 exact AB (AB ⟨_,rfl,AB (q _ hi2 (Heap.SameBut.update ..))⟩)
theorem b1v{it:Addr}{i:Nat}{Q:Option Value->Shared->Prop}(hA:A.handled=none)(hi:s.heap.IsKeyIter it d i es.size ep)(r:a7L s.heap d es ep)(he:es[i]?=none)
  (q:∀h',Heap.ExtBut it s.heap h'->Q none {s with heap:=h'}):wpAny (model P w) A (pyNext (.ref it)) Q E s:=by
 obtain⟨oi,ei,ci,di⟩:=id hi
 obtain⟨ob,eb,cb,db⟩:=r
 unfold pyNext
 refine AA (wpAny_attempt (wpAny_callSpecial?_slot (name:=Str.ofString "__next__") hi.typeIs F.slot_dict_keyiterator_next (wpAny_call_entry F.slot_dict_keyiterator_next hi.typeIs F.entry_dict_keyiterator_next ?_ (F.args_dict_keyiterator_next_1 _))))
 refine AA (AB (AA (AA ?_)))
 first | refine AA (wpAny_typeNameOfWhole_keyiter hi.typeIs (AB (AA (wpAny_fieldsOf ei di ?_)))) | refine AA (wpAny_typeNameOf_keyiter hi.typeIs (AB (AA (wpAny_fieldsOf ei di ?_))))
 simp only[show Builtin.Dict_items.ownsTuple "dict_keyiterator"=false by decide,Bool.false_eq_true,if_false]
 show wpAny _ _ (ite ((Value.ref d==Value.none)=true) _ _) _ _ s
 rw[if_neg (by exact AE)]
 refine AA (AB (AA (wpAny_dictEntries eb db ?_)))
 rw[if_neg (by simp)]
 refine AA (AB (AA (wpAny_dictEpoch eb db ?_)))
 rw[if_neg (by simp)]
 refine AB ?_
 simp only[show¬((i:Int) < 0)from by omega,if_false,Int.toNat_natCast,he]
 refine AA ?_
 first | refine AA (wpAny_typeNameOfWhole_keyiter hi.typeIs (AB ?_)) | refine AA (wpAny_typeNameOf_keyiter hi.typeIs (AB ?_))
 show wpAny _ _ (setField (Value.ref it) 0 .none >>= _) _ _ s
 refine AA (wpAny_setField ei di (by simp) ?_)
 show wpAny _ _ (newExc (Value.type "StopIteration") [] >>= _) _ _ _
 refine AA ?_
 simp only[newTuple,newExc]
 refine AA (wpAny_newObj_type (AA (m:=firstArgMember _ _) (wpAny_of_eq (a:=Value.none) (by first | rfl | (simp only[firstArgMember];rfl)) (wpAny_newObj_type ?_ (by size_fits)))) (by size_fits))
 simp only[raiseNew]
 refine AA (wpAny_handled ?_)
 rw[show A.in1.handled=none from hA]
 refine AA (AB (wpAny_throw ?_))
 exact AA (wpAny_isInstance (T:="StopIteration") (b:=true) ⟨_,AG _ rfl,rfl⟩ isSubtype_stop (AB (q _ (((Heap.SameBut.update ..).extBut.push _).push _))))
end
noncomputable def a9s (H:Hp) (v:V) (kv:List Key×V):Prop:=∃b,v= .ref b/\H b=some (.tup (kv.1.map kV))
section
variable{X:Cx}
end
end L2
namespace L2
open PySem PySem.Spec PyProof.Rows
section
variable{X:Cx}
end
end L2
namespace RG
open PySem PySem.Spec PyProof.Rows
section
variable{prog:Program}{w:World}{A:Around}{E:Value->Shared->Prop}{s:Shared}
variable{I:Addr}{fp:List Addr}{n:Nat}{P:Nat->Value->Prop}{St:Nat->Heap->Prop}{T:String}
end
end RG
namespace RG
open PySem PySem.Spec PyProof.Rows
section
variable{prog:Program}{w:World}{A:Around}{E:Value->Shared->Prop}{s:Shared}
end
end RG
namespace L2
open PySem PySem.Spec PyProof.Rows PySem.W RG
section
variable{X:Cx}{e:Expr}{te:TE}{pos pos2 pos3 p p2 p3:Pos}
end
end L2
namespace L2
open PySem PySem.Spec PyProof.Rows PySem.W
section
variable{X:Cx}{pins:List (Addr×Obj)}{σ:List (Option V)}{H:Hp}{s:Shared}
theorem Inv.freeze{d:Addr}{o:Obj}{u:HO}(I:Inv X pins σ H s)(h:H d=some u)(n1:∀xs,u≠ .tup xs)(n2:∀o' u',u≠ .frz o' u')(n3:∀ps,u≠ .tbl ps)(n4:∀a,u≠ .own a)(ho:s.heap.get? d=some o):Inv X pins σ (upd H d (.frz o u)) s:=by
 have ne:∀{b:Addr}{v:HO},H b=some v->v≠u->b≠d:=fun{b v}e hv z=>by
  rw[z,h]at e
  exact hv (Option.some.inj e).symm
 have kt:∀(b:Addr)(xs:List V),H b=some (.tup xs)->upd H d (.frz o u) b=some (.tup xs):=fun b xs e=>by
  rw[J0 (ne e fun z=>n1 xs z.symm)]
  exact e
 have ko:∀(a b:Addr),H b=some (.own a)->upd H d (.frz o u) b=some (.own a):=fun a b e=>by
  rw[J0 (ne e fun z=>n4 a z.symm)]
  exact e
 refine I.step (h':=s.heap) (g':=s.gens) (d':=s.drawn) (t':=s.toks) (ch:=[]) (fun _ z=>nomatch z) (fun b ob _ _ _ e _=>e) (fun b ob _ _ _ e _=>⟨ob.slots,e⟩)
  (fun b ob _ _ n=>by rw[J0 (fun z=>by rw[z,h]at n;cases n)];exact n) (fun b ob _ e=>⟨ob,e⟩) kt
  (fun b ob v e=>by rw[J0 (ne e fun z=>n2 ob v z.symm)];exact e) (fun b ps e=>⟨#[],by rw[J0 (ne e fun z=>n3 ps z.symm),e];simp⟩) (fun m hm=>hm) (fun b v e=>?_) I.bare
 by_cases hb:b=d
 ·subst hb
  rw[G7]at e
  cases e
  exact⟨ho,(I.hok b u h).stay (fun c w _ q=>q) (fun c q=>ko b c q) kt⟩
 ·rw[J0 hb]at e
  exact(I.hok b v e).stay (fun c w _ q=>q) (fun c q=>ko b c q) kt
end
noncomputable def ItD (d:Addr) (o:Obj) (u:HO) (ks:List V):It:=⟨fun i H=>H d=some (.frz o u)/\i < ks.length,fun i H x H'=>H'=H/\ks[i]?=some x,fun i H=>H d=some (.frz o u)/\ks.length<=i⟩
theorem a9C{P:Program}{w:World}{K:W.Frag}{tg:Expr}{d it:Addr}{o:Obj}{u:HO}{ks:List V}{es:Array DictEntry}{ep:Nat}(hx:o.ExactDict)(hd:o.data= .dict es ep)(hl:ks.length=es.size)(hk:∀(i:Nat)(k:V),ks[i]?=some k->∃e:DictEntry,es[i]?=some e/\W7 k e.key):
  a7X P w K tg (ItD d o u ks) [it] it (fun i h=>h.IsKeyIter it d i es.size ep)where
 mem:=by simp
 obj:=fun i h st b hb=>by
  have z:b=it:=by simpa using hb
  subst z
  obtain⟨oi,ei,ci,di⟩:=st
  exact⟨oi,ei,fun v y=>by rw[di]at y;cases y⟩
 keep:=fun i h h' st kp=>st.at fun ob e=>kp it (by simp) ob e
 item:=by
  intro X hP hw hK hc i pins s σ H E I hf st hg
  subst hP hw hK
  obtain⟨hfz,hi⟩:=hg
  have hod:s.heap.get? d=some o:=(show Z4 X.prog X.w H s.heap d (.frz o u)from I.hok d _ hfz).1
  obtain⟨k,hki⟩:∃k,ks[i]?=some k:=⟨ks[i],by simp[hi]⟩
  obtain⟨e,he,hr⟩:=hk i k hki
  obtain⟨f0,f1,f2,f3,f4,f5⟩:=hf it (by simp)
  refine b2c st ⟨o,hod,hx,hd⟩ he fun h' st' sb=>?_
  have I1:Inv X pins σ H {s with heap:=h'}:=I.turned (t':=s.toks) (fun b ob hb e=>(sb.2 b hb).trans e) f0 f1 f3 f4 f5
  obtain⟨oi,ei,ci,di⟩:=id st'
  exact⟨e.key,rfl,a7B (s:={s with heap:=h'}) ei ci di (by decide) ⟨k,H,I1,hr,⟨rfl,hki⟩,st',fun b hb=>(hf b hb).1⟩⟩
 done:=by
  intro X hP hw hK hc i pins s σ H E I hf st hg
  subst hP hw hK
  obtain⟨hfz,hi⟩:=hg
  have hod:s.heap.get? d=some o:=(show Z4 X.prog X.w H s.heap d (.frz o u)from I.hok d _ hfz).1
  obtain⟨f0,f1,f2,f3,f4,f5⟩:=hf it (by simp)
  exact b1v (I.ok.hd hc) st ⟨o,hod,hx,hd⟩ (by simp;omega) fun h' eb=>⟨rfl,I.turned (t':=s.toks) (fun b ob hb e=>eb b ob hb e) f0 f1 f3 f4 f5⟩
 self:=fun _ _ _ _ _ st h=>wpAny_pyIter_keyiter st h
section
variable{X:Cx}{tg:Expr}
theorem b0x{H:Hp}{h:Heap}{d:Addr}{kvs:List (List Key×V)}(ok:Z4 X.prog X.w H h d (.dT kvs)):∃(o:Obj)(es:Array DictEntry)(ep:Nat)(vs:List V),h.get? d=some o/\o.ExactDict/\o.data= .dict es ep/\(d==sysModules)=false/\Paired (a9s H) vs kvs/\vs.length=es.size/\∀(i:Nat)(k:V),vs[i]?=some k->∃e:DictEntry,es[i]?=some e/\W7 k e.key:=by
 obtain⟨z,lo,xs,rel,o,es,ep,h1,h2,h3,h4,h5⟩:=ok
 have rel':KT H kvs xs:=rel
 have l1:kvs.length=xs.length:=AF rel
 have l2:es.size=xs.length:=by rw[<-Array.length_toList,h4,AI]
 have hget:∀i,es[i]?=(xs[i]?).map (entryOfKey (tupleKind (E8 X.prog X.w))):=fun i=>by
  rw[<-Array.getElem?_toList,h4,List.getElem?_map]
 refine⟨o,es,ep,xs.map fun x=>V.ref x.2.1,h1,h2,h3,lo,?_,by rw[AI,l2],fun i k e=>?_⟩
 ·have:∀{kvs:List (List Key×V)}{xs:List (List Key×Addr×Value)},KT H kvs xs->Paired (a9s H) (xs.map fun x=>V.ref x.2.1) kvs:=by
   intro kvs xs r
   induction r with
   | nil=>exact .nil
   | cons a _ ih=>exact .cons ⟨_,rfl,a.2.1⟩ ih
  exact this rel'
 ·rw[List.getElem?_map]at e
  cases hx:xs[i]? with
  | none=>rw[hx]at e;cases e
  | some x=>
   rw[hx]at e
   have ek:V.ref x.2.1=k:=Option.some.inj e
   refine⟨entryOfKey (tupleKind (E8 X.prog X.w)) x,by rw[hget,hx];rfl,?_⟩
   rw[<-ek]
   rfl
noncomputable def b3B (te:TE):TI:=fun σ H R=>te σ H fun x H1=>∃d kvs,x= .ref d/\H1 d=some (.dT kvs)/\∀o vs,Paired (a9s H1) vs kvs->R (ItD d o (.dT kvs) vs) (upd H1 d (.frz o (.dT kvs)))
theorem b2f{l:Expr}{tl:TE}(hl:PE X l tl):PI X tg l (b3B tl):=by
 intro pins s σ H R I h
 refine thn (hl pins s σ H _ I h) fun v s1⟨x,H1,I1,r1,q1⟩=>?_
 obtain⟨d,kvs,e,hd,q⟩:=q1
 subst e
 cases r1
 obtain⟨o,es,ep,vs,h1,h2,h3,lo,hp,hlen,hks⟩:=b0x (X:=X) (I1.hok d _ hd)
 have I2:=I1.freeze hd (fun _ z=>nomatch z) (fun _ _ z=>nomatch z) (fun _ z=>nomatch z) (fun _ z=>nomatch z) h1
 refine b1X lo ⟨o,h1,h2,h3⟩ ?_
 refine⟨s1.heap.objs.size,[s1.heap.objs.size],_,_,_,rfl,I2.kept (t':=s1.toks) fun b ob e=>AC _ e,a9C h2 h3 hlen hks,⟨_,AG _ rfl,rfl,rfl⟩,fun b hb=>?_,q o vs hp⟩
 have z:b=s1.heap.objs.size:=by simpa using hb
 subst z
 exact I2.fpOk (AD _) (I2.hok.fresh (AD _))
end
theorem b0M{d:Addr}{o:Obj}{u:HO}{ks:List V}{g:TG}{tb:TS}{D:a1T}{σ:St}{H:Hp}(Pv:Nat->St->Hp->Prop)(h0:Pv 0 σ H)(hl:∀i σ H,i<=ks.length->Pv i σ H->H d=some (.frz o u))(hs:∀(i:Nat)(k:V)σ H,ks[i]?=some k->Pv i σ H->g k σ H fun σ2 H2=>tb {D with nx:=Pv (i+1),ct:=Pv (i+1),bk:=D.nx} σ2 H2)(hd:∀σ H,Pv ks.length σ H->D.nx σ H):
  ∃W:Nat->Nat->St->Hp->Prop,(∃m,W 0 m σ H)/\∀i m σ H,W i m σ H->
   ((ItD d o u ks).stop i H/\D.nx σ H)\/((ItD d o u ks).go i H/\∃N:St->Hp->Prop,(∀σ' H',N σ' H'->∃m',m' < m/\W (i+1) m' σ' H')/\∀y H',(ItD d o u ks).yld i H y H'->g y σ H' fun σ2 H2=>tb {D with nx:=N,ct:=N,bk:=D.nx} σ2 H2):=by
 refine⟨fun i m σ H=>m=ks.length - i/\i<=ks.length/\Pv i σ H,⟨_,rfl,Nat.zero_le _,h0⟩,?_⟩
 rintro i m σ H ⟨rfl,hi,p⟩
 have q:=hl i σ H hi p
 by_cases hlt:i < ks.length
 ·refine .inr ⟨⟨q,hlt⟩,Pv (i+1),fun σ' H' p'=>⟨ks.length - (i+1),by omega,rfl,hlt,p'⟩,?_⟩
  rintro y H' ⟨rfl,hy⟩
  exact hs i y σ _ hy p
 ·have e:i=ks.length:=by omega
  subst e
  exact .inl ⟨⟨q,AD _⟩,hd σ H p⟩
end L2
namespace L2
open PySem PySem.Spec PyProof.Rows
section
variable{X:Cx}
end
end L2
namespace L2
open PySem PySem.Spec PyProof.Rows
noncomputable def slP (x:Str) (lo hi:Option Int):Str:=if(Builtin.Str.strSliceIndices lo hi 1 x.length).length=x.length then x else⟨((Builtin.Str.strSliceIndices lo hi 1 x.length).filterMap (x.cps[·]?)).toArray⟩
section
variable{X:Cx}
theorem a8R:SlR X (fun x lo hi H Q=>∃y:Str,x= .str y/\y.length<=1000/\Q (.str (slP y lo hi)) H):=by
 intro pins s σ H x v vl vu lo hi sl Q I rx hs pl pu h
 obtain⟨y,rfl,hy,q⟩:=h
 obtain⟨t,rfl⟩:=rx
 have hsl:sizeLine=16777216:=sizeLine_eq
 refine⟨"str",_,PySem.F.slot_str_getitem.lookup,typeIs_str _ _ _,?_⟩
 have key:∀(l u:Option (Int×Tok)),l.map (·.1)=lo->u.map (·.1)=hi->s.heap.IsSlice sl l u none->wpAny (model X.prog X.w) X.A (getItem (.str y t) (.ref sl)) (EP X pins σ Q) X.xe s:=fun l u el eu hs=>by
  refine wpAny_getItem_str_slice (l:=l) (u:=u) (st:=none) hs rfl ?_
  have hp:slicePicked y l u none=Builtin.Str.strSliceIndices lo hi 1 y.length:=by
   unfold slicePicked
   rw[el,eu]
   rfl
  unfold sliceMade
  rw[hp]
  have hle:=indices_len_le lo hi y.length
  unfold slP at q
  by_cases hw:(Builtin.Str.strSliceIndices lo hi 1 y.length).length=y.length
  ·rw[if_pos hw]at q
   rw[if_pos (by simp[hw])]
   exact⟨.str y,H,I,⟨_,rfl⟩,q⟩
  ·rw[if_neg hw]at q
   rw[if_neg (by simp[hw])]
   refine⟨?_,.str _,H,I.tok _,⟨_,rfl⟩,q⟩
   show(((Builtin.Str.strSliceIndices lo hi 1 y.length).filterMap (y.cps[·]?)).toArray).size<=sizeLine
   have:=List.length_filterMap_le (y.cps[·]?) (Builtin.Str.strSliceIndices lo hi 1 y.length)
   simp only[List.size_toArray]
   omega
 cases pl<;>cases pu
 ·exact key none none rfl rfl hs
 ·exact key none (some (_,_)) rfl rfl hs
 ·exact key (some (_,_)) none rfl rfl hs
 ·exact key (some (_,_)) (some (_,_)) rfl rfl hs
end
end L2
namespace L2
open PySem PySem.Spec PyProof.Rows
noncomputable def a0W (K:W.Frag) (C:Addr) (m qual:Str) (st:Stmt):Prop:=∃f fd,Fun K m qual st f fd/\b0z K C m f
noncomputable def b2T (K:W.Frag) (C:Addr) (qual:Str) (st:Stmt):Prop:=∃f fd,Fun K "__init__" qual st f fd/\Mk K C f
theorem Z1{K:W.Frag}{C:Addr}{m qual:Str}{st:Stmt}{f:Addr}{oc:Value}{od an:Option Addr}{osl:Array (Option Value)}{kV doc pm cdv ct:Value}
  (a:W.findIn K (.ref C) m=some (some (.ref f)))(i:W.isFn K (.ref f)=true)(l:K.lookup f=some ⟨oc,od,.func (W.fnOf m qual (R1 st) (R0 st) (I9 st) .none kV doc pm an cdv ct),osl⟩)
  (c:W.codeIn K cdv qual=true)(k:W.keepIn K (.ref f)=true):a0W K C m qual st:=⟨f,_,a6A l c k,⟨a,i,k⟩⟩
theorem a9r{K:W.Frag}{C:Addr}{qual:Str}{st:Stmt}{f:Addr}{oc:Value}{od an:Option Addr}{osl:Array (Option Value)}{kV doc pm cdv ct:Value}
  (mk:W.makesIn K C=true)(a:W.findIn K (.ref C) "__init__"=some (some (.ref f)))(i:W.isFn K (.ref f)=true)(kc:W.keepIn K (.ref C)=true)(l:K.lookup f=some ⟨oc,od,.func (W.fnOf "__init__" qual (R1 st) (R0 st) (I9 st) .none kV doc pm an cdv ct),osl⟩)
  (c:W.codeIn K cdv qual=true)(k:W.keepIn K (.ref f)=true):b2T K C qual st:=⟨f,_,a6A l c k,⟨mk,a,i,kc⟩⟩
structure MCl(P:Program)(w:World)(K:W.Frag)(mg:Str->Option Value)(base:Heap)(k:Nat)(C:Addr)(m:Str)(ps:List Str)(sp:Sp):Prop where
 ex:∃f fd,a2B P w K mg base CX0 k f fd ps sp/\b0z K C m f/\a1Y K fd ps []
structure ICl(P:Program)(w:World)(K:W.Frag)(mg:Str->Option Value)(base:Heap)(k:Nat)(x:Str)(C:Addr)(ps:List Str)(sp:Sp):Prop where
 ex:∃f fd,a2B P w K mg base CX0 k f fd ps sp/\Mk K C f/\mg x=some (.ref C)/\a1Y K fd ps []
section
variable{P:Program}{w:World}{K:W.Frag}{mg:Str->Option Value}{base:Heap}
theorem MCl.of{C:Addr}{m qual:Str}{st:Stmt}{N ps:List Str}{k:Nat}{sp:Sp}(T:a0W K C m qual st)(S:R6 N ps (I9 st))(len:∀vs H Q E,sp vs H Q E->vs.length=ps.length)
  (hb:∀(kV doc pm:Value)(an:Option Addr)(cdv ct:Value)(us:List Value),us.length=ps.length->bindArgs (W.fnOf m qual (R1 st) (R0 st) (I9 st) .none kV doc pm an cdv ct) ⟨us,[]⟩=pure (ps.zip us))
  (hbody:∀(f:Addr)(cdv:Value)(A:Around)(outer:List Env)(s:Shared)(H:Hp)(vs:List V)(Q:VK)(E:XK),M6 k (A.deeper (envOfC qual (I9 st) s.heap.objs.size f cdv))->sp vs H Q E->
   ∃t,PSs (a6z CX0 P w K mg base N qual (I9 st) f cdv A outer s H E).nox (R0 st) t/\t {nx:=fun _ H'=>Q .non H',rt:=Q} (a2n N vs) H):MCl P w K mg base (k+1) C m ps sp:=by
 obtain⟨f,fd,F,M⟩:=T
 exact⟨f,fd,F.ok S len (fun cdv A outer s H vs Q E=>hbody f cdv A outer s H vs Q E),M,F.binds hb⟩
theorem ICl.of{x:Str}{C:Addr}{qual:Str}{st:Stmt}{N ps:List Str}{k:Nat}{sp:Sp}(T:b2T K C qual st)(hm:mg x=some (.ref C))(S:R6 N ps (I9 st))(len:∀vs H Q E,sp vs H Q E->vs.length=ps.length)
  (hb:∀(kV doc pm:Value)(an:Option Addr)(cdv ct:Value)(us:List Value),us.length=ps.length->bindArgs (W.fnOf "__init__" qual (R1 st) (R0 st) (I9 st) .none kV doc pm an cdv ct) ⟨us,[]⟩=pure (ps.zip us))
  (hbody:∀(f:Addr)(cdv:Value)(A:Around)(outer:List Env)(s:Shared)(H:Hp)(vs:List V)(Q:VK)(E:XK),M6 k (A.deeper (envOfC qual (I9 st) s.heap.objs.size f cdv))->sp vs H Q E->
   ∃t,PSs (a6z CX0 P w K mg base N qual (I9 st) f cdv A outer s H E).nox (R0 st) t/\t {nx:=fun _ H'=>Q .non H',rt:=Q} (a2n N vs) H):ICl P w K mg base (k+1) x C ps sp:=by
 obtain⟨f,fd,F,M⟩:=T
 exact⟨f,fd,F.ok S len (fun cdv A outer s H vs Q E=>hbody f cdv A outer s H vs Q E),M,hm,F.binds hb⟩
end
section
variable{X:Cx}{j k:Nat}{C:Addr}{x m:Str}{ps:List Str}{sp:Sp}{o e:Expr}{es:List Expr}{ta:TE}{t:TA}{p pos apos:Pos}
theorem D0{pl:Sem Bool}(M:MCl X.prog X.w X.K X.mg X.base j C m ps sp)(c:Cls X.K C)(hr:M6 k X.A)(he:PE X o ta)(ha:PA X (e::es) t)(hjk:j<=k:=by decide)
  (hst:starEach (e::es) X.env=(false,eval e X.env)::starEach es X.env:=by rfl)(hpl:(backTo pos (starEach es X.env)).any (·.1)=false:=by rfl)
  (ht:eval (.Call (.Attribute o m apos) (e::es) [] pos) X.env=(do
   let ov<-eval o X.env
   standAt apos.atName
   let(f,first)<-holding [ov] (getMethod ov m pl)
   callWith pos f first (backTo pos (starEach (e::es) X.env)) (backToKw pos (keywordEach [] X.env))):=by rfl):
  PE X (.Call (.Attribute o m apos) (e::es) [] pos) (a8Q C m sp [] E0 ta t):=by
 obtain⟨f,fd,F,hm,hb⟩:=M.ex
 exact b2x he c hm F (hr.mono hjk) hb .nil a9i ha hst hpl ht
theorem b0R{pl:Sem Bool}(M:MCl X.prog X.w X.K X.mg X.base j C m ps sp)(c:Cls X.K C)(hr:M6 k X.A)(he:PE X o ta)(hjk:j<=k:=by decide)
  (ht:eval (.Call (.Attribute o m apos) [] [] pos) X.env=(do
   let ov<-eval o X.env
   standAt apos.atName
   let(f,first)<-holding [ov] (getMethod ov m pl)
   callWith pos f first (backTo pos (starEach [] X.env)) (backToKw pos (keywordEach [] X.env))):=by rfl):
  PE X (.Call (.Attribute o m apos) [] [] pos) (a8Q C m sp [] E0 ta b1l):=by
 obtain⟨f,fd,F,hm,hb⟩:=M.ex
 exact b0N he c hm F (hr.mono hjk) hb .nil a9i ht
theorem a9b(M:ICl X.prog X.w X.K X.mg X.base j x C ps sp)(hr:M6 k X.A)(hg:Gl X x)(ha:PA X (e::es) t)(hjk:j+1<=k:=by decide)(hdb:(x==("__debug__":Str))=false:=by decide)
  (he:starEach (e::es) X.env=(false,eval e X.env)::starEach es X.env:=by rfl)(hpl:(backTo pos (starEach es X.env)).any (·.1)=false:=by rfl):
  PE X (.Call (.Name x p) (e::es) [] pos) (b3l C sp [] E0 t):=by
 obtain⟨f,fd,F,M,hm,hb⟩:=M.ex
 exact b2W M F (hr.mono hjk) hg hm hb .nil a9i ha hdb he hpl
end
end L2
namespace L2
open PySem PySem.Spec PyProof.Rows PySem.W RV
noncomputable def Itv (K:W.Frag) (a:Addr) (n:Nat):It:=
 ⟨fun i H=>i < n/\∃xs,SqT K H a xs/\xs.length=n,fun i H x H'=>H'=H/\∀xs,SqT K H a xs->xs.length=n->xs.reverse[i]?=some x,fun i H=>n<=i⟩
theorem b1B{P:Program}{w:World}{K:W.Frag}{tg:Expr}(a it:Addr)(n:Nat):a7X P w K tg (Itv K a n) [it] it (fun i h=>i<=n/\a1c h it a ((n:Int) - 1 - (i:Int)))where
 mem:=by simp
 obj:=fun i h st b hb=>by
  have e:b=it:=by simpa using hb
  subst e
  obtain⟨_,o,e,c,d⟩:=st
  exact⟨o,e,fun v z=>by rw[d]at z;cases z⟩
 keep:=fun i h h' st k=>⟨st.1,st.2.move fun o e=>k it (by simp) o e⟩
 item:=by
  intro X hP hw hK hc i pins s σ H E I hf st hg
  subst hP hw hK
  obtain⟨hi,xs,hq,hn⟩:=hg
  obtain⟨its,rv,p,hz⟩:=I.tuple hq
  have hl:=rv.length
  obtain⟨x,hx⟩:∃x,xs[n - 1 - i]?=some x:=⟨xs[n - 1 - i]'(by omega),AW (by omega)⟩
  obtain⟨u,hu,ru⟩:=rv.get hx
  obtain⟨f0,f1,f2,f3,f4,f5⟩:=hf it (by simp)
  have hit:=st.2
  have e1:(n:Int) - 1 - (i:Int)=((n - 1 - i:Nat):Int):=by omega
  rw[e1]at hit
  refine a3C (its:=its.toArray) hit p (x:=u) (by simpa using hu) (by simp;omega) fun h' tk hit' same=>?_
  have I1:Inv X pins σ H {s with heap:=h',toks:=tk}:=I.turned (t':=tk) (fun b o hb e=>(same.2 b hb).trans e) f0 f1 f3 f4 f5
  have e2:((n - 1 - i:Nat):Int) - 1=(n:Int) - 1 - ((i+1:Nat):Int):=by omega
  rw[e2]at hit'
  obtain⟨o,e,c,d⟩:=id hit'
  refine⟨u,rfl,a7B (s:={s with heap:=h',toks:=tk}) e c d (by decide) ⟨x,H,I1,ru,⟨rfl,fun ys hy _=>?_⟩,⟨hi,hit'⟩,fun b hb=>(hf b hb).1⟩⟩
  rw[I.tuple_inj hy hq,List.getElem?_reverse (by omega),hn]
  exact hx
 done:=by
  intro X hP hw hK hc i pins s σ H E I hf st hg
  subst hP hw hK
  obtain⟨f0,f1,f2,f3,f4,f5⟩:=hf it (by simp)
  have hit:=st.2
  have hin:n<=i:=hg
  have e1:(n:Int) - 1 - (i:Int)= -1:=by have:=st.1;omega
  rw[e1]at hit
  exact a4X (I.ok.hd hc) hit fun h' tk eb=>⟨rfl,I.turned (t':=tk) (fun b o hb e=>eb b o hb e) f0 f1 f3 f4 f5⟩
 self:=fun _ _ _ _ _ st h=>a1H st.2 h
noncomputable def b5H (K:W.Frag) (te:TE):TI:=fun σ H R=>te σ H fun x H1=>∃a xs,x= .ref a/\SqT K H1 a xs/\R (Itv K a xs.length) H1
theorem b1x{X:Cx}{tg e:Expr}{te:TE}{p2 pos2:Pos}(gR:Gl X "reversed")(mR:X.mg "reversed"=none)(he:PE X e te)(hs:starEach [e] X.env=[(false,eval e X.env)]:=by rfl):PI X tg (.Call (.Name "reversed" p2) [e] [] pos2) (b5H X.K te):=by
 intro pins s σ H R I h
 refine b4e he gR mR hs I h (fun x H1 s1 a xs its tk I1 q1 ex hv htup hz ht=>?_) fun x H1 q=>by obtain⟨a,xs,e1,e2,_⟩:=q;exact⟨a,xs,e1,e2⟩
 obtain⟨a',ys,e1,e2,q⟩:=q1
 have ea:a=a':=V.ref.inj (ex.symm.trans e1)
 subst ea
 have exy:=I1.tuple_inj ht e2
 subst exy
 have hl:=hv.length
 have st:a1c (s1.heap.push (a9A a ((its.toArray.size:Int) - 1))) s1.heap.objs.size a ((its.toArray.size:Int) - 1):=⟨_,AG _ rfl,rfl,by simp[a9A]⟩
 refine a1H (s:={s1 with heap:=s1.heap.push (a9A a ((its.toArray.size:Int) - 1)),toks:=tk}) st ?_
 refine⟨s1.heap.objs.size,[s1.heap.objs.size],_,_,H1,rfl,I1.kept (t':=tk) fun b o e=>AC _ e,b1B a _ xs.length,⟨Nat.zero_le _,?_⟩,fun b hb=>?_,q⟩
 ·have e3:(xs.length:Int) - 1 - ((0:Nat):Int)=(its.toArray.size:Int) - 1:=by simp;omega
  rw[e3]
  exact st
 ·have e:b=s1.heap.objs.size:=by simpa using hb
  subst e
  exact I1.fpOk (AD _) (I1.hok.fresh (AD _))
theorem a8C{K:W.Frag}{a:Addr}{xs:List V}{g:TG}{tb:TS}{D:a1T}{σ:St}{H:Hp}(Pv:Nat->St->Hp->Prop)(h0:Pv 0 σ H)(hl:∀i σ H,i<=xs.length->Pv i σ H->SqT K H a xs)
  (hs:∀i x σ H,xs.reverse[i]?=some x->Pv i σ H->g x σ H fun σ2 H2=>tb {D with nx:=Pv (i+1),ct:=Pv (i+1),bk:=D.nx} σ2 H2)(hd:∀σ H,Pv xs.length σ H->D.nx σ H):
  ∃W:Nat->Nat->St->Hp->Prop,(∃m,W 0 m σ H)/\∀i m σ H,W i m σ H->
   ((Itv K a xs.length).stop i H/\D.nx σ H)\/((Itv K a xs.length).go i H/\∃N:St->Hp->Prop,(∀σ' H',N σ' H'->∃m',m' < m/\W (i+1) m' σ' H')/\∀x H',(Itv K a xs.length).yld i H x H'->g x σ H' fun σ2 H2=>tb {D with nx:=N,ct:=N,bk:=D.nx} σ2 H2):=by
 refine⟨fun i m σ H=>m=xs.length - i/\i<=xs.length/\Pv i σ H,⟨xs.length,by simp,Nat.zero_le _,h0⟩,?_⟩
 rintro i m σ H ⟨rfl,hi,p⟩
 have q:=hl i σ H hi p
 by_cases hlt:i < xs.length
 ·refine .inr ⟨⟨hlt,xs,q,rfl⟩,Pv (i+1),fun σ' H' p'=>⟨xs.length - (i+1),by omega,rfl,hlt,p'⟩,fun x H' y=>?_⟩
  obtain⟨e,y⟩:=y
  subst e
  exact hs i x σ _ (y xs q rfl) p
 ·have e:i=xs.length:=by omega
  subst e
  exact .inl ⟨AD _,hd σ H p⟩
end L2
namespace L2
open PySem PySem.Spec PyProof.Rows
noncomputable def kN (q:Str×Nat):List Key:=[Sum.inr q.1,Sum.inl ((q.2:Nat):Int)]
noncomputable def kS (q:Str×Str):List Key:=[Sum.inr q.1,Sum.inr q.2]
structure Nt where
 ps:List Pt
 km:Str×Str->Option (Str×Nat)
noncomputable def wF (rd md:Addr):List (Str×V):=[("rows",.ref rd),("makers",.ref md)]
structure GA where
 w:Addr
 n:Addr
 b:Addr
 l:Addr
 gv:Addr
 wt:Addr
 tr:Addr
noncomputable def gF (A:GA) (tk:Int) (ft:V):List (Str×V):=[("walk",.ref A.w),("numbers",.ref A.n),("taken",.int tk),("begun",.ref A.b),("loaded",.ref A.l),("given",.ref A.gv),("waiting",.ref A.wt),("trace",.ref A.tr),("fault",ft)]
section
variable{A:GA}{tk:Int}{ft:V}{rd md:Addr}
theorem b3b:(wF rd md).lookup ("rows":Str)=some (.ref rd):=by kernel_rfl
theorem a9T:(wF rd md).lookup ("makers":Str)=some (.ref md):=by kernel_rfl
theorem a4H:(wF rd md).lookup ("rows_of":Str)=none:=by kernel_rfl
theorem a0Y:(wF rd md).lookup ("key_of":Str)=none:=by kernel_rfl
theorem a2h:(wF rd md).lookup ("loads_of":Str)=none:=by kernel_rfl
theorem a4g:(wF rd md).lookup ("ahead_of":Str)=none:=by kernel_rfl
theorem b4R:(wF rd md).lookup ("go":Str)=none:=by kernel_rfl
theorem a1y:(gF A tk ft).lookup ("walk":Str)=some (.ref A.w):=by kernel_rfl
theorem a5i:(gF A tk ft).lookup ("numbers":Str)=some (.ref A.n):=by kernel_rfl
theorem a4x:(gF A tk ft).lookup ("taken":Str)=some (.int tk):=by kernel_rfl
theorem a5s:(gF A tk ft).lookup ("begun":Str)=some (.ref A.b):=by kernel_rfl
theorem a1d:(gF A tk ft).lookup ("given":Str)=some (.ref A.gv):=by kernel_rfl
theorem a1U:(gF A tk ft).lookup ("waiting":Str)=some (.ref A.wt):=by kernel_rfl
theorem a2S:(gF A tk ft).lookup ("trace":Str)=some (.ref A.tr):=by kernel_rfl
theorem a5t:(gF A tk ft).lookup ("fault":Str)=some ft:=by kernel_rfl
theorem a3r:(gF A tk ft).lookup ("load":Str)=none:=by kernel_rfl
theorem a3p:(gF A tk ft).lookup ("begin":Str)=none:=by kernel_rfl
theorem a7u:(gF A tk ft).lookup ("go_on":Str)=none:=by kernel_rfl
theorem a9Q:(gF A tk ft).lookup ("do_row":Str)=none:=by kernel_rfl
theorem a9I:(gF A tk ft).lookup ("is_off":Str)=none:=by kernel_rfl
theorem a5D:(gF A tk ft).lookup ("early_word":Str)=none:=by kernel_rfl
theorem a7O:(gF A tk ft).lookup ("enter":Str)=none:=by kernel_rfl
theorem a8h:(gF A tk ft).lookup ("do_work":Str)=none:=by kernel_rfl
theorem a8H:(gF A tk ft).lookup ("give":Str)=none:=by kernel_rfl
theorem a6X:(gF A tk ft).lookup ("next_told":Str)=none:=by kernel_rfl
theorem a2i:(gF A tk ft).lookup ("value_of":Str)=none:=by kernel_rfl
theorem a5k:(gF A tk ft).lookup ("thing_value":Str)=none:=by kernel_rfl
theorem a9z(v:Int):J8 "taken" (.int v) (gF A tk ft)=gF A v ft:=by kernel_rfl
theorem a5V(v:V):J8 "fault" v (gF A tk ft)=gF A tk v:=by kernel_rfl
theorem a8z:(gF A tk ft).length < 1000:=by show 9 < 1000;decide
end
structure a0C(CP:Addr)(H:Hp)(w:Addr)(N:Nt):Prop where
 ex:∃dx rd md kvr kvm,H w=some (.ins CP dx (wF rd md))/\H rd=some (.dK kvr)/\H md=some (.dT kvm)/\
  (∀n rs,(n,rs)∈N.ps->∃u ws,Y7 kvr (Sum.inr n)=some (.ref u)/\H u=some (.tup ws)/\a1B H ws rs)/\
  (∀p x q,N.km (p,x)=some q->∃t,Y7 kvm (kS (p,x))=some (.ref t)/\H t=some (.tup ((kN q).map kV)))
theorem Z3{CP:Addr}{H H':Hp}{w:Addr}{N:Nt}(h:a0C CP H w N)(s:J4 H H'):a0C CP H' w N:=by
 obtain⟨dx,rd,md,kvr,kvm,h1,h2,h3,h4,h5⟩:=h.ex
 refine⟨dx,rd,md,kvr,kvm,s _ _ h1,s _ _ h2,s _ _ h3,fun n rs hm=>?_,fun p x q hq=>?_⟩
 ·obtain⟨u,ws,e1,e2,e3⟩:=h4 n rs hm
  exact⟨u,ws,e1,s _ _ e2,e3.mono s.tups⟩
 ·obtain⟨t,e1,e2⟩:=h5 p x q hq
  exact⟨t,e1,s _ _ e2⟩
noncomputable def Fr (g:Addr) (A:GA) (H H':Hp):Prop:=∀a o,H a=some o->a≠g->a≠A.b->a≠A.l->a≠A.gv->a≠A.wt->a≠A.tr->H' a=some o
theorem Fr.refl(g:Addr)(A:GA)(H:Hp):Fr g A H H:=fun _ _ e _ _ _ _ _ _=>e
theorem Fr.trans{g:Addr}{A:GA}{H H1 H2:Hp}(h:Fr g A H H1)(k:Fr g A H1 H2):Fr g A H H2:=fun a o e h1 h2 h3 h4 h5 h6=>k a o (h a o e h1 h2 h3 h4 h5 h6) h1 h2 h3 h4 h5 h6
theorem J4.fr{H H':Hp}(s:J4 H H')(g:Addr)(A:GA):Fr g A H H':=fun a o e _ _ _ _ _ _=>s a o e
noncomputable abbrev Wx:=Str×Nat×Rw
noncomputable abbrev Dd:=Str×Int×Str×Nat
noncomputable abbrev Ft:=Str×Str×Nat×Int
noncomputable def a6W (H:Hp) (v:V) (x:Wx):Prop:=∃t wh r,v= .ref t/\H t=some (.tup [.str x.1,.ref wh,.ref r])/\H wh=some (.tup [.str x.1,.int (x.2.1:Int)])/\O5 H r x.2.2
noncomputable def a2M (H:Hp) (v:V) (d:Dd):Prop:=∃t,v= .ref t/\H t=some (.tup [.str d.1,.int d.2.1,.str d.2.2.1,.int (d.2.2.2:Int)])
noncomputable def a5C (H:Hp) (v:V):Option Ft->Prop
 | none=>v= .non
 | some f=>∃t,v= .ref t/\H t=some (.tup [.str f.1,.str f.2.1,.int (f.2.2.1:Int),.int f.2.2.2])
theorem a6W.mono{H H':Hp}(s:U9 H H'){v:V}{x:Wx}(h:a6W H v x):a6W H' v x:=by
 obtain⟨t,wh,r,e,h1,h2,h3⟩:=h
 exact⟨t,wh,r,e,s _ _ h1,s _ _ h2,h3.mono s⟩
theorem a2M.mono{H H':Hp}(s:U9 H H'){v:V}{x:Dd}(h:a2M H v x):a2M H' v x:=by
 obtain⟨t,e,h1⟩:=h
 exact⟨t,e,s _ _ h1⟩
theorem a5C.mono{H H':Hp}(s:U9 H H'){v:V}{x:Option Ft}(h:a5C H v x):a5C H' v x:=by
 cases x with
 | none=>exact h
 | some f=>
  obtain⟨t,e,h1⟩:=h
  exact⟨t,e,s _ _ h1⟩
structure GS where
 tk:Nat
 bg:List Str
 gv:List (List Key×V)
 wt:List Wx
 tr:List Dd
 ft:Option Ft
structure Z2(CP CG:Addr)(H:Hp)(g:Addr)(A:GA)(N:Nt)(ns:List Int)(S:GS):Prop where
 ob:∃dx v,H g=some (.ins CG dx (gF A (S.tk:Int) v))/\a5C H v S.ft
 nm:H A.n=some (.tup (ns.map V.int))
 bg:H A.b=some (.dK (a1F S.bg))
 ld:H A.l=some (.dK [])
 gv:H A.gv=some (.dT S.gv)
 wt:∃vs,H A.wt=some (.lst vs)/\Paired (a6W H) vs S.wt
 tr:∃vs,H A.tr=some (.lst vs)/\Paired (a2M H) vs S.tr
 wk:a0C CP H A.w N
 n1:A.wt≠A.tr
 n2:A.b≠A.l
 n3:∀dx rd md,H A.w=some (.ins CP dx (wF rd md))->rd≠A.b/\rd≠A.l/\md≠A.gv
 gi:∀k v,Y7 S.gv k=some v->∃i:Int,v= .int i
 tkl:S.tk<=ns.length
theorem Z2.nw{CP CG:Addr}{H:Hp}{g:Addr}{A:GA}{N:Nt}{ns:List Int}{S:GS}(h:Z2 CP CG H g A N ns S):A.w≠g:=by
 obtain⟨dx,v,h1,_⟩:=h.ob
 obtain⟨dy,rd,md,_,_,h2,_⟩:=h.wk.ex
 intro z
 rw[z,h1]at h2
 have:=Option.some.inj h2
 injection this with _ _ e
 have:=congrArg List.length e
 simp[gF,wF]at this
theorem Z2.tups{CP CG:Addr}{H H':Hp}{g:Addr}{A:GA}{N:Nt}{ns:List Int}{S:GS}(h:Z2 CP CG H g A N ns S)(f:Fr g A H H'):U9 H H':=fun a xs e=>by
 obtain⟨dx,v,h1,_⟩:=h.ob
 obtain⟨vs,h2,_⟩:=h.wt
 obtain⟨us,h3,_⟩:=h.tr
 have h4:=h.bg
 have h5:=h.ld
 have h6:=h.gv
 refine f a _ e ?_ ?_ ?_ ?_ ?_ ?_<;>(intro z;subst z)
 ·rw[h1]at e;cases e
 ·rw[h4]at e;cases e
 ·rw[h5]at e;cases e
 ·rw[h6]at e;cases e
 ·rw[h2]at e;cases e
 ·rw[h3]at e;cases e
theorem Z2.walk{CP CG:Addr}{H H':Hp}{g:Addr}{A:GA}{N:Nt}{ns:List Int}{S:GS}(h:Z2 CP CG H g A N ns S)(f:Fr g A H H'):a0C CP H' A.w N/\∀dx rd md,H' A.w=some (.ins CP dx (wF rd md))->rd≠A.b/\rd≠A.l/\md≠A.gv:=by
 have T:=h.tups f
 have nw:=h.nw
 obtain⟨dx,rd,md,kvr,kvm,h1,h2,h3,h4,h5⟩:=h.wk.ex
 obtain⟨m1,m2,m3⟩:=h.n3 dx rd md h1
 obtain⟨dy,v,g1,_⟩:=h.ob
 obtain⟨vs,g2,_⟩:=h.wt
 obtain⟨us,g3,_⟩:=h.tr
 have g4:=h.bg
 have g5:=h.ld
 have g6:=h.gv
 have k1:H' A.w=some (.ins CP dx (wF rd md)):=by
  refine f _ _ h1 nw ?_ ?_ ?_ ?_ ?_<;>(intro z;rw[z]at h1)
  ·rw[g4]at h1;cases h1
  ·rw[g5]at h1;cases h1
  ·rw[g6]at h1;cases h1
  ·rw[g2]at h1;cases h1
  ·rw[g3]at h1;cases h1
 have k2:H' rd=some (.dK kvr):=by
  refine f _ _ h2 ?_ m1 m2 ?_ ?_ ?_<;>(intro z;rw[z]at h2)
  ·rw[g1]at h2;cases h2
  ·rw[g6]at h2;cases h2
  ·rw[g2]at h2;cases h2
  ·rw[g3]at h2;cases h2
 have k3:H' md=some (.dT kvm):=by
  refine f _ _ h3 ?_ ?_ ?_ m3 ?_ ?_<;>(intro z;rw[z]at h3)
  ·rw[g1]at h3;cases h3
  ·rw[g4]at h3;cases h3
  ·rw[g5]at h3;cases h3
  ·rw[g2]at h3;cases h3
  ·rw[g3]at h3;cases h3
 refine⟨⟨dx,rd,md,kvr,kvm,k1,k2,k3,fun n rs hm=>?_,fun p x q hq=>?_⟩,fun dx' rd' md' e=>?_⟩
 ·obtain⟨u,ws,e1,e2,e3⟩:=h4 n rs hm
  exact⟨u,ws,e1,T _ _ e2,e3.mono T⟩
 ·obtain⟨t,e1,e2⟩:=h5 p x q hq
  exact⟨t,e1,T _ _ e2⟩
 ·rw[k1]at e
  have:=Option.some.inj e
  injection this with _ _ e3
  have e4:rd=rd':=by injection e3 with e5 _;injection e5 with _ e6;exact V.ref.inj e6
  have e5:md=md':=by injection e3 with _ e6;injection e6 with e7 _;injection e7 with _ e8;exact V.ref.inj e8
  subst e4
  subst e5
  exact⟨m1,m2,m3⟩
theorem Z2.again{CP CG:Addr}{H H':Hp}{g:Addr}{A:GA}{N:Nt}{ns:List Int}{S S':GS}(h:Z2 CP CG H g A N ns S)(f:Fr g A H H')
  (ob:∃dx v,H' g=some (.ins CG dx (gF A (S'.tk:Int) v))/\a5C H' v S'.ft)(bg:H' A.b=some (.dK (a1F S'.bg)))(ld:H' A.l=some (.dK []))(gv:H' A.gv=some (.dT S'.gv))
  (wt:∃vs,H' A.wt=some (.lst vs)/\Paired (a6W H') vs S'.wt)(tr:∃vs,H' A.tr=some (.lst vs)/\Paired (a2M H') vs S'.tr)(gi:∀k v,Y7 S'.gv k=some v->∃i:Int,v= .int i)(tkl:S'.tk<=ns.length):Z2 CP CG H' g A N ns S':=
 ⟨ob,h.tups f _ _ h.nm,bg,ld,gv,wt,tr,(h.walk f).1,h.n1,h.n2,(h.walk f).2,gi,tkl⟩
theorem Z2.same{CP CG:Addr}{H H':Hp}{g:Addr}{A:GA}{N:Nt}{ns:List Int}{S:GS}(h:Z2 CP CG H g A N ns S)(s:J4 H H'):Z2 CP CG H' g A N ns S:=by
 obtain⟨dx,v,h1,h2⟩:=h.ob
 obtain⟨vs,h3,h4⟩:=h.wt
 obtain⟨us,h5,h6⟩:=h.tr
 exact h.again (s.fr g A) ⟨dx,v,s _ _ h1,h2.mono s.tups⟩ (s _ _ h.bg) (s _ _ h.ld) (s _ _ h.gv) ⟨vs,s _ _ h3,Paired.mapP h4 fun _ _ z=>z.mono s.tups⟩ ⟨us,s _ _ h5,Paired.mapP h6 fun _ _ z=>z.mono s.tups⟩ h.gi h.tkl
theorem Z2.apart{CP CG:Addr}{H:Hp}{g:Addr}{A:GA}{N:Nt}{ns:List Int}{S:GS}(h:Z2 CP CG H g A N ns S):g≠A.b/\g≠A.l/\g≠A.gv/\g≠A.wt/\g≠A.tr/\A.b≠A.gv/\A.b≠A.wt/\A.b≠A.tr/\A.l≠A.gv/\A.l≠A.wt/\A.l≠A.tr/\A.gv≠A.wt/\A.gv≠A.tr:=by
 obtain⟨dx,v,h1,_⟩:=h.ob
 obtain⟨vs,h2,_⟩:=h.wt
 obtain⟨us,h3,_⟩:=h.tr
 have h4:=h.bg
 have h5:=h.ld
 have h6:=h.gv
 refine⟨E9 h1 h4 (by intro z;cases z),E9 h1 h5 (by intro z;cases z),E9 h1 h6 (by intro z;cases z),E9 h1 h2 (by intro z;cases z),E9 h1 h3 (by intro z;cases z),E9 h4 h6 (by intro z;cases z),E9 h4 h2 (by intro z;cases z),E9 h4 h3 (by intro z;cases z),E9 h5 h6 (by intro z;cases z),E9 h5 h2 (by intro z;cases z),E9 h5 h3 (by intro z;cases z),E9 h6 h2 (by intro z;cases z),E9 h6 h3 (by intro z;cases z)⟩
section
variable{CP CG:Addr}{H:Hp}{g:Addr}{A:GA}{N:Nt}{ns:List Int}{S:GS}
theorem Z2.putGiven(h:Z2 CP CG H g A N ns S)(q:Str×Nat)(i:Int):Fr g A H (upd H A.gv (.dT (O2 S.gv (kN q) (.int i))))/\Z2 CP CG (upd H A.gv (.dT (O2 S.gv (kN q) (.int i)))) g A N ns {S with gv:=O2 S.gv (kN q) (.int i)}:=by
 have f:Fr g A H (upd H A.gv (.dT (O2 S.gv (kN q) (.int i)))):=fun a o e _ _ _ h4 _ _=>by rw[J0 h4];exact e
 have T:=h.tups f
 obtain⟨a1,a2,a3,a4,a5,a6,a7,a8,a9,a10,a11,a12,a13⟩:=h.apart
 obtain⟨dx,v,h1,h2⟩:=h.ob
 obtain⟨vs,h3,h4⟩:=h.wt
 obtain⟨us,h5,h6⟩:=h.tr
 refine⟨f,h.again f ⟨dx,v,by rw[J0 a3];exact h1,h2.mono T⟩ (by rw[J0 a6];exact h.bg) (by rw[J0 a9];exact h.ld) G7 ⟨vs,by rw[J0 a12.symm];exact h3,Paired.mapP h4 fun _ _ z=>z.mono T⟩ ⟨us,by rw[J0 a13.symm];exact h5,Paired.mapP h6 fun _ _ z=>z.mono T⟩ (fun k w e=>?_) h.tkl⟩
 have e':Y7 (O2 S.gv (kN q) (.int i)) k=some w:=e
 rw[a0p]at e'
 split at e'
 ·exact⟨i,(Option.some.inj e').symm⟩
 ·exact h.gi k w e'
theorem Z2.pushTrace(h:Z2 CP CG H g A N ns S){us:List V}{v:V}{d:Dd}(hu:H A.tr=some (.lst us))(hv:a2M H v d):Fr g A H (upd H A.tr (.lst (us++[v])))/\Z2 CP CG (upd H A.tr (.lst (us++[v]))) g A N ns {S with tr:=S.tr++[d]}:=by
 have f:Fr g A H (upd H A.tr (.lst (us++[v]))):=fun a o e _ _ _ _ _ h6=>by rw[J0 h6];exact e
 have T:=h.tups f
 obtain⟨a1,a2,a3,a4,a5,a6,a7,a8,a9,a10,a11,a12,a13⟩:=h.apart
 obtain⟨dx,w,h1,h2⟩:=h.ob
 obtain⟨vs,h3,h4⟩:=h.wt
 obtain⟨us',h5,h6⟩:=h.tr
 rw[hu]at h5
 cases h5
 exact⟨f,h.again f ⟨dx,w,by rw[J0 a5];exact h1,h2.mono T⟩ (by rw[J0 a8];exact h.bg) (by rw[J0 a11];exact h.ld) (by rw[J0 a13];exact h.gv) ⟨vs,by rw[J0 h.n1];exact h3,Paired.mapP h4 fun _ _ z=>z.mono T⟩ ⟨_,G7,Paired.snoc (Paired.mapP h6 fun _ _ z=>z.mono T) (hv.mono T)⟩ h.gi h.tkl⟩
theorem Z2.setWait(h:Z2 CP CG H g A N ns S){vs:List V}{ws:List Wx}(hv:Paired (a6W H) vs ws):Fr g A H (upd H A.wt (.lst vs))/\Z2 CP CG (upd H A.wt (.lst vs)) g A N ns {S with wt:=ws}:=by
 have f:Fr g A H (upd H A.wt (.lst vs)):=fun a o e _ _ _ _ h5 _=>by rw[J0 h5];exact e
 have T:=h.tups f
 obtain⟨a1,a2,a3,a4,a5,a6,a7,a8,a9,a10,a11,a12,a13⟩:=h.apart
 obtain⟨dx,w,h1,h2⟩:=h.ob
 obtain⟨us,h5,h6⟩:=h.tr
 exact⟨f,h.again f ⟨dx,w,by rw[J0 a4];exact h1,h2.mono T⟩ (by rw[J0 a7];exact h.bg) (by rw[J0 a10];exact h.ld) (by rw[J0 a12];exact h.gv) ⟨vs,G7,Paired.mapP hv fun _ _ z=>z.mono T⟩ ⟨us,by rw[J0 h.n1.symm];exact h5,Paired.mapP h6 fun _ _ z=>z.mono T⟩ h.gi h.tkl⟩
theorem Z2.setBegun(h:Z2 CP CG H g A N ns S)(l:List Str):Fr g A H (upd H A.b (.dK (a1F l)))/\Z2 CP CG (upd H A.b (.dK (a1F l))) g A N ns {S with bg:=l}:=by
 have f:Fr g A H (upd H A.b (.dK (a1F l))):=fun a o e _ h2 _ _ _ _=>by rw[J0 h2];exact e
 have T:=h.tups f
 obtain⟨a1,a2,a3,a4,a5,a6,a7,a8,a9,a10,a11,a12,a13⟩:=h.apart
 obtain⟨dx,w,h1,h2⟩:=h.ob
 obtain⟨vs,h3,h4⟩:=h.wt
 obtain⟨us,h5,h6⟩:=h.tr
 exact⟨f,h.again f ⟨dx,w,by rw[J0 a1];exact h1,h2.mono T⟩ G7 (by rw[J0 h.n2.symm];exact h.ld) (by rw[J0 a6.symm];exact h.gv) ⟨vs,by rw[J0 a7.symm];exact h3,Paired.mapP h4 fun _ _ z=>z.mono T⟩ ⟨us,by rw[J0 a8.symm];exact h5,Paired.mapP h6 fun _ _ z=>z.mono T⟩ h.gi h.tkl⟩
theorem Z2.setSelf(h:Z2 CP CG H g A N ns S){dx:Addr}{tk:Nat}{v:V}{ft:Option Ft}(hv:a5C H v ft)(ht:tk<=ns.length):Fr g A H (upd H g (.ins CG dx (gF A (tk:Int) v)))/\Z2 CP CG (upd H g (.ins CG dx (gF A (tk:Int) v))) g A N ns {S with tk:=tk,ft:=ft}:=by
 have f:Fr g A H (upd H g (.ins CG dx (gF A (tk:Int) v))):=fun a o e h1 _ _ _ _ _=>by rw[J0 h1];exact e
 have T:=h.tups f
 obtain⟨a1,a2,a3,a4,a5,a6,a7,a8,a9,a10,a11,a12,a13⟩:=h.apart
 obtain⟨vs,h3,h4⟩:=h.wt
 obtain⟨us,h5,h6⟩:=h.tr
 exact⟨f,h.again f ⟨dx,v,G7,hv.mono T⟩ (by rw[J0 a1.symm];exact h.bg) (by rw[J0 a2.symm];exact h.ld) (by rw[J0 a3.symm];exact h.gv) ⟨vs,by rw[J0 a4.symm];exact h3,Paired.mapP h4 fun _ _ z=>z.mono T⟩ ⟨us,by rw[J0 a5.symm];exact h5,Paired.mapP h6 fun _ _ z=>z.mono T⟩ h.gi ht⟩
end
noncomputable def lk (N:Nt) (gv:List (List Key×V)) (p x:Str):Option V:=(N.km (p,x)).bind fun q=>Y7 gv (kN q)
noncomputable def ivl:Option V->Int
 | some (.int i)=>i
 | _=>0
noncomputable def tv (N:Nt) (gv:List (List Key×V)) (p:Str):Th->Int
 | .num n=>n
 | .nam x=>ivl (lk N gv p x)
noncomputable def a0y (N:Nt) (gv:List (List Key×V)) (p:Str) (ts:List (Int×Th)):Int:=ts.foldl (fun a t=>a+t.1*tv N gv p t.2) 0
theorem b0o(N:Nt)(gv:List (List Key×V))(p:Str)(ts:List (Int×Th))(t:Int×Th):a0y N gv p (ts++[t])=a0y N gv p ts+t.1*tv N gv p t.2:=by
 unfold a0y
 rw[List.foldl_append]
 rfl
noncomputable def a1D (N:Nt) (gv:List (List Key×V)) (p:Str):Rw->Bool
 | .say _ (some x)=>(lk N gv p x).isSome && decide (ivl (lk N gv p x)<=0)
 | .ask _ (some x)=>(lk N gv p x).isSome && decide (ivl (lk N gv p x)<=0)
 | _=>false
noncomputable def rdR:Rw->List (Int×Str)
 | .set _ ts=>U2 3 ts
 | .need ts=>U2 1 ts
 | .say ts none=>U2 1 ts
 | .say ts (some x)=>(2*(ts.length:Int)+1,x)::U2 1 ts
 | .ask _ (some x)=> [(3,x)]
 | _=> []
noncomputable def F6 (N:Nt) (gv:List (List Key×V)) (p:Str) (rw:Rw):Option Int:=((rdR rw).find? fun d=>!(lk N gv p d.2).isSome).map (·.1)
noncomputable def b4A:Rw->Option Str
 | .set o _=>some o
 | .take o=>some o
 | _=>none
noncomputable def sgR:Rw->List (Int×Th)
 | .set _ ts=>ts
 | .need ts=>ts
 | .say ts _=>ts
 | _=> []
noncomputable def W5 (p:Str) (rs:List Rw):List Wx:=rs.mapIdx fun i r=>(p,i,r)
noncomputable def a0z (N:Nt) (p:Str):List Rw:=((N.ps.find? fun q=>decide (q.1=p)).map (·.2)).getD []
noncomputable def a0B (N:Nt) (S:GS) (p:Str):GS:={S with bg:=a2c S.bg p,wt:=S.wt++(W5 p (a0z N p)).reverse}
noncomputable def F9 (N:Nt) (ns:List Int) (S:GS) (p:Str) (j:Nat):Rw->GS
 | .set o ts=>match N.km (p,o)with
  | some q=>{S with gv:=O2 S.gv (kN q) (.int (a0y N S.gv p ts))}
  | none=>S
 | .take o=>match N.km (p,o)with
  | some q=>{S with tk:=if S.tk=ns.length then S.tk else S.tk+1,gv:=O2 S.gv (kN q) (.int (ns.getD S.tk 0)),tr:=S.tr++[(("take":Str),ns.getD S.tk 0,p,j)]}
  | none=>S
 | .say ts _=>{S with tr:=S.tr++[(("say":Str),a0y N S.gv p ts,p,j)]}
 | .need ts=>if a0y N S.gv p ts<=0 then{S with ft:=some ("need",p,j,0)}else S
 | _=>S
noncomputable def a1j (N:Nt) (S:GS) (q:Str):GS:=if q∈S.bg then S else a0B N S q
noncomputable def a3j (N:Nt) (ns:List Int) (S:GS) (p:Str) (j:Nat):Rw->GS
 | .bring q _=>a1j N S q
 | .ask q _=>a1j N S q
 | .set o ts=>F9 N ns S p j (.set o ts)
 | .take o=>F9 N ns S p j (.take o)
 | .say ts w=>F9 N ns S p j (.say ts w)
 | .need ts=>F9 N ns S p j (.need ts)
 | _=>S
noncomputable def a4h (N:Nt) (ns:List Int) (S:GS) (p:Str) (j:Nat) (rw:Rw):GS:=
 if a1D N S.gv p rw=true then S else match F6 N S.gv p rw with
  | some w=>{S with ft:=some ("early",p,j,w)}
  | none=>a3j N ns S p j rw
theorem a3N{N:Nt}{ns:List Int}{S:GS}{p:Str}{j:Nat}{rw:Rw}(h:a1D N S.gv p rw=false)(k:F6 N S.gv p rw=none):a4h N ns S p j rw=a3j N ns S p j rw:=by
 unfold a4h
 rw[h,k]
 rfl
theorem a2I{N:Nt}{ns:List Int}{S:GS}{p:Str}{j:Nat}{rw:Rw}{w:Int}(h:a1D N S.gv p rw=false)(k:F6 N S.gv p rw=some w):a4h N ns S p j rw={S with ft:=some ("early",p,j,w)}:=by
 unfold a4h
 rw[h,k]
 rfl
theorem a4W{N:Nt}{ns:List Int}{S:GS}{p:Str}{j:Nat}{rw:Rw}(h:a1D N S.gv p rw=true):a4h N ns S p j rw=S:=by
 unfold a4h
 rw[if_pos h]
end L2
namespace L2
open PySem PySem.Spec PyProof.Rows
end L2
namespace L2
open PySem
@[elab_as_elim] theorem len1 {α:Type} {p:List α->Prop} (us:List α) (hl:us.length=1) (h:∀a,p [a]):p us:=match us,hl with | [a],_=>h a
@[elab_as_elim] theorem len2 {α:Type} {p:List α->Prop} (us:List α) (hl:us.length=2) (h:∀a b,p [a,b]):p us:=match us,hl with | [a,b],_=>h a b
@[elab_as_elim] theorem len3 {α:Type} {p:List α->Prop} (us:List α) (hl:us.length=3) (h:∀a b c,p [a,b,c]):p us:=match us,hl with | [a,b,c],_=>h a b c
@[elab_as_elim] theorem len4 {α:Type} {p:List α->Prop} (us:List α) (hl:us.length=4) (h:∀a b c d,p [a,b,c,d]):p us:=match us,hl with | [a,b,c,d],_=>h a b c d
end L2
namespace L2
open PySem PySem.Spec PyProof.Rows
section
variable{X:Cx}
end
end L2
namespace L2
open PySem PySem.Spec PyProof.Rows
section
variable{X:Cx}
end
end L2
namespace L2
open PySem PySem.Spec PyProof.Rows
section
variable{prog:Program}{w:World}{A:Around}{E:Value->Shared->Prop}{s:Shared}
end
section
variable{X:Cx}
end
end L2
namespace L2
open PySem PySem.Spec PyProof.Rows
section
variable{X:Cx}
end
end L2
namespace L2
open PySem PySem.Spec PyProof.Rows PySem.W RG
open AutoSeq1 (wpAny_loadPart')
section
variable{prog:Program}{w:World}{A:Around}{E:Value->Shared->Prop}{s:Shared}
end
section
variable{X:Cx}{e:Expr}{te:TE}{pos pos3 p p3:Pos}
end
end L2
namespace L2
open PySem PySem.Spec PyProof.Rows PySem.W
section
variable{X:Cx}{e:Expr}{te:TE}{pos pos3 p p3:Pos}
end
end L2
namespace L2
open PySem PySem.Spec PyProof.Rows PySem.W
section
variable{prog:Program}{w:World}{A:Around}{R:Result->Shared->Prop}{it best:Addr}{fp wr:List Addr}{n:Nat}{P:Nat->Value->Prop}{St:Nat->Heap->Prop}
end
section
variable{X:Cx}
end
end L2
namespace L2
open PySem PySem.Spec PyProof.Rows
section
variable{X:Cx}
end
end L2
namespace L2
open PySem PySem.Spec PyProof.Rows
noncomputable def EqD (K:W.Frag) (H:Hp):Nat->V->V->Prop
 | 0,x,y=>x=y/\a1b x=true
 | n+1,x,y=>(x=y/\a1b x=true)\/∃a b xs ys,x= .ref a/\y= .ref b/\SqT K H a xs/\SqT K H b ys/\Paired (EqD K H n) xs ys
theorem b1o{xs:List V}{its:List Value}(r:W0 xs its){j:Nat}{x:V}(h:xs[j]?=some x)(hj:j < its.toArray.size):W7 x its.toArray[j]:=by
 obtain⟨w1,g1,rw1⟩:=r.get h
 have:its[j]?=some its.toArray[j]:=by simp at hj;simp[hj]
 rw[g1]at this
 rw[<-Option.some.inj this]
 exact rw1
theorem a2z{X:Cx}{pins:List (Addr×Obj)}{s:Shared}{σ:St}{H:Hp}{A:Around}{n:Nat}{xs ys:List V}{js js2:List Value}(hP:Paired (EqD X.K H n) xs ys)(q1:W0 xs js)(q2:W0 ys js2)
  (ih:∀x y v u,EqD X.K H n x y->W7 x v->W7 y u->SeqAt.EqAt A s v u true):∀j(j1:j < js.toArray.size)(j2:j < js2.toArray.size),SeqAt.EqAt A s js.toArray[j] js2.toArray[j] true:=by
 intro j j1 j2
 have m1:=q1.length
 have m2:=q2.length
 have k1:j < xs.length:=by simp at j1;omega
 obtain⟨y,hy,hd⟩:=Paired.get? hP (AW k1)
 exact ih _ _ _ _ hd (b1o q1 (AW k1) j1) (b1o q2 hy j2)
theorem a6q{X:Cx}{pins:List (Addr×Obj)}{s:Shared}{σ:St}{H:Hp}(I:Inv X pins σ H s):∀(n:Nat)(A:Around),A.units+n < cLine->∀x y v u,EqD X.K H n x y->W7 x v->W7 y u->SeqAt.EqAt A s v u true
 | 0,A,hu,x,y,v,u,h,rx,ry=>by
  obtain⟨rfl,f⟩:=h
  have:=a7c (A:=A) (s:=s) rx ry f f
  rw[a5q f]at this
  exact this
 | n+1,A,hu,x,y,v,u,h,rx,ry=>by
  rcases h with⟨rfl,f⟩ | ⟨a,b,xs,ys,rfl,rfl,ha,hb,hP⟩
  ·have:=a7c (A:=A) (s:=s) rx ry f f
   rw[a5q f]at this
   exact this
  ·cases rx
   cases ry
   by_cases e:a=b
   ·subst e
    exact SeqAt.EqAt.same _
   ·obtain⟨js,q1,pt1,_⟩:=I.tuple ha
    obtain⟨js2,q2,pt2,_⟩:=I.tuple hb
    have m1:=q1.length
    have m2:=q2.length
    have hl:=AF hP
    have R:=SeqAt.RcAt.tuples (A:=A) (e:=fun _=>true) (show s.heap.IsTuple a js.toArray from pt1) (show s.heap.IsTuple b js2.toArray from pt2) (by omega) (a2z (X:=X) (pins:=pins) (σ:=σ) hP q1 q2 (a6q I n A.in1 (by show A.units+1+n < cLine;omega)))
    have e2:((List.range (min js.toArray.size js2.toArray.size)).all (fun _=>true) && js.toArray.size==js2.toArray.size)=true:=by
     have:js.toArray.size=js2.toArray.size:=by simp;omega
     simp[this]
    rw[e2]at R
    exact SeqAt.EqAt.of_refs e R
theorem b3W{X:Cx}(n:Nat)(hu:X.A.units+1+n < cLine):OpR X (compareOp .NotEq) (fun x y H Q=>∃a b xs ys,x= .ref a/\y= .ref b/\SqT X.K H a xs/\SqT X.K H b ys/\Paired (EqD X.K H n) xs ys/\Q (.bl false) H):=by
 intro pins s σ H x y v u Q I rx ry h
 obtain⟨a,b,xs,ys,rfl,rfl,ha,hb,hP,q⟩:=h
 cases rx
 cases ry
 obtain⟨its,r1,p1,_⟩:=I.tuple ha
 obtain⟨its2,r2,p2,_⟩:=I.tuple hb
 have hl1:=r1.length
 have hl2:=r2.length
 have hl:=AF hP
 refine SeqAt.RcNeAt.tuples (e:=fun _=>true) (show s.heap.IsTuple a its.toArray from p1) (show s.heap.IsTuple b its2.toArray from p2) (by omega) (a2z (X:=X) (pins:=pins) (σ:=σ) hP r1 r2 (a6q I n X.A.in1 hu)) X.prog X.w _ _ ?_
 have e:(!((List.range (min its.toArray.size its2.toArray.size)).all (fun _=>true) && its.toArray.size==its2.toArray.size))=false:=by
  have:its.toArray.size=its2.toArray.size:=by simp;omega
  simp[this]
 rw[e]
 exact⟨.bl false,H,I,rfl,q⟩
theorem b4h{X:Cx}(n:Nat)(hu:X.A.units+1+n < cLine):OpR X (compareOp .Eq) (fun x y H Q=>∃a b xs ys,x= .ref a/\y= .ref b/\SqT X.K H a xs/\SqT X.K H b ys/\Paired (EqD X.K H n) xs ys/\Q (.bl true) H):=by
 intro pins s σ H x y v u Q I rx ry h
 obtain⟨a,b,xs,ys,rfl,rfl,ha,hb,hP,q⟩:=h
 cases rx
 cases ry
 obtain⟨its,r1,p1,_⟩:=I.tuple ha
 obtain⟨its2,r2,p2,_⟩:=I.tuple hb
 have hl1:=r1.length
 have hl2:=r2.length
 have hl:=AF hP
 refine SeqAt.eq_tupleAt (e:=fun _=>true) (show s.heap.IsTuple a its.toArray from p1) (show s.heap.IsTuple b its2.toArray from p2) (by omega) (a2z (X:=X) (pins:=pins) (σ:=σ) hP r1 r2 (a6q I n X.A.in1 hu)) ?_
 have e:((List.range (min its.toArray.size its2.toArray.size)).all (fun _=>true) && its.toArray.size==its2.toArray.size)=true:=by
  have:its.toArray.size=its2.toArray.size:=by simp;omega
  simp[this]
 rw[e]
 exact⟨.bl true,H,I,rfl,q⟩
end L2
namespace RL
open PySem PySem.Spec PyProof.Rows
theorem b0y:Manifest.owners.lookup (String.ofList ['r', 'o', 't', 'a', 'r', 'e', 't', 'i', 'e', 's', 'r', 'e', 'v', 'e', 'r', '_', 't', 's', 'i', 'l'].reverse)=some Manifest.sig_list_reverseiterator:=by kernel_rfl
theorem a3e:Slot "list_reverseiterator" "__next__" "list_reverseiterator.__next__":=
 .of (owner:="list_reverseiterator") (n:="__next__") (by rw[typeLookup_type,builtinLookup_eq_fast];kernel_rfl) (by decide +kernel) (by decide +kernel) (by decide +kernel)
  (by first | exact .inl (by decide +kernel) | exact .inr (by decide +kernel)) (by rw[isSubtype_type];kernel_rfl)
theorem a8Z:Slot "list_reverseiterator" "__iter__" "list_reverseiterator.__iter__":=
 .of (owner:="list_reverseiterator") (n:="__iter__") (by rw[typeLookup_type,builtinLookup_eq_fast];kernel_rfl) (by decide +kernel) (by decide +kernel) (by decide +kernel)
  (by first | exact .inl (by decide +kernel) | exact .inr (by decide +kernel)) (by rw[isSubtype_type];kernel_rfl)
theorem a2W:entryFor table "list_reverseiterator.__next__"=some Builtin.«list_reverseiterator.__next__»:=entryFor_of_tree (by kernel_rfl)
theorem a6o:entryFor table "list_reverseiterator.__iter__"=some Builtin.«dict_keyiterator.__iter__»:=
 entryFor_alias (id':="dict_keyiterator.__iter__") (by kernel_rfl) (by first | rfl | decide +kernel | (unfold String.splitOn;simp +decide [String.splitOnAux])) (by decide +kernel) (by kernel_rfl)
theorem a3s(a:Value):argsOk "list_reverseiterator.__next__" ⟨[a],[]⟩:=by
 unfold argsOk;rw[signature?_of (id:="list_reverseiterator.__next__") (n:=['_', '_', 't', 'x', 'e', 'n', '_', '_']) (o:=['r', 'o', 't', 'a', 'r', 'e', 't', 'i', 'e', 's', 'r', 'e', 'v', 'e', 'r', '_', 't', 's', 'i', 'l']) (by kernel_rfl) b0y];kernel_rfl
theorem a6x(a:Value):argsOk "list_reverseiterator.__iter__" ⟨[a],[]⟩:=by
 unfold argsOk;rw[signature?_of (id:="list_reverseiterator.__iter__") (n:=['_', '_', 'r', 'e', 't', 'i', '_', '_']) (o:=['r', 'o', 't', 'a', 'r', 'e', 't', 'i', 'e', 's', 'r', 'e', 'v', 'e', 'r', '_', 't', 's', 'i', 'l']) (by kernel_rfl) b0y];kernel_rfl
theorem b4c:isSubtype (.type "list_reverseiterator") (.type "reversed")=pure false:=by rw[isSubtype_type];kernel_rfl
noncomputable def a8x (t:Addr) (i:Int):Obj:={cls:= .type "list_reverseiterator",data:= .fields #[.ref t,rawInt i]}
noncomputable def a0L (h:Heap) (a t:Addr) (i:Int):Prop:=∃o,h.get? a=some o/\o.cls= .type "list_reverseiterator"/\o.data= .fields #[.ref t,rawInt i]
theorem a0L.move{h h':Heap}{a t:Addr}{i:Int}(x:a0L h a t i)(e:∀o,h.get? a=some o->h'.get? a=some o):a0L h' a t i:=by
 obtain⟨o,ho,r⟩:=x
 exact⟨o,e o ho,r⟩
section
variable{prog:Program}{w:World}{A:Around}{E:Value->Shared->Prop}{s:Shared}
theorem a0L.ty{a t:Addr}{i:Int}(x:a0L s.heap a t i):s.TypeIs (.ref a) "list_reverseiterator":=by
 obtain⟨o,ho,hc,_⟩:=x
 exact⟨o,ho,hc⟩
theorem b0u{r:Addr}{its:Array Value}{Q:Value->Shared->Prop}(hr:s.heap.IsList r its)
  (q:Q (.ref s.heap.objs.size) {s with heap:=s.heap.push (a8x r ((its.size:Int) - 1))}):wpAny (model prog w) A (call (.type "reversed") [.ref r]) Q E s:=by
 have ty:s.TypeIs (.ref r) "list":=hr.typeIs
 refine callType_other (U:="list_reverseiterator") (Q₁:=fun obj s₁=>obj= .ref s.heap.objs.size/\s₁={s with heap:=s.heap.push (a8x r ((its.size:Int) - 1))}) (by decide +kernel) F.create_reversed ⟨_,_,F.mro_reversed⟩ F.made_reversed b4c (F.typeCall_reversed_1 _) ?_ ?_
 ·refine codeAny_of_tree ?_
  show wpAny _ A.in1.in1 (checkBuiltinCall "reversed.__new__" ⟨[.type "reversed",.ref r],[]⟩ >>= fun _=>again (.builtin "reversed.__new__" ⟨[.type "reversed",.ref r],[]⟩)) _ _ s
  refine AA (wpAny_of_eq (F.newCall_reversed_1 _) (AB ⟨plainId_quiet F.plain_reversed_new _,codeAny_builtin F.entry_reversed_new ?_⟩))
  rw[Around.under_plainId F.plain_reversed_new _]
  unfold Builtin.«reversed.__new__»
  refine AA (wpAny_of_eq (newClass_reversed _) ?_)
  try dsimp only
  refine AA (wpAny_of_eq (a:=()) (by first | rfl | kernel_rfl) ?_)
  refine AA (wpAny_of_eq (a:=()) (by first | rfl | kernel_rfl) ?_)
  try dsimp only
  refine AA (wpAny_specialOf ty F.slot_list_reversed.lookup ?_)
  try dsimp only
  refine AA (wpAny_of_eq (F.slot_list_reversed.bind _) ?_)
  try dsimp only
  rw[if_neg (show¬((Value.builtin "list.__reversed__"==Value.none)=true)from AE)]
  refine AA (wpAny_rule ?_)
  refine AA (m:=runValue (.call (.builtin "list.__reversed__") ⟨[.ref r],[]⟩)) (show wpAny _ _ (call (.builtin "list.__reversed__") [.ref r]) _ _ _ from wpAny_call_entry F.slot_list_reversed ty F.entry_list_reversed ?_ (F.args_list_reversed_1 _))
  unfold Builtin.«list.__reversed__»
  refine AA (wpAny_of_eq (a:=Value.ref r) rfl ?_)
  obtain⟨o,ho,hc,n,hd⟩:=id hr
  refine AA (wpAny_listItems ho hd ?_)
  refine AA (wpAny_newObj_type (AB ⟨_,rfl,?_⟩))
  exact AB ⟨rfl,rfl⟩
 ·rintro obj s₁ ⟨rfl,rfl⟩
  exact⟨⟨_,AG _ rfl,rfl⟩,q⟩
theorem a3C{it t:Addr}{i:Nat}{its:Array Value}{x:Value}{Q:Option Value->Shared->Prop}(hit:a0L s.heap it t (i:Int))(ht:s.heap.IsList t its)(hx:its[i]?=some x)
  (q:∀h' tk,a0L h' it t ((i:Int) - 1)->Heap.SameBut it s.heap h'->Q (some x) {s with heap:=h',toks:=tk}):wpAny (model prog w) A (pyNext (.ref it)) Q E s:=by
 obtain⟨o,ho,hc,hd⟩:=id hit
 obtain⟨o2,ho2,hc2,n2,hd2⟩:=id ht
 unfold pyNext
 refine AA (wpAny_attempt (wpAny_callSpecial?_slot (name:=Str.ofString "__next__") hit.ty a3e (wpAny_call_entry a3e hit.ty a2W ?_ (a3s _))))
 unfold Builtin.«list_reverseiterator.__next__»
 refine AA (wpAny_of_eq (a:=(Value.ref it,[])) rfl ?_)
 try dsimp only
 refine AA (wpAny_field ho hd (x:=rawInt (i:Int)) rfl ?_)
 show wpAny _ _ (if(i:Int) < 0 then _ else _) _ _ s
 rw[if_neg (by omega)]
 refine AA (wpAny_field ho hd (x:= .ref t) rfl ?_)
 refine AA (wpAny_seqItems ho2 hd2 ?_)
 try dsimp only
 rw[Int.toNat_natCast,hx]
 try dsimp only
 refine AA (wpAny_setField ho hd (by simp) ?_)
 refine AB ⟨x,rfl,AB (q _ _ ?_ (Heap.SameBut.update ..))⟩
 exact⟨_,Heap.get?_update_self _ ho (Obj.isFreed_of_fields (Obj.data_mapFields hd _)),(Obj.cls_mapFields ..).trans hc,by
  rw[Obj.data_mapFields hd]
  simp⟩
theorem a4X{it t:Addr}{Q:Option Value->Shared->Prop}(hh:A.handled=none)(hit:a0L s.heap it t (-1))
  (q:∀h' tk,Heap.ExtBut it s.heap h'->Q none {s with heap:=h',toks:=tk}):wpAny (model prog w) A (pyNext (.ref it)) Q E s:=by
 obtain⟨o,ho,hc,hd⟩:=id hit
 unfold pyNext
 refine AA (wpAny_attempt (wpAny_callSpecial?_slot (name:=Str.ofString "__next__") hit.ty a3e (wpAny_call_entry a3e hit.ty a2W ?_ (a3s _))))
 unfold Builtin.«list_reverseiterator.__next__»
 refine AA (wpAny_of_eq (a:=(Value.ref it,[])) rfl ?_)
 try dsimp only
 refine AA (wpAny_field ho hd (x:=rawInt (-1)) rfl ?_)
 show wpAny _ _ (if(-1:Int) < 0 then _ else _) _ _ s
 rw[if_pos (by decide)]
 refine AA (wpAny_rule ?_)
 refine AA ?_
 show wpAny _ _ (newExc (Value.type "StopIteration") [] >>= _) _ _ _
 refine AA ?_
 simp only[newTuple,newExc]
 refine AA (wpAny_newObj_type (AA (m:=firstArgMember _ _) (wpAny_of_eq (a:=Value.none) (by first | rfl | (simp only[firstArgMember];rfl)) (wpAny_newObj_type ?_ (by size_fits)))) (by size_fits))
 simp only[raiseNew]
 refine AA (wpAny_handled ?_)
 rw[show A.in1.handled=none from hh]
 refine AA (AB (wpAny_throw ?_))
 exact AA (wpAny_isInstance (T:="StopIteration") (b:=true) ⟨_,AG _ rfl,rfl⟩ isSubtype_stop (AB (q _ _ (((Heap.SameBut.refl _ _).extBut.push _).push _))))
theorem a1H{it t:Addr}{i:Int}{Q:Value->Shared->Prop}(hit:a0L s.heap it t i)(h:Q (.ref it) s):wpAny (model prog w) A (pyIter (.ref it)) Q E s:=by
 refine wpAny_pyIter_slot hit.ty a8Z (wpAny_call_entry a8Z hit.ty a6o ?_ (a6x _))
 show wpAny _ _ (ret (.ref it)) _ _ s
 exact AB ⟨_,rfl,"list_reverseiterator",_,hit.ty,a3e.lookup,h⟩
end
end RL
namespace L2
open PySem PySem.Spec PyProof.Rows PySem.W RL
end L2
namespace RL
open PySem PySem.Spec PyProof.Rows
theorem b2s:Slot "list_reverseiterator" "__length_hint__" "list_reverseiterator.__length_hint__":=
 .of (owner:="list_reverseiterator") (n:="__length_hint__") (by rw[typeLookup_type,builtinLookup_eq_fast];kernel_rfl) (by decide +kernel) (by decide +kernel) (by decide +kernel)
  (by first | exact .inl (by decide +kernel) | exact .inr (by decide +kernel)) (by rw[isSubtype_type];kernel_rfl)
theorem b3T:typeLookup (.type "list_reverseiterator") "__len__"=pure none:=by rw[typeLookup_type,builtinLookup_eq_fast];kernel_rfl
theorem b4U:isSubtype (.type "list_reverseiterator") (.type "list_reverseiterator")=pure true:=by rw[isSubtype_type];kernel_rfl
section
variable{prog:Program}{w:World}{A:Around}{E:Value->Shared->Prop}{s:Shared}
theorem a8n(hh:A.handled=none)(I t:Addr)(hne:t≠I)(its:Array Value)(hz:its.size<=sizeLine):
  Walks prog w A I [I,t] [I] its.size (fun i v=>its[its.size - 1 - i]?=some v) (fun i h=>i<=its.size/\a0L h I t ((its.size:Int) - 1 - (i:Int))/\h.IsList t its)where
 sub:=fun b hb=>by
  have e:b=I:=by simpa using hb
  simp[e]
 frame:=fun _ _ _ st k=>⟨st.1,st.2.1.move fun o e=>k I (by simp) o e,Heap.IsList.at st.2.2 fun o e=>k t (by simp) o e⟩
 item:=fun i s Q E hi st q=>by
  have e1:(its.size:Int) - 1 - (i:Int)=((its.size - 1 - i:Nat):Int):=by omega
  have hit:=st.2.1
  rw[e1]at hit
  have hx:its[its.size - 1 - i]?=some (its[its.size - 1 - i]'(by omega)):=Array.getElem?_eq_getElem (by omega)
  refine a3C hit st.2.2 hx fun h' tk hit' same=>?_
  have e2:((its.size - 1 - i:Nat):Int) - 1=(its.size:Int) - 1 - ((i+1:Nat):Int):=by omega
  rw[e2]at hit'
  exact q _ h' tk hx ⟨hi,hit',Heap.IsList.at st.2.2 fun o eo=>(same.2 t hne).trans eo⟩ fun b o hb eo=>same.extBut b o (fun z=>hb (by simp[z])) eo
 done:=fun s Q E st q=>by
  have e1:(its.size:Int) - 1 - (its.size:Int)= -1:=by omega
  have hit:=st.2.1
  rw[e1]at hit
  exact a4X hh hit fun h' tk he=>q h' tk fun b o hb eo=>he b o (fun z=>hb (by simp[z])) eo
 self:=fun _ _ _ _ st q=>a1H st.2.1 q
theorem b0p{I t:Addr}{its:Array Value}{Q:Bool->Shared->Prop}(hI:a0L s.heap I t ((its.size:Int) - 1))(ht:s.heap.IsList t its)(hz:its.size<=sizeLine)(q:∀b tk,Q b {s with toks:=tk}):wpAny (model prog w) A (Builtin.List.listLengthHint (.ref I)) Q E s:=by
 unfold Builtin.List.listLengthHint
 refine AA (wpAny_specialOf hI.ty b3T ?_)
 try dsimp only
 refine wpAny_ite_split (fun h=>absurd h (by decide)) (fun _=>?_)
 refine wpAny_ite_split (fun h=>absurd h (by decide)) (fun _=>?_)
 refine AA (wpAny_specialOf hI.ty b2s.lookup ?_)
 generalize hid:("list_reverseiterator.__length_hint__":String)=id0
 wp_delta
 rw[show splitId id0=some ("list_reverseiterator","__length_hint__")from by subst hid;decide +kernel]
 subst hid
 refine AA (wpAny_isInstance (T:="list_reverseiterator") (b:=true) hI.ty b4U ?_)
 refine wpAny_ite_split (fun h=>absurd h (by decide)) (fun _=>?_)
 refine wpAny_ite_split (fun _=>?_) (fun h=>absurd (by decide +kernel) h)
 refine wpAny_ite_split (fun h=>absurd h (by decide +kernel)) (fun _=>?_)
 exact AB (q false s.toks)
end
section
variable{prog:Program}{w:World}{A:Around}{E:Value->Shared->Prop}{s:Shared}
noncomputable def StL (I t:Addr) (its:Array Value) (i:Nat) (h:Heap):Prop:=i<=its.size/\a0L h I t ((its.size:Int) - 1 - (i:Int))/\h.IsList t its
noncomputable def PRl (its:Array Value) (i:Nat) (v:Value):Prop:=its[its.size - 1 - i]?=some v
theorem StL.move{I t:Addr}{its:Array Value}{i:Nat}{h h':Heap}(x:StL I t its i h)(k:∀b o,b=I\/b=t->h.get? b=some o->h'.get? b=some o):StL I t its i h':=
 ⟨x.1,x.2.1.move fun o e=>k I o (.inl rfl) e,Heap.IsList.at x.2.2 fun o e=>k t o (.inr rfl) e⟩
theorem a7t{R:Result->Shared->Prop}(hh:A.handled=none){I t S:Addr}{its:Array Value}{res:Value}{c₀:Nat}(hne:t≠I)(hSI:S≠I)(hSt:S≠t)(hz:its.size<=sizeLine)(st:StL I t its 0 s.heap)
  (hS:s.heap.get? S=some {cls:= .type "list",data:= .seq #[] c₀})
  (q:∀h' tk acc c,(∀b o,b≠S->b≠I->s.heap.get? b=some o->h'.get? b=some o)->h'.get? S=some {cls:= .type "list",dict:=none,data:= .seq acc c,slots:= #[]}->ItemsOf (PRl its) acc its.size->R (.ok (.ret res)) {s with heap:=h',toks:=tk}):
  wpAny (model prog w) A.in1 (Builtin.List.listExtendWith (.ref S) (.ref I) res)
   (fun fin s'=>match fin with | .done f=>R (.ok f) s' | .again c'=>c'.quiet=true/\codeAny (model prog w) A c' R s') (fun e s'=>R (.error e) s') s:=by
 have W:=(a8n (prog:=prog) (w:=w) (A:=A.in1) hh I t hne its hz).toS
 have hSf:S∉ [I,t]:=by simp[hSI,hSt]
 have ty:s.TypeIs (.ref I) "list_reverseiterator":=st.2.1.ty
 have rest:∀(h:Heap)(c tk:Nat),StL I t its 0 h->(∀b o,b≠S->s.heap.get? b=some o->h.get? b=some o)->h.get? S=some {cls:= .type "list",data:= .seq #[] c}->codeAny (model prog w) A (.builtin "list.extend.loop" ⟨[.ref S,.ref I,res],[]⟩) R {s with heap:=h,toks:=tk}:=fun h c tk st' keep hS'=>by
  refine codeAny_extend_loopS W hz S hSf res its.size 0 _ #[] c rfl (Nat.zero_le _) st' hS' (ItemsOf.nil _) fun s' acc c' hm hS2 hacc=>?_
  rw[Moved.eq_with hm]
  refine q s'.heap s'.toks acc c' (fun b o hb hbI e=>hm.heap b o (fun z=>?_) (keep b o hb e)) hS2 hacc
  rcases List.mem_cons.mp z with z | z
  ·exact hb z
  ·exact hbI (AH.mp z)
 unfold Builtin.List.listExtendWith
 refine AA (wpAny_typeOf ty ?_)
 have n1:Builtin.List.listSameRef (.ref S) (.ref I)=false:=by simp[Builtin.List.listSameRef,hSI]
 have n2:(Value.type "list_reverseiterator"==Value.type "list")=false:=by decide
 have n3:(Value.type "list_reverseiterator"==Value.type "tuple")=false:=by decide
 simp only[n1,n2,n3,Bool.or_false,Bool.false_eq_true,if_false]
 refine AA (a1H st.2.1 ?_)
 refine AA (wpAny_holding (b0p (its:=its) (by have:=st.2.1;simpa using this) st.2.2 hz fun b tk=>?_))
 refine wpAny_ite_split (fun _=>?_) (fun _=>AB ⟨plainId_quiet PySem.F.plain_extend_loop _,rest _ c₀ _ st (fun b o _ e=>e) hS⟩)
 refine AA (wpAny_rule (AA ?_))
 show wpAny _ _ (updateSeq S (·.push .none) >>= fun _=>updateSeq S (·.pop)) _ _ _
 refine AA (wpAny_updateSeq (s:={s with toks:=tk}) hS rfl ?_)
 have hS2:=Heap.get?_update_self (Obj.mapSeq (·.push Value.none)) hS rfl
 refine wpAny_updateSeq (hz:=by seq_fits) hS2 rfl ?_
 have hS3:=Heap.get?_update_self (Obj.mapSeq (·.pop)) hS2 rfl
 have oth:∀b o,b≠S->s.heap.get? b=some o->((s.heap.update S (Obj.mapSeq (·.push Value.none))).update S (Obj.mapSeq (·.pop))).get? b=some o:=fun b o hb e=>
  (Heap.get?_update_other _ _ (Ne.symm hb)).trans ((Heap.get?_update_other _ _ (Ne.symm hb)).trans e)
 refine AB ⟨plainId_quiet PySem.F.plain_extend_loop _,rest _ _ _ (st.move fun b o hb e=>oth b o (fun z=>?_) e) oth hS3⟩
 rcases hb with y | y
 ·exact hSI (z.symm.trans y)
 ·exact hSt (z.symm.trans y)
theorem a9Z{R:Result->Shared->Prop}(hh:A.handled=none){I t S:Addr}{its:Array Value}(hne:t≠I)(hSI:S≠I)(hSt:S≠t)(hz:its.size<=sizeLine)(st:StL I t its 0 s.heap)
  (hS:s.heap.get? S=some {cls:= .type "list",data:= .seq #[]})
  (q:∀h' tk acc c,(∀b o,b≠S->b≠I->s.heap.get? b=some o->h'.get? b=some o)->h'.get? S=some {cls:= .type "list",dict:=none,data:= .seq acc c,slots:= #[]}->ItemsOf (PRl its) acc its.size->R (.ok (.ret .none)) {s with heap:=h',toks:=tk}):
  wpAny (model prog w) A.in1 (Builtin.«list.__init__» ⟨[.ref S,.ref I],[]⟩)
   (fun fin s'=>match fin with | .done f=>R (.ok f) s' | .again c'=>c'.quiet=true/\codeAny (model prog w) A c' R s') (fun e s'=>R (.error e) s') s:=by
 show wpAny _ A.in1 (Builtin.List.listItems (.ref S) >>= fun old=>Builtin.List.listUpdate (.ref S) (fun _=>#[]) >>= fun _=>letGo old.toList.reverse >>= fun _=>Builtin.List.listExtendWith (.ref S) (.ref I) .none) _ _ s
 unfold Builtin.List.listItems
 refine AA (AA (wpAny_seqItems hS rfl (AB ?_)))
 show wpAny _ A.in1 (updateSeq S (fun _=>#[]) >>= fun _=>letGo (#[]:Array Value).toList.reverse >>= fun _=>Builtin.List.listExtendWith (.ref S) (.ref I) .none) _ _ s
 refine AA (wpAny_updateSeq hS rfl (AA (wpAny_letGo ?_)))
 have oth:∀b o,b≠S->s.heap.get? b=some o->(s.heap.update S (Obj.mapSeq (fun _=>(#[]:Array Value)))).get? b=some o:=fun b o hb e=>(Heap.get?_update_other _ _ (Ne.symm hb)).trans e
 refine a7t hh hne hSI hSt hz (st.move fun b o hb e=>oth b o (fun z=>?_) e) (Heap.get?_update_self (Obj.mapSeq (fun _=>(#[]:Array Value))) hS rfl) fun h' tk acc c keep hS' hacc=>q h' tk acc c (fun b o hb hbI e=>keep b o hb hbI (oth b o hb e)) hS' hacc
 rcases hb with y | y
 ·exact hSI (z.symm.trans y)
 ·exact hSt (z.symm.trans y)
theorem b0l{I t:Addr}{its:Array Value}{Q:Value->Shared->Prop}(hh:A.handled=none)(hne:t≠I)(hz:its.size<=sizeLine)(st:StL I t its 0 s.heap)
  (q:∀h' tk acc c,(∀b o,b≠I->s.heap.get? b=some o->h'.get? b=some o)->h'.get? s.heap.objs.size=some {cls:= .type "list",dict:=none,data:= .seq acc c,slots:= #[]}->ItemsOf (PRl its) acc its.size->Q (.ref s.heap.objs.size) {s with heap:=h',toks:=tk}):
  wpAny (model prog w) A (call (.type "list") [.ref I]) Q E s:=by
 have hI:I < s.heap.objs.size:=by
  obtain⟨o,e,_⟩:=st.2.1
  exact AJ e
 have ht:t < s.heap.objs.size:=by
  obtain⟨o,e,_⟩:=st.2.2
  exact AJ e
 refine callType_codes (Q₁:=fun obj s₁=>obj= .ref s.heap.objs.size/\s₁={s with heap:=s.heap.push {cls:= .type "list",data:= .seq #[]}}) F.called_list (F.typeCall_list_1 _) F.entry_list_init (code_list_new _ ⟨rfl,rfl⟩) fun obj s₁ e₁=>?_
 obtain⟨rfl,rfl⟩:=e₁
 have hS:(s.heap.push {cls:= .type "list",data:= .seq #[]}).get? s.heap.objs.size=some {cls:= .type "list",data:= .seq #[]}:=AG _ rfl
 refine⟨⟨_,hS,rfl⟩,F.args_list_init_2 _ _,a9Z (A:=A.in1) hh hne (Nat.ne_of_gt hI) (Nat.ne_of_gt ht) hz (st.move fun b o _ e=>AC _ e) hS fun h' tk acc c keep hS' hacc=>?_⟩
 exact⟨rfl,q h' tk acc c (fun b o hb e=>keep b o (AS (AJ e)) hb (AC _ e)) hS' hacc⟩
end
end RL
namespace L2
open PySem PySem.Spec PyProof.Rows PySem.W RL
theorem b0i{xs:List V}{its:Array Value}{acc:Array Value}(hv:W0 xs its.toList)(ha:ItemsOf (PRl its) acc its.size):W0 xs.reverse acc.toList:=by
 have hl:xs.length=its.size:=by rw[hv.length,Array.length_toList]
 refine a9n (by rw[Array.length_toList,ha.1,List.length_reverse,hl]) fun j u e=>?_
 have hj:j < its.size:=by
  rw[<-ha.1,<-Array.length_toList]
  exact(AO.mp e).1
 have hp:its[its.size - 1 - j]?=some u:=ha.2 j u (by rw[<-Array.getElem?_toList];exact e)
 obtain⟨x,h1,h2⟩:=a8S (i:=its.size - 1 - j) hv (by rw[Array.getElem?_toList];exact hp)
 refine⟨x,?_,h2⟩
 rw[List.getElem?_reverse (by omega),hl]
 exact h1
section
variable{X:Cx}{e:Expr}{te:TE}{pos pos2 p p2:Pos}
noncomputable def b4l (K:W.Frag) (te:TE):TE:=fun σ H Q=>te σ H fun x H1=>∃a xs,x= .ref a/\SqL K H1 a xs/\∀l,H1 l=none->Q (.ref l) (upd H1 l (.lst xs.reverse))
theorem b3c(he:PE X e te)(gR:Gl X "reversed")(mR:X.mg "reversed"=none)(hs:starEach [e] X.env=[(false,eval e X.env)]:=by rfl)
  {pins:List (Addr×Obj)}{s:Shared}{σ:St}{H:Hp}{R:VK}{Q:Value->Shared->Prop}(I:Inv X pins σ H s)(h:te σ H R)
  (k:∀x H1 s1 a xs its tk,Inv X pins σ H1 s1->R x H1->x= .ref a->W0 xs its->s1.heap.IsList a its.toArray->its.toArray.size<=sizeLine->SqL X.K H1 a xs->Q (.ref s1.heap.objs.size) {s1 with heap:=s1.heap.push (a8x a ((its.toArray.size:Int) - 1)),toks:=tk})
  (kr:∀x H1,R x H1->∃a xs,x= .ref a/\SqL X.K H1 a xs):
  wpAny (model X.prog X.w) X.A (eval (.Call (.Name "reversed" p2) [e] [] pos2) X.env) Q X.xe s:=by
 refine wpAny_Call_Name_kw (a2t I gR mR boot_reversed ?_ (by decide) (by decide))
 refine PyProof.Rows.callWith_type1 ?_ hs (by rfl)
 rw[hs]
 refine Calls.spliced_cons (thn (he pins s σ H _ I h) fun u s1⟨x,H1,I1,r1,q1⟩=>?_)
 obtain⟨a,xs,rfl,ht⟩:=kr x H1 q1
 cases r1
 obtain⟨its,hv,htup,hz⟩:=I1.list ht
 have hz':its.toArray.size<=sizeLine:=by have:=hv.length;simp;omega
 refine Calls.spliced_nil ?_
 exact b0u htup.isList (k _ H1 s1 a xs its s1.toks I1 q1 rfl hv htup.isList hz' ht)
theorem b0Y(hc:X.calm=true)(he:PE X e te)(gL:Gl X "list")(mL:X.mg "list"=none)(gR:Gl X "reversed")(mR:X.mg "reversed"=none)(hs:starEach [e] X.env=[(false,eval e X.env)]:=by rfl)(hs2:starEach [.Call (.Name "reversed" p2) [e] [] pos2] X.env=[(false,eval (.Call (.Name "reversed" p2) [e] [] pos2) X.env)]:=by rfl):
  PE X (.Call (.Name "list" p) [.Call (.Name "reversed" p2) [e] [] pos2] [] pos) (b4l X.K te):=by
 intro pins s σ H Q I h
 refine wpAny_Call_Name_kw (a2t I gL mL boot_list ?_ (by decide) (by decide))
 refine PyProof.Rows.callWith_type1 ?_ hs2 (by rfl)
 rw[hs2]
 refine Calls.spliced_cons (b3c he gR mR hs I h (fun x H1 s1 a xs its tk I1 q1 ex hv htup hz ht=>?_) fun x H1 q=>by obtain⟨a,xs,e1,e2,_⟩:=q;exact⟨a,xs,e1,e2⟩)
 obtain⟨a',ys,e1,e2,q⟩:=q1
 have ea:a=a':=V.ref.inj (ex.symm.trans e1)
 subst ea
 have exy:=I1.list_inj ht e2
 subst exy
 refine Calls.spliced_nil ?_
 have hne:a≠s1.heap.objs.size:=AS (by obtain⟨o,ho,_⟩:=htup;exact AJ ho)
 have st:StL s1.heap.objs.size a its.toArray 0 (s1.heap.push (a8x a ((its.toArray.size:Int) - 1))):=⟨Nat.zero_le _,⟨_,AG _ rfl,rfl,by simp[a8x]⟩,htup.push _⟩
 refine b0l (s:={s1 with heap:=s1.heap.push (a8x a ((its.toArray.size:Int) - 1)),toks:=tk}) (I1.ok.hd hc) hne hz st fun h' tk' acc c keep hS hacc=>?_
 have hk:∀b u,s1.heap.get? b=some u->h'.get? b=some u:=fun b u e=>keep b u (AS (AJ e)) (AC _ e)
 have hv':W0 xs its.toArray.toList:=by simpa using hv
 have hr:=b0i hv' hacc
 have hp:s1.heap.objs.size<=(s1.heap.push (a8x a ((its.toArray.size:Int) - 1))).objs.size:=by rw[Heap.size_push];omega
 refine⟨.ref _,_,I1.laid (t':=tk') hk hp (show Z4 X.prog X.w _ h' _ (.lst xs.reverse)from⟨?_,acc.toList,c,hr,by simpa using hS⟩),rfl,q _ (I1.hok.fresh hp)⟩
 rw[hr.length,Array.length_toList,hacc.1]
 exact hz
end
end L2
namespace XC
open PySem
noncomputable abbrev b6d (l:List Env):List Addr:=l.filterMap (·.frame)
section
variable{M:Model}{A:Around}{E:Value->Shared->Prop}{s:Shared}
end
end XC
namespace L2
open PySem PySem.Spec PyProof.Rows XC
theorem Z4.there{P:Program}{w:World}{H:Hp}{h:Heap}{a:Addr}{o:HO}(x:Z4 P w H h a o):∃u,h.get? a=some u:=by
 cases o with
 | lst xs=>obtain⟨_,_,_,_,e⟩:=x;exact⟨_,e⟩
 | tup xs=>obtain⟨_,_,_,o,e,_⟩:=x;exact⟨_,e⟩
 | dK kvs=>obtain⟨_,_,_,_,o,_,_,e,_⟩:=x;exact⟨_,e⟩
 | dT kvs=>obtain⟨_,_,_,_,o,_,_,e,_⟩:=x;exact⟨_,e⟩
 | set S n=>obtain⟨o,_,_,_,e,_⟩:=x;exact⟨_,e⟩
 | ins C dx fs=>obtain⟨_,_,_,e,_⟩:=x;exact⟨_,e⟩
 | own y=>obtain⟨_,e⟩:=x;exact⟨_,e⟩
 | xd fs=>obtain⟨_,⟨_,_,_,e,_⟩,_⟩:=x;exact⟨_,e⟩
 | rng lo hi=>obtain⟨_,_,_,e⟩:=x;exact⟨_,e⟩
 | frz ob u=>obtain⟨e,_⟩:=x;exact⟨_,e⟩
 | tbl ps=>exact⟨_,x⟩
 | met f y=>exact⟨_,x⟩
 | ext φ=>obtain⟨_,⟨_,e⟩,_⟩:=x;exact⟨_,e⟩
section
variable{P:Program}{w:World}{K:W.Frag}{mg:Str->Option Value}{base:Heap}{N:List Str}{qual:Str}{scope:Scope}{f:Addr}{cd:Value}{A:Around}{outer:List Env}{s:Shared}{H:Hp}{E:XK}{pins:List (Addr×Obj)}{σ:St}{H':Hp}{s':Shared}
end
end L2
namespace L2
open PySem PySem.Spec PyProof.Rows XC
section
variable{X:Cx}{pins:List (Addr×Obj)}{σ:St}{H H':Hp}{s:Shared}{h':Heap}{a:Addr}{ts:List Addr}
end
noncomputable abbrev Cx.hand (X:Cx) (a:Addr):Cx:={X with A:=X.A.mark (some (.ref a)),calm:=false,xe:=fun _ _=>False}
section
variable{X:Cx}{pins:List (Addr×Obj)}{σ:St}{H:Hp}{s:Shared}{a:Addr}
end
section
variable{X:Cx}{j k:Nat}{f:Str}{ps:List Str}{sp:Sp}{e:Expr}{es:List Expr}{ta:TA}{p pos cpos:Pos}
end
section
variable{X:Cx}{body:List Stmt}{tb:XK->TS}{x n:Str}{B:Addr}{i:Nat}{b0:Stmt}{suite:List Stmt}{th:Addr->TS}{np hp pos:Pos}
end
noncomputable abbrev bmV:List Value:=[.type "ValueError",.type "Exception",.type "BaseException",.type "object"]
section
variable{P:Program}{w:World}{K:W.Frag}{mg:Str->Option Value}{base:Heap}{N:List Str}{qual:Str}{scope:Scope}{f:Addr}{cd:Value}{A:Around}{outer:List Env}{s:Shared}{H:Hp}{E:XK}
end
end L2
namespace L2
open PySem PySem.Spec PyProof.Rows XC
section
variable{prog:Program}{w:World}{A:Around}{E:Value->Shared->Prop}{s:Shared}{K:W.Frag}{x C:Addr}{ox:Obj}{od:Option Obj}
end
end L2
namespace L2
open PySem PySem.Spec PyProof.Rows XC
section
variable{prog:Program}{w:World}{A:Around}{E:Value->Shared->Prop}{s:Shared}{K:W.Frag}{x C:Addr}{o:Obj}{vs:Array Value}{f:Str}{v:Value}
end
section
variable{prog:Program}{w:World}{A:Around}{E:Value->Shared->Prop}{h:Heap}{g:Array GenState}{d:Drawn}{t:Nat}{os:OsState}
variable{nm q:Str}{C N e:Addr}{bs bm:List Value}{hdct:Bool}{sn:List Str}{sub:List Value}{ab:Bool}{col:Option Bool}{dd:Option Addr}{k0 k1 k2 k3 k5:Option Value}{oe:Obj}{vs:Array Value}{v:Value}
end
section
variable{prog:Program}{w:World}{A:Around}{E:Value->Shared->Prop}{h:Heap}{g:Array GenState}{d:Drawn}{t:Nat}{os:OsState}
variable{nm q:Str}{C N fI:Addr}{bs bm:List Value}{hdct:Bool}{sn:List Str}{sub:List Value}{ab:Bool}{col:Option Bool}{dd:Option Addr}{k0 k1 k2 k3 k5:Option Value}{oI:Obj}{rest:List Value}
end
end L2
namespace L2
open PySem PySem.Spec PyProof.Rows XC
section
variable{X:Cx}{b:Str}{B:Addr}{bp apos pos spos:Pos}{e1 e2:Expr}{ta:TA}
end
section
variable{X:Cx}{o value:Expr}{f:Str}{ta tv:TE}{pos pos':Pos}
end
end L2
namespace L2
open PySem PySem.Spec PyProof.Rows XC
section
variable{P:Program}{w:World}{K:W.Frag}{mg:Str->Option Value}{base:Heap}{N:List Str}{qual:Str}{scope:Scope}{f:Addr}{cd:Value}{A:Around}{outer:List Env}{s:Shared}{H:Hp}{E:XK}
end
end L2
namespace XC
open PySem
section
variable{M:Model}{A:Around}{E:Value->Shared->Prop}{s:Shared}
end
end XC
namespace L2
open PySem PySem.Spec PyProof.Rows XC
section
variable{P:Program}{w:World}{K:W.Frag}{mg:Str->Option Value}{base:Heap}{N:List Str}{qual:Str}{scope:Scope}{f:Addr}{cd:Value}{A:Around}{outer:List Env}{s:Shared}{H:Hp}{E:XK}{pins:List (Addr×Obj)}{σ:St}{H':Hp}{s':Shared}
end
section
variable{X:Cx}{tg elt iter:Expr}{ifs:List Expr}{sc:Scope}{pos:Pos}{M:List Str}{ρ:List (Option Nat)}{wi:TI}{g:TG}{tt:TT}{te:TE}
end
section
variable{P:Program}{w:World}{K:W.Frag}{mg:Str->Option Value}{base:Heap}{N':List Str}{qual:Str}{scope:Scope}{f:Addr}{cd:Value}{A:Around}{outer:List Env}{s0:Shared}{H0:Hp}{E:XK}
variable{tg elt iter:Expr}{ifs:List Expr}{sc:Scope}{pos:Pos}{M:List Str}{ρ:List (Option Nat)}{wi:TI}{g:TG}{tt:TT}{te:TE}
end
end L2
namespace L2
open PySem XC
section
variable{P:Program}{w:World}{K:W.Frag}{mg:Str->Option Value}{base:Heap}{N':List Str}{qual:Str}{scope:Scope}{f:Addr}{cd:Value}{A:Around}{outer:List Env}{s0:Shared}{H0:Hp}{E:XK}
variable{tg elt iter:Expr}{ifs:List Expr}{sc:Scope}{pos:Pos}{M:List Str}{ρ:List (Option Nat)}{wi:TI}{g:TG}{tt:TT}{te:TE}
end
end L2
namespace L2
open PySem PySem.Spec PyProof.Rows
section
variable{X:Cx}
end
end L2
namespace L2
open PySem PySem.Spec PyProof.Rows
structure Mk0(K:W.Frag)(C:Addr):Prop where
 makes:W.makesIn K C=true
 init:W.findIn K (.ref C) "__init__"=some (some (.builtin "object.__init__"))
 kp:W.keepIn K (.ref C)=true
noncomputable def b1k (C:Addr):TE:=fun _ H Q=>∀x dx,H x=none->H dx=none->dx≠x->Q (.ref x) (upd (upd H dx (.own x)) x (.ins C dx []))
section
variable{X:Cx}{C:Addr}{x:Str}{p pos:Pos}
theorem a9V{pins:List (Addr×Obj)}{σ:St}{H:Hp}{s:Shared}{Q:VK}(M:Mk0 X.K C)(I:Inv X pins σ H s)(h:b1k C σ H Q):wpAny (model X.prog X.w) X.A (call (.ref C) []) (EP X pins σ Q) X.xe s:=by
 have hq:=h (s.heap.objs.size+1) s.heap.objs.size (I.hok.fresh (Nat.le_succ _)) (I.hok.fresh (AD _)) (AS (Nat.lt_succ_self _))
 have I2:=Inv.made (C:=C) I
 have Y:=W.makes_of (M:=model X.prog X.w) I.kIn M.makes
 have hx:((s.heap.push W.emptyDict).push (W.instObj C s.heap.objs.size)).get? (s.heap.objs.size+1)=some (W.instObj C s.heap.objs.size):=by
  have:=AG (s.heap.push W.emptyDict) (o:=W.instObj C s.heap.objs.size) rfl
  rw[Heap.size_push]at this
  exact this
 have t1:W.Looks (model X.prog X.w) ((s.heap.push W.emptyDict).push (W.instObj C s.heap.objs.size)) (typeOf (.ref (s.heap.objs.size+1))) (.ref C):=(W.Looks.ld hx).andThen .now
 have t2:W.Looks (model X.prog X.w) ((s.heap.push W.emptyDict).push (W.instObj C s.heap.objs.size)) (isInstance (.ref (s.heap.objs.size+1)) (.type "object")) true:=t1.andThen (Y.top.keeps fun b o e=>AC _ (AC _ e))
 refine wpAny_call (a9G I.kIn M.makes M.init (fun self=>W.Looks.of_pure (W.oi_bind self)) ?_)
 obtain⟨hh,g,d,t,os⟩:=s
 refine codeAny_call_builtin W.oi_plain W.entry_oi (@W.check_slot (model X.prog X.w) _ _ _ "object.__init__" "object" "__init__" (.ref (hh.objs.size+1)) [] [] _ W.oi_kind W.oi_split t2 (W.oi_args (.ref (hh.objs.size+1))) ?_)
 rw[W.oi_run]
 exact AB (And.intro rfl ⟨V.ref (hh.objs.size+1),_,I2,rfl,hq⟩)
theorem b4r(M:Mk0 X.K C)(hg:Gl X x)(hm:X.mg x=some (.ref C))(hdb:(x==("__debug__":Str))=false:=by decide):PE X (.Call (.Name x p) [] [] pos) (b1k C):=by
 intro pins s σ H Q I h
 refine wpAny_Call_Name_kw (a4q I hg hm ?_ hdb)
 exact W.callWith_K0 I.kIn M.kp (a9V M I h)
structure b4Z(K:W.Frag)(C:Addr):Prop where
 pg:W.plainGet K C "__class__"=true
 hd:W.hasDictIn K C=true
 ha:W.findIn K (.ref C) "__class__"=some (some (.builtin "object.__class__"))
 hn:W.specialIn K (.builtin "object.__class__") "__get__"=some (some (.builtin "getset_descriptor.__get__"))
 ht:W.takesIn K (.builtin "object.__class__")=some true
 hm:W.mroIn K C (.type "object")=some true
theorem b1E{P:Program}{w:World}{H:Hp}{h:Heap}{a C dx:Addr}{fs:List (Str×V)}(ok:HOk P w H h)(ha:H a=some (.ins C dx fs)):∃od,W.InstAt h a (W.instObj C dx) C (some od):=by
 obtain⟨d,z,ne,ob,_⟩:=(show Z4 P w H h a (.ins C dx fs)from ok a _ ha)
 obtain⟨od,q⟩:=(ok dx _ d).there
 exact⟨od,ob,rfl,rfl,q⟩
theorem a6t:a0R X (.builtin "isinstance") (fun xs H Q=>∃a C dx fs B b,xs=[.ref a,.ref B]/\H a=some (.ins C dx fs)/\b4Z X.K C/\W.kitOne X.K (.ref C) (.ref B)=some b/\Q (.bl b) H):=by
 intro pins s σ H xs us Q I r h
 obtain⟨a,C,dx,fs,B,b,rfl,ha,k,e,q⟩:=h
 obtain⟨u,w',rfl,rx,ry⟩:=b3n r
 cases(show u=Value.ref a from rx)
 cases(show w'=Value.ref B from ry)
 obtain⟨od,J⟩:=b1E I.hok ha
 exact W.kia_one (W.kitx_own k.pg k.hd k.ha k.hn k.ht k.hm) I.kIn J e (fun z=>nomatch z) fun tk=>⟨.bl b,H,I.tok _,rfl,q⟩
end
theorem b3g{X:Cx}(n:Nat)(hu:X.A.units+1+n < cLine):OpR X (compareOp .NotEq) (fun x y H Q=>∃a b xs ys,x= .ref a/\y= .ref b/\SqL X.K H a xs/\SqL X.K H b ys/\Paired (EqD X.K H n) xs ys/\Q (.bl false) H):=by
 intro pins s σ H x y v u Q I rx ry h
 obtain⟨a,b,xs,ys,rfl,rfl,ha,hb,hP,q⟩:=h
 cases rx
 cases ry
 obtain⟨its,r1,p1,_⟩:=I.list ha
 obtain⟨its2,r2,p2,_⟩:=I.list hb
 have hl1:=r1.length
 have hl2:=r2.length
 have hl:=AF hP
 refine SeqAt.RcNeAt.lists (e:=fun _=>true) p1.isList p2.isList (by simp;omega) (by omega) (a2z (X:=X) (pins:=pins) (σ:=σ) hP r1 r2 (a6q I n X.A.in1 hu)) X.prog X.w _ _ ?_
 rw[show(!((List.range its.toArray.size).all (fun _=>true)))=false by simp]
 exact⟨.bl false,H,I,rfl,q⟩
end L2
namespace K26
open PySem L2 PyProof.Rows
noncomputable def top (i:Nat):Stmt:=zP.main.body.getD i (.Pass ⟨0,0,0,0⟩)
noncomputable abbrev a1h:Stmt:=top 1
theorem a4b:R6 ["row","kind"] ["row"] (I9 a1h):=⟨rfl,rfl,rfl,by decide +kernel,rfl,by decide +kernel,by decide +kernel⟩
noncomputable abbrev a0v:Stmt:=top 2
theorem a5z:R6 ["pairs","words","given","own"] ["pairs"] (I9 a0v):=⟨rfl,rfl,rfl,by decide +kernel,rfl,by decide +kernel,by decide +kernel⟩
noncomputable abbrev a0H:Stmt:=top 3
theorem a0T:R6 ["terms","words","sign","thing"] ["terms"] (I9 a0H):=⟨rfl,rfl,rfl,by decide +kernel,rfl,by decide +kernel,by decide +kernel⟩
noncomputable abbrev a0x:Stmt:=top 4
theorem a5L:R6 ["when"] ["when"] (I9 a0x):=⟨rfl,rfl,rfl,by decide +kernel,rfl,by decide +kernel,by decide +kernel⟩
noncomputable abbrev a0m:Stmt:=top 5
theorem a2G:R6 ["row","kind"] ["row"] (I9 a0m):=⟨rfl,rfl,rfl,by decide +kernel,rfl,by decide +kernel,by decide +kernel⟩
noncomputable abbrev a0J:Stmt:=top 6
theorem a0V:R6 ["terms","first","names","place","term"] ["terms","first"] (I9 a0J):=⟨rfl,rfl,rfl,by decide +kernel,rfl,by decide +kernel,by decide +kernel⟩
noncomputable abbrev a0k:Stmt:=top 7
theorem a5K:R6 ["row"] ["row"] (I9 a0k):=⟨rfl,rfl,rfl,by decide +kernel,rfl,by decide +kernel,by decide +kernel⟩
noncomputable abbrev M8:Stmt:=top 9
theorem F8:R6 ["parts","found","part","rows","number","row"] ["parts"] (I9 M8):=⟨rfl,rfl,rfl,by decide +kernel,rfl,by decide +kernel,by decide +kernel⟩
noncomputable abbrev a0o:Stmt:=top 10
theorem M7:R6 ["parts","owns","part","number","row"] ["parts"] (I9 a0o):=⟨rfl,rfl,rfl,by decide +kernel,rfl,by decide +kernel,by decide +kernel⟩
noncomputable abbrev a3o:Stmt:=top 11
theorem a0F:R6 ["parts","owns","onward","part","number","row","given","own"] ["parts"] (I9 a3o):=⟨rfl,rfl,rfl,by decide +kernel,rfl,by decide +kernel,by decide +kernel⟩
noncomputable abbrev a2f:Stmt:=top 12
theorem a0i:R6 ["parts","found","onward","start","way","here","name"] ["parts"] (I9 a2f):=⟨rfl,rfl,rfl,by decide +kernel,rfl,by decide +kernel,by decide +kernel⟩
noncomputable abbrev a4K:Stmt:=top 13
theorem a3b:R6 ["parts","found","part","number","row"] ["parts"] (I9 a4K):=⟨rfl,rfl,rfl,by decide +kernel,rfl,by decide +kernel,by decide +kernel⟩
noncomputable abbrev B9:Stmt:=Z8 (top 15) 0
theorem a4k:R6 ["self","part"] ["self","part"] (I9 B9):=⟨rfl,rfl,rfl,by decide +kernel,rfl,by decide +kernel,by decide +kernel⟩
noncomputable abbrev a0b:Stmt:=Z8 (top 15) 1
theorem a4M:R6 ["self","part","name"] ["self","part","name"] (I9 a0b):=⟨rfl,rfl,rfl,by decide +kernel,rfl,by decide +kernel,by decide +kernel⟩
noncomputable abbrev Y3:Stmt:=Z8 (top 15) 2
theorem a1K:R6 ["self","part"] ["self","part"] (I9 Y3):=⟨rfl,rfl,rfl,by decide +kernel,rfl,by decide +kernel,by decide +kernel⟩
noncomputable abbrev Y2:Stmt:=Z8 (top 15) 3
theorem a1N:R6 ["self","root"] ["self","root"] (I9 Y2):=⟨rfl,rfl,rfl,by decide +kernel,rfl,by decide +kernel,by decide +kernel⟩
noncomputable abbrev M1:Stmt:=Z8 (top 15) 4
theorem a1P:R6 ["self","root","numbers","going"] ["self","root","numbers"] (I9 M1):=⟨rfl,rfl,rfl,by decide +kernel,rfl,by decide +kernel,by decide +kernel⟩
noncomputable abbrev Z9:Stmt:=Z8 (top 16) 0
theorem a2a:R6 ["self","parts"] ["self","parts"] (I9 Z9):=⟨rfl,rfl,rfl,by decide +kernel,rfl,by decide +kernel,by decide +kernel⟩
noncomputable abbrev Y9:Stmt:=Z8 (top 16) 1
theorem a2q:R6 ["self","part"] ["self","part"] (I9 Y9):=⟨rfl,rfl,rfl,by decide +kernel,rfl,by decide +kernel,by decide +kernel⟩
noncomputable abbrev E5:Stmt:=Z8 (top 16) 2
theorem a2C:R6 ["self","part","name"] ["self","part","name"] (I9 E5):=⟨rfl,rfl,rfl,by decide +kernel,rfl,by decide +kernel,by decide +kernel⟩
noncomputable abbrev D3:Stmt:=Z8 (top 17) 0
theorem a1t:R6 ["self","walk","numbers"] ["self","walk","numbers"] (I9 D3):=⟨rfl,rfl,rfl,by decide +kernel,rfl,by decide +kernel,by decide +kernel⟩
noncomputable abbrev a0l:Stmt:=Z8 (top 17) 1
theorem a2H:R6 ["self","packs","pack"] ["self","packs"] (I9 a0l):=⟨rfl,rfl,rfl,by decide +kernel,rfl,by decide +kernel,by decide +kernel⟩
noncomputable abbrev a0c:Stmt:=Z8 (top 17) 2
theorem O0:R6 ["self","part","place","number","row"] ["self","part"] (I9 a0c):=⟨rfl,rfl,rfl,by decide +kernel,rfl,by decide +kernel,by decide +kernel⟩
noncomputable abbrev a0a:Stmt:=Z8 (top 17) 3
theorem a0t:R6 ["self","step"] ["self"] (I9 a0a):=⟨rfl,rfl,rfl,by decide +kernel,rfl,by decide +kernel,by decide +kernel⟩
noncomputable abbrev M0:Stmt:=Z8 (top 17) 4
theorem a1X:R6 ["self","part","where","row","word"] ["self","part","where","row"] (I9 M0):=⟨rfl,rfl,rfl,by decide +kernel,rfl,by decide +kernel,by decide +kernel⟩
noncomputable abbrev B8:Stmt:=Z8 (top 17) 5
theorem a1W:R6 ["self","part","row","key"] ["self","part","row"] (I9 B8):=⟨rfl,rfl,rfl,by decide +kernel,rfl,by decide +kernel,by decide +kernel⟩
noncomputable abbrev E4:Stmt:=Z8 (top 17) 6
theorem M3:R6 ["self","part","row","word","name"] ["self","part","row"] (I9 E4):=⟨rfl,rfl,rfl,by decide +kernel,rfl,by decide +kernel,by decide +kernel⟩
noncomputable abbrev M5:Stmt:=Z8 (top 17) 7
theorem a4E:R6 ["self","kind","part"] ["self","kind","part"] (I9 M5):=⟨rfl,rfl,rfl,by decide +kernel,rfl,by decide +kernel,by decide +kernel⟩
noncomputable abbrev D7:Stmt:=Z8 (top 17) 8
theorem a0D:R6 ["self","part","where","row","kind","value"] ["self","part","where","row"] (I9 D7):=⟨rfl,rfl,rfl,by decide +kernel,rfl,by decide +kernel,by decide +kernel⟩
noncomputable abbrev a0r:Stmt:=Z8 (top 17) 9
theorem a5B:R6 ["self","part","name","value"] ["self","part","name","value"] (I9 a0r):=⟨rfl,rfl,rfl,by decide +kernel,rfl,by decide +kernel,by decide +kernel⟩
noncomputable abbrev F5:Stmt:=Z8 (top 17) 10
theorem a2L:R6 ["self"] ["self"] (I9 F5):=⟨rfl,rfl,rfl,by decide +kernel,rfl,by decide +kernel,by decide +kernel⟩
noncomputable abbrev D1:Stmt:=Z8 (top 17) 11
theorem F2:R6 ["self","part","terms","total","sign","thing"] ["self","part","terms"] (I9 D1):=⟨rfl,rfl,rfl,by decide +kernel,rfl,by decide +kernel,by decide +kernel⟩
noncomputable abbrev O6:Stmt:=Z8 (top 17) 12
theorem a2m:R6 ["self","part","thing"] ["self","part","thing"] (I9 O6):=⟨rfl,rfl,rfl,by decide +kernel,rfl,by decide +kernel,by decide +kernel⟩
noncomputable abbrev M9:Stmt:=top 19
theorem a4I:R6 ["_law_script","_law_k"] ["_law_script","_law_k"] (I9 M9):=⟨rfl,rfl,rfl,by decide +kernel,rfl,by decide +kernel,by decide +kernel⟩
noncomputable abbrev a0G:Stmt:=top 20
theorem a6r:R6 ["_law_found"] ["_law_found"] (I9 a0G):=⟨rfl,rfl,rfl,by decide +kernel,rfl,by decide +kernel,by decide +kernel⟩
noncomputable abbrev a1g:Stmt:=top 21
theorem a2w:R6 ["_law_form","_law_k","_law_base","_law_at"] ["_law_form","_law_k"] (I9 a1g):=⟨rfl,rfl,rfl,by decide +kernel,rfl,by decide +kernel,by decide +kernel⟩
noncomputable abbrev a0w:Stmt:=top 22
theorem a5G:R6 ["_law_cell"] ["_law_cell"] (I9 a0w):=⟨rfl,rfl,rfl,by decide +kernel,rfl,by decide +kernel,by decide +kernel⟩
noncomputable abbrev a0g:Stmt:=top 23
theorem Z7:R6 ["_law_script","_law_form","_law_own","_law_there","_law_given","_law_one","_law_two","_law_three"] ["_law_script"] (I9 a0g):=⟨rfl,rfl,rfl,by decide +kernel,rfl,by decide +kernel,by decide +kernel⟩
noncomputable abbrev a0A:Stmt:=top 24
theorem B3:R6 ["_law_parts_here","_law_root","_law_value","_law_names","_law_third","_law_second","_law_found"] ["_law_parts_here","_law_root","_law_value"] (I9 a0A):=⟨rfl,rfl,rfl,by decide +kernel,rfl,by decide +kernel,by decide +kernel⟩
noncomputable abbrev a1i:Stmt:=top 25
theorem a1z:R6 ["_law_walk","_law_parts_here","_law_root","_law_numbers","_law_found","_law_value","_law_deed"] ["_law_walk","_law_parts_here","_law_root","_law_numbers"] (I9 a1i):=⟨rfl,rfl,rfl,by decide +kernel,rfl,by decide +kernel,by decide +kernel⟩
noncomputable abbrev a0e:Stmt:=top 26
theorem O1:R6 ["_law_walk","_law_parts_here","_law_name_here","_law_rows","_law_found","_law_due_here","_law_spot","_law_at","_law_brought","_law_part"] ["_law_walk","_law_parts_here"] (I9 a0e):=⟨rfl,rfl,rfl,by decide +kernel,rfl,by decide +kernel,by decide +kernel⟩
noncomputable abbrev a1f:Stmt:=top 27
theorem a1s:R6 ["_law_parts_here","_law_numbers","_law_walk","_law_name_here","_law_rows"] ["_law_parts_here","_law_numbers"] (I9 a1f):=⟨rfl,rfl,rfl,by decide +kernel,rfl,by decide +kernel,by decide +kernel⟩
noncomputable abbrev a5W:Stmt:=top 28
theorem a2e:R6 ["_law_script","_law_parts_here","_law_less","_law_numbers","_law_walk","_law_other","_law_root","_law_some"] ["_law_script"] (I9 a5W):=⟨rfl,rfl,rfl,by decide +kernel,rfl,by decide +kernel,by decide +kernel⟩
structure Txt(K:W.Frag)(mg:Str->Option Value):Prop where
 n_len:mg "len"=none
 n_range:mg "range"=none
 n_str:mg "str"=none
 n_tuple:mg "tuple"=none
 n_list:mg "list"=none
 n_dict:mg "dict"=none
 n_enumerate:mg "enumerate"=none
 n_isinstance:mg "isinstance"=none
 n_reversed:mg "reversed"=none
 n_int:mg "int"=none
 n_bool:mg "bool"=none
 d_words_of:E6 K mg "words_of" a1h
 d_pair_words:E6 K mg "pair_words" a0v
 d_sum_words:E6 K mg "sum_words" a0H
 d_when_words:E6 K mg "when_words" a0x
 d_read_names:E6 K mg "read_names" a0m
 d_sum_names:E6 K mg "sum_names" a0J
 d_when_names:E6 K mg "when_names" a0k
 d_placed_rows:E6 K mg "placed_rows" M8
 d_given_owns:E6 K mg "given_owns" a0o
 d_links:E6 K mg "links" a3o
 d_makers:E6 K mg "makers" a2f
 d_made:E6 K mg "made" a4K
 d_law_cell_at:E6 K mg "_law_cell_at" M9
 d_law_whole:E6 K mg "_law_whole" a0G
 d_law_name:E6 K mg "_law_name" a1g
 d_law_number:E6 K mg "_law_number" a0w
 d_law_parts:E6 K mg "_law_parts" a0g
 d_law_due:E6 K mg "_law_due" a0A
 d_law_gone:E6 K mg "_law_gone" a1i
 d_law_told:E6 K mg "_law_told" a0e
 d_law_bare:E6 K mg "_law_bare" a1f
structure Tc(K:W.Frag)(mg:Str->Option Value)(CP CG:Addr):Prop extends Txt K mg where
 c_PartsWalk:Cls K CP
 c_Going:Cls K CG
 g_PartsWalk:mg "PartsWalk"=some (.ref CP)
 g_Going:mg "Going"=some (.ref CG)
 nG_walk:B0 K CG "walk"
 nG_numbers:B0 K CG "numbers"
 nG_taken:B0 K CG "taken"
 nG_begun:B0 K CG "begun"
 nG_loaded:B0 K CG "loaded"
 nG_given:B0 K CG "given"
 nG_waiting:B0 K CG "waiting"
 nG_trace:B0 K CG "trace"
 nG_fault:B0 K CG "fault"
 nP_rows:B0 K CP "rows"
 nP_makers:B0 K CP "makers"
 m_load:a0W K CG "load" "Going.load" a0l
 m_begin:a0W K CG "begin" "Going.begin" a0c
 m_go_on:a0W K CG "go_on" "Going.go_on" a0a
 m_do_row:a0W K CG "do_row" "Going.do_row" M0
 m_is_off:a0W K CG "is_off" "Going.is_off" B8
 m_early_word:a0W K CG "early_word" "Going.early_word" E4
 m_enter:a0W K CG "enter" "Going.enter" M5
 m_do_work:a0W K CG "do_work" "Going.do_work" D7
 m_give:a0W K CG "give" "Going.give" a0r
 m_next_told:a0W K CG "next_told" "Going.next_told" F5
 m_value_of:a0W K CG "value_of" "Going.value_of" D1
 m_thing_value:a0W K CG "thing_value" "Going.thing_value" O6
 m_rows_of:a0W K CP "rows_of" "PartsWalk.rows_of" Y9
 m_key_of:a0W K CP "key_of" "PartsWalk.key_of" E5
 m_loads_of:a0W K CP "loads_of" "Walk.loads_of" Y3
 m_ahead_of:a0W K CP "ahead_of" "Walk.ahead_of" Y2
 m_go:a0W K CP "go" "Walk.go" M1
 i_PartsWalk:b2T K CP "PartsWalk.__init__" Z9
 i_Going:b2T K CG "Going.__init__" D3
structure Tw(K:W.Frag)(mg:Str->Option Value)(CP CG CW:Addr):Prop extends Tc K mg CP CG where
 c_Walk:Cls K CW
 g_Walk:mg "Walk"=some (.ref CW)
 mk_Walk:Mk0 K CW
 oc_PartsWalk:b4Z K CP
 is_Walk:W.kitOne K (.ref CP) (.ref CW)=some true
 w_rows_of:a0W K CW "rows_of" "Walk.rows_of" B9
 w_key_of:a0W K CW "key_of" "Walk.key_of" a0b
 w_loads_of:a0W K CW "loads_of" "Walk.loads_of" Y3
 w_ahead_of:a0W K CW "ahead_of" "Walk.ahead_of" Y2
 w_go:a0W K CW "go" "Walk.go" M1
theorem a4e{K:W.Frag}{H:Hp}:∀{vs:List V}{ps:List Pt},Paired (a1E H) vs ps->∃qs:List (Str×V),Paired (fun v(p:Str×V)=>∃t,v= .ref t/\SqT K H t [.str p.1,p.2]) vs qs/\qs.map (·.1)=ps.map (·.1)/\∀n rs,(n,rs)∈ps->∃u ws,(n,V.ref u)∈qs/\H u=some (.tup ws)/\a1B H ws rs
 | _,_,.nil=>⟨[],.nil,rfl,fun n rs h=>by simp at h⟩
 | _,_,.cons (b:=p) ⟨t,u,ws,e,h1,h2,h3⟩ hr=>by
  obtain⟨qs,g1,g2,g3⟩:=a4e (K:=K) hr
  refine⟨(p.1,.ref u)::qs,.cons ⟨t,e,SqT.of h1⟩ g1,by rw[List.map_cons,List.map_cons,g2],fun n rs h=>?_⟩
  rcases List.mem_cons.mp h with z | z
  ·rw[<-z]at h1 h3⊢
   exact⟨u,ws,AL,h2,h3⟩
  ·obtain⟨u',ws',k1,k2⟩:=g3 n rs z
   exact⟨u',ws',AN _ k1,k2⟩
section
variable{P:Program}{w:World}{K:W.Frag}{mg:Str->Option Value}{base:Heap}{CP CG CW:Addr}
theorem a5m(x:Str):∀l:List Str,inV (.str x) (l.map V.str)=decide (x∈l)
 | []=>by simp[inV]
 | a::r=>by
  have ih:=a5m x r
  unfold inV at ih⊢
  rw[List.map_cons,List.any_cons,ih]
  by_cases e:a=x
  ·subst e;simp[eqV]
  ·have h2:¬x=a:=fun z=>e z.symm
   simp[eqV,e,h2]
noncomputable def a8N (K:W.Frag):Sp:=fun vs H Q _=>∃(a:Addr)(ns:List Int),vs=[.ref a]/\SqL K H a (ns.map V.int)/\ns.length<=63/\∀H',Q (.bl true) H'
theorem a1S{α:Type}[DecidableEq α]:∀(l N:List α),l.Nodup->(∀x∈l,x∈N)->l.length<=N.length
 | [],N,_,_=>Nat.zero_le _
 | a::r,N,hn,hs=>by
  rw[List.nodup_cons]at hn
  have ha:a∈N:=hs a AL
  have h1:=a1S r (N.erase a) hn.2 fun x hx=>(List.mem_erase_of_ne (fun z=>hn.1 (by rw[<-z];exact hx))).mpr (hs x (AN _ hx))
  rw[List.length_erase_of_mem ha]at h1
  have:0 < N.length:=List.length_pos_of_mem ha
  simp only[List.length_cons];omega
theorem b0X(l:List Str)(x:Str):Y7 (a1F l) (Sum.inr x)=if x∈l then some (.bl true)else none:=by
 induction l with
 | nil=>rfl
 | cons a r ih=>
  have e:a1F (a::r)=(Sum.inr a,.bl true)::a1F r:=rfl
  rw[e]
  by_cases h:a=x
  ·subst h
   rw[D2 rfl,if_pos AL]
  ·rw[F4 (fun z=>h (Sum.inr.inj z)),ih]
   by_cases hm:x∈r
   ·rw[if_pos hm,if_pos (AN _ hm)]
   ·rw[if_neg hm,if_neg (fun z=>by rcases List.mem_cons.mp z with y | y;exact h y.symm;exact hm y)]
theorem a6j(l:List Str)(x:Str):(Y7 (a1F l) (Sum.inr x)).isSome=decide (x∈l):=by
 rw[b0X]
 by_cases h:x∈l
 ·rw[if_pos h,decide_eq_true h];rfl
 ·rw[if_neg h,AT h];rfl
theorem a3u(l:List Str)(x y:Str):y∈a2c l x↔y∈l\/y=x:=by
 unfold a2c
 by_cases h:x∈l
 ·rw[if_pos h]
  exact⟨.inl,fun z=>by rcases z with z | z;exact z;rw[z];exact h⟩
 ·rw[if_neg h,List.mem_append,AH]
structure a5j(ps:List Pt):Prop where
 nd:(ps.map (·.1)).Nodup
 hi:ps.length<=24
 rows:∀pt∈ps,pt.2.length<=40
theorem b2h{c:TT}{tb R:TS}{D:a1T}{N:L2.St->Hp->Prop}{i:Nat}{v:V}{σ:L2.St}{H:Hp}(e:N=a6C (a6D c tb) R D)(h:a6D c tb {D with nx:=R D} (σ.set i (some v)) H):a3T i v σ H N:=by
 show N (σ.set i (some v)) H
 rw[e]
 exact h
noncomputable abbrev Pl:=Str×Nat×Rw
noncomputable def E2 (n:Str) (rs:List Rw):List Pl:=rs.zipIdx.map fun x=>(n,x.2,x.1)
theorem a7M(n:Str)(rs:List Rw)(rw:Rw):E2 n (rs++[rw])=E2 n rs++[(n,rs.length,rw)]:=by
 unfold E2
 rw[List.zipIdx_append,AV]
 simp
theorem a4t(n:Str)(rs:List Rw):(E2 n rs).length=rs.length:=by unfold E2;simp
noncomputable def R9 (ps:List Pt):List Pl:=ps.flatMap fun pt=>E2 pt.1 pt.2
theorem a8p(ps:List Pt)(pt:Pt):R9 (ps++[pt])=R9 ps++E2 pt.1 pt.2:=by
 unfold R9
 rw[List.flatMap_append]
 simp
theorem a3B:∀{ps:List Pt},(∀pt∈ps,pt.2.length<=40)->(R9 ps).length<=40*ps.length
 | [],_=>by simp[R9]
 | pt::r,h=>by
  have h1:=a3B (ps:=r) fun p hp=>h p (AN _ hp)
  have h2:=h pt AL
  have e:R9 (pt::r)=E2 pt.1 pt.2++R9 r:=rfl
  rw[e,List.length_append,a4t,List.length_cons]
  omega
noncomputable def b0h (H:Hp) (v:V) (x:Pl):Prop:=∃t r,v= .ref t/\H t=some (.tup [.str x.1,.int (x.2.1:Int),.ref r])/\O5 H r x.2.2
theorem b0h.mono{H H':Hp}(s:U9 H H'){v:V}{x:Pl}(h:b0h H v x):b0h H' v x:=by
 obtain⟨t,r,e,h1,h2⟩:=h
 exact⟨t,r,e,s _ _ h1,h2.mono s⟩
noncomputable def b1m:Sp:=fun vs H Q _=>∃(a:Addr)(ps:List Pt),vs=[.ref a]/\a1o H a ps/\a5j ps/\∀(p:Addr)(vs:List V)(H':Hp),J4 H H'->H' p=some (.tup vs)->Paired (b0h H') vs (R9 ps)->Q (.ref p) H'
theorem a3K(T:Txt K mg):L2.Cl P w K mg base 1 "placed_rows" ["parts"] b1m:=by
 refine Cl.of T.d_placed_rows F8 (fun vs H Q E h=>?_) (fun _ _ _ _ _ _ us hl=>len1 us hl (fun _=>rfl)) (fun fa cdv A outer s H vs Q E hr h=>?_)
 ·obtain⟨a,ps,rfl,_⟩:=h
  rfl
 ·obtain⟨a,ps,rfl,hpf,hfit,q⟩:=h
  obtain⟨o,vs,ha,ho,hps⟩:=id hpf
  have sqa:∀{H2:Hp},J4 H H2->SqT K H2 a vs:=fun s2=> .inl (.inr ⟨o,s2 _ _ ha⟩)
  have hvl:vs.length=ps.length:=AF hps
  have hhi:=hfit.hi
  refine⟨_,(I0 (U1 (i:=1) F8.nd rfl (Or.inl rfl) (O4 G8))
   (I0 (F7 AK rfl (a1l (pv 0)) (M2 rfl (R7 (R5 (i:=2) F8.nd rfl (Or.inl rfl)) (R7 (R5 (i:=3) F8.nd rfl (Or.inl rfl)) F3)))
    (J1 (F7 AK rfl (a4A (by rfl) T.n_enumerate (G0 (pv 3) G8)) (M2 rfl (R7 (R5 (i:=4) F8.nd rfl (Or.inl rfl)) (R7 (R5 (i:=5) F8.nd rfl (Or.inl rfl)) F3)))
     (J1 (Y0 (a2F PySem.F.plainAttrs_list PySem.F.slot_list_append PySem.F.type_list_append D8 (pv 1) (G0 (J5 (G0 (pv 2) (G0 (pv 4) (G0 (pv 5) G8)))) G8)))))))
   (J1 (R3 (W8 U7 (by rfl) T.n_tuple boot_tuple (G0 (pv 1) G8)))))),?_⟩
  refine⟨a1r,fun l gl=>?_⟩
  have s1:J4 H (upd H l (.lst [])):=(J4.refl H).new gl
  refine⟨_,rfl,a,rfl,⟨_,sqa s1⟩,a0n (K:=K) (a:=a) (xs:=vs) (fun i σ H2=>∃(us:List V)(v2 v3 v4 v5:Option V),σ=[some (.ref a),some (.ref l),v2,v3,v4,v5]/\J4 H H2/\H2 l=some (.lst us)/\Paired (b0h H2) us (R9 (ps.take i)))
   ⟨[],none,none,none,none,rfl,s1,G7,by rw[List.take_zero];exact .nil⟩ (fun i σ H2 _⟨_,_,_,_,_,_,s2,_⟩=>sqa s2) ?_ ?_⟩
  ·rintro i y σ H2 hy ⟨us,v2,v3,v4,v5,rfl,s2,hl2,hus⟩
   obtain⟨pt,hpt,t,u,ws,ey,ht,hu',hrs⟩:=Paired.get? hps hy
   subst ey
   have hi:i < vs.length:=(AO.mp hy).1
   have hr40:=hfit.rows _ (AX hpt)
   have hpl:(R9 (ps.take i)).length<=40*23:=by
    have h1:=a3B (ps:=ps.take i) fun p hp=>hfit.rows p (List.mem_of_mem_take hp)
    rw[AR]at h1
    omega
   have hwl:ws.length=pt.2.length:=AF hrs
   refine⟨t,_,rfl,SqT.of (s2 _ _ ht),rfl,_,_,rfl,_,_,rfl,rfl,?_⟩
   refine⟨_,rfl,u,rfl,⟨_,SqT.of (s2 _ _ hu')⟩,a7K (K:=K) (a:=u) (xs:=ws) (fun j σ H3=>∃(us:List V)(v4 v5:Option V),σ=[some (.ref a),some (.ref l),some (.str pt.1),some (.ref u),v4,v5]/\J4 H H3/\H3 l=some (.lst us)/\Paired (b0h H3) us (R9 (ps.take i)++E2 pt.1 (pt.2.take j)))
    ⟨us,_,_,rfl,s2,hl2,by rw[List.take_zero];show Paired _ us (R9 (ps.take i)++[]);rw[List.append_nil];exact hus⟩ (fun j σ H3 _⟨_,_,_,_,s3,_⟩=>SqT.of (s3 _ _ hu')) ?_ ?_⟩
   ·rintro j y p σ H3 hy3 ⟨us3,w4,w5,rfl,s3,hl3,hus3⟩ hp
    obtain⟨rw,hrw,r,er,hra⟩:=Paired.get? hrs hy3
    subst er
    have hj:j < pt.2.length:=(AO.mp hrw).1
    have hul:us3.length=(R9 (ps.take i)).length+j:=by
     rw[AF hus3,List.length_append,a4t,AR];omega
    have s4:J4 H3 (upd H3 p (.tup [.int (j:Int),.ref r])):=(J4.refl H3).new hp
    refine⟨p,_,rfl,SqT.of G7,rfl,_,_,rfl,_,_,rfl,rfl,?_⟩
    refine⟨_,rfl,.inl ⟨rfl,_,SqL.of (s4 _ _ hl3)⟩,_,rfl,_,rfl,_,rfl,a2b,fun c gc=>?_⟩
    have s5:=s4.new (o:= .tup [.str pt.1,.int (j:Int),.ref r]) gc
    refine⟨l,_,_,rfl,rfl,s5 _ _ hl3,U5 (by omega),?_⟩
    have T5:=s5.tups.trans (U9.lst (ys:=us3++[.ref c]) (s5 _ _ hl3))
    have hne:c≠l:=fun z=>by rw[z]at gc;rw[s4 _ _ hl3]at gc;cases gc
    refine⟨us3++[.ref c],_,_,rfl,(s3.trans s5).put gl,G7,?_⟩
    rw[U3 hrw,a7M,<-List.append_assoc]
    refine Paired.snoc (Paired.mapP hus3 fun _ _ z=>z.mono T5) ⟨c,r,rfl,?_,((hra.mono s3.tups).mono T5)⟩
    rw[J0 hne,G7]
    have:(pt.2.take j).length=j:=by rw[AR];omega
    simp only[this]
   ·rintro σ H3 ⟨us3,w4,w5,rfl,s3,hl3,hus3⟩
    rw[hwl,List.take_length]at hus3
    refine⟨us3,_,_,_,_,rfl,s3,hl3,?_⟩
    rw[U3 hpt,a8p]
    exact hus3
  ·rintro σ H2 ⟨us,v2,v3,v4,v5,rfl,s2,hl2,hus⟩
   rw[hvl,List.take_length]at hus
   refine⟨_,rfl,l,_,rfl,.inl ⟨SqL.of hl2,fun p gp=>?_⟩⟩
   have s3:J4 H2 (upd H2 p (.tup us)):=(J4.refl H2).new gp
   exact q p us _ (s2.trans s3) G7 (Paired.mapP hus fun _ _ z=>z.mono s3.tups)
noncomputable def b1Q:Rw->Option Str
 | .set o _=>some o
 | .take o=>some o
 | _=>none
noncomputable def Z0 (k:Str×Str):List Key:=[Sum.inr k.1,Sum.inr k.2]
theorem a2l{a b:Str×Str}(h:Z0 a=Z0 b):a=b:=by
 unfold Z0 at h
 simp only[List.cons.injEq,Sum.inr.injEq,and_true]at h
 exact Prod.ext h.1 h.2
theorem U9.dT{H:Hp}{l:Addr}{kvs kvs':List (List Key×V)}(h:H l=some (.dT kvs)):U9 H (upd H l (.dT kvs')):=fun b zs q=>by
 rw[J0 (E9 q h (by intro z;cases z))]
 exact q
theorem a3f{κ:Type}[DecidableEq κ]{kvs:List (κ×V)}{k:κ}{v:V}(h:k∉kvs.map (·.1)):O2 kvs k v=kvs++[(k,v)]:=by
 unfold O2
 rw[if_neg]
 intro z
 obtain⟨p,hp,e⟩:=List.any_eq_true.mp z
 exact h (by rw[<-of_decide_eq_true e];exact AM (f:=(·.1)) hp)
theorem b2P{H:Hp}{r:Addr}{rw:Rw}(h:O5 H r rw):(∃o rest,(Z5 rw="set" \/Z5 rw="take")/\b1Q rw=some o/\H r=some (.tup (.str (Z5 rw):: .str o::rest)))\/(¬(Z5 rw="set" \/Z5 rw="take")/\b1Q rw=none):=by
 cases rw with
 | set o ts=>obtain⟨t,h1,h2⟩:=h;exact .inl ⟨o,_,.inl rfl,rfl,h1⟩
 | take o=>exact .inl ⟨o,_,.inr rfl,rfl,h⟩
 | _=>exact .inr ⟨by simp only[Z5];decide +kernel,rfl⟩
theorem b3z(k a b:Str):inV (.str k) [.str a,.str b]=decide (k=a\/k=b):=by
 have:=a5m k [a,b]
 simpa using this
noncomputable abbrev Kk:=Str×Str
noncomputable def Y4 (pls:List Pl):List (Kk×(Str×Nat)):=pls.filterMap fun x=>(b1Q x.2.2).map fun o=>((x.1,o),(x.1,x.2.1))
noncomputable def a7T:Rw->Option (Str×Str)
 | .give o g=>some (o,g)
 | _=>none
noncomputable def O3 (pls:List Pl):List (Kk×Str):=pls.filterMap fun x=>(a7T x.2.2).map fun q=>((x.1,q.2),q.1)
noncomputable def a1w:Rw->List (Str×(Str×Str))
 | .bring m ps=>ps.map fun q=>(m,q)
 | _=> []
noncomputable def Y8 (pls:List Pl):List (Kk×Kk):=pls.flatMap fun x=>(a1w x.2.2).map fun q=>((x.1,q.2.2),(q.1,q.2.1))
noncomputable def a6S (gls:List (Kk×Str)) (k:Kk):Str:=((gls.find? fun y=>decide (y.1=k)).map (·.2)).getD ""
theorem a4s:∀{gls:List (Kk×Str)}{k:Kk}{o:Str},(gls.map (·.1)).Nodup->(k,o)∈gls->a6S gls k=o
 | [],k,o,_,h=>by simp at h
 | y::r,k,o,hn,h=>by
  rw[List.map_cons,List.nodup_cons]at hn
  rcases List.mem_cons.mp h with e | e
  ·unfold a6S
   rw[List.find?_cons_of_pos (by rw[<-e];simp),<-e];rfl
  ·have hne:¬y.1=k:=fun z=>hn.1 (by rw[z];exact AM (f:=(·.1)) e)
   have:=a4s hn.2 e
   unfold a6S at this⊢
   rw[List.find?_cons_of_neg (by simpa using hne)]
   exact this
noncomputable def B2 (pls:List Pl):List (Kk×Kk):=(Y8 pls).map fun x=>(x.1,(x.2.1,a6S (O3 pls) x.2))
inductive Mk (mls:List (Kk×(Str×Nat))) (ls:List (Kk×Kk)):Kk->Str×Nat->Prop where
 | base {k:Kk} {p:Str×Nat}:(k,p)∈mls->Mk mls ls k p
 | step {k k':Kk} {p:Str×Nat}:(k,k')∈ls->Mk mls ls k' p->Mk mls ls k p
structure a0K(pls:List Pl):Prop where
 keys:((Y4 pls).map (·.1)++(Y8 pls).map (·.1)).Nodup
 gk:((O3 pls).map (·.1)).Nodup
 gv:∀x∈Y8 pls,∃o,(x.2,o)∈O3 pls
 ow:∀y∈O3 pls,(y.1.1,y.2)∈(Y4 pls).map (·.1)++(Y8 pls).map (·.1)
 rk:∃r:Kk->Nat,∀x∈B2 pls,r x.2 < r x.1
 len:pls.length<=960
 brs:∀x∈pls,(a1w x.2.2).length<=6
theorem a4y(pls:List Pl):(B2 pls).map (·.1)=(Y8 pls).map (·.1):=by
 unfold B2
 rw[List.map_map]
 rfl
theorem a0K.tgt{pls:List Pl}(n:a0K pls){x:Kk×Kk}(hx:x∈B2 pls):x.2∈(Y4 pls).map (·.1)\/x.2∈(B2 pls).map (·.1):=by
 obtain⟨y,hy,e⟩:=AY.mp hx
 obtain⟨o,ho⟩:=n.gv y hy
 have h1:=a4s n.gk ho
 have h2:=n.ow _ ho
 rw[<-e]
 show(y.2.1,a6S (O3 pls) y.2)∈_\/_
 rw[h1,a4y]
 exact List.mem_append.mp h2
theorem a0K.mkNodup{pls:List Pl}(n:a0K pls):((Y4 pls).map (·.1)).Nodup:=(AZ.mp n.keys).1
theorem a0K.lkNodup{pls:List Pl}(n:a0K pls):((B2 pls).map (·.1)).Nodup:=by rw[a4y];exact(AZ.mp n.keys).2.1
theorem a0K.apart{pls:List Pl}(n:a0K pls){k:Kk}(h1:k∈(Y4 pls).map (·.1))(h2:k∈(B2 pls).map (·.1)):False:=(AZ.mp n.keys).2.2 k h1 k (by rw[<-a4y];exact h2) rfl
theorem a4U{α β:Type}:∀{l:List (α×β)}{k:α}{a b:β},(l.map (·.1)).Nodup->(k,a)∈l->(k,b)∈l->a=b
 | [],_,_,_,_,h,_=>by simp at h
 | y::r,k,a,b,hn,h1,h2=>by
  rw[List.map_cons,List.nodup_cons]at hn
  rcases List.mem_cons.mp h1 with e1 | e1<;>rcases List.mem_cons.mp h2 with e2 | e2
  ·rw[<-e1]at e2;exact(Prod.mk.inj e2).2.symm
  ·exact absurd (by rw[<-e1];exact AM (f:=(·.1)) e2) hn.1
  ·exact absurd (by rw[<-e2];exact AM (f:=(·.1)) e1) hn.1
  ·exact a4U hn.2 e1 e2
theorem a0K.uniq{pls:List Pl}(n:a0K pls){k:Kk}{p q:Str×Nat}(h1:Mk (Y4 pls) (B2 pls) k p)(h2:Mk (Y4 pls) (B2 pls) k q):p=q:=by
 induction h1 with
 | base h=>
  cases h2 with
  | base h'=>exact a4U n.mkNodup h h'
  | step h' _=>exact(n.apart (AM (f:=(·.1)) h) (AM (f:=(·.1)) h')).elim
 | step h _ ih=>
  cases h2 with
  | base h'=>exact(n.apart (AM (f:=(·.1)) h') (AM (f:=(·.1)) h)).elim
  | step h' hm=>
   have:=a4U n.lkNodup h h'
   subst this
   exact ih hm
noncomputable def a5y (H:Hp) (kv:List Key×V) (x:Kk×(Str×Nat)):Prop:=kv.1=Z0 x.1/\∃t,kv.2= .ref t/\H t=some (.tup [.str x.2.1,.int (x.2.2:Int)])
noncomputable def a6K (H:Hp) (kv:List Key×V) (x:Kk×Kk):Prop:=kv.1=Z0 x.1/\∃t,kv.2= .ref t/\H t=some (.tup [.str x.2.1,.str x.2.2])
noncomputable def b4m (kv:List Key×V) (x:Kk×Str):Prop:=kv.1=Z0 x.1/\kv.2= .str x.2
theorem a5y.mono{H H':Hp}(s:U9 H H'){kv:List Key×V}{x:Kk×(Str×Nat)}(h:a5y H kv x):a5y H' kv x:=by
 obtain⟨e,t,e2,h⟩:=h
 exact⟨e,t,e2,s _ _ h⟩
theorem a6K.mono{H H':Hp}(s:U9 H H'){kv:List Key×V}{x:Kk×Kk}(h:a6K H kv x):a6K H' kv x:=by
 obtain⟨e,t,e2,h⟩:=h
 exact⟨e,t,e2,s _ _ h⟩
theorem a6H{β:Type}{F:List Key×V->Kk×β->Prop}(hF:∀kv x,F kv x->kv.1=Z0 x.1):∀{kvs:List (List Key×V)}{xs:List (Kk×β)},Paired F kvs xs->kvs.map (·.1)=(xs.map (·.1)).map Z0
 | _,_,.nil=>rfl
 | _,_,.cons h t=>by rw[List.map_cons,List.map_cons,List.map_cons,a6H hF t,hF _ _ h]
theorem a4V{β:Type}{F:List Key×V->Kk×β->Prop}(hF:∀kv x,F kv x->kv.1=Z0 x.1):∀{kvs:List (List Key×V)}{xs:List (Kk×β)}{x:Kk×β},Paired F kvs xs->(xs.map (·.1)).Nodup->x∈xs->∃kv,F kv x/\Y7 kvs (Z0 x.1)=some kv.2
 | _,_,x,.nil,_,h=>by simp at h
 | _,_,x,.cons (a:=kv) (b:=y) hy t,hn,h=>by
  rw[List.map_cons,List.nodup_cons]at hn
  rcases List.mem_cons.mp h with e | e
  ·subst e
   exact⟨kv,hy,D2 (hF _ _ hy)⟩
  ·obtain⟨kv',h1,h2⟩:=a4V hF t hn.2 e
   refine⟨kv',h1,?_⟩
   rw[F4 (fun z=>hn.1 ?_)]
   ·exact h2
   ·have:Z0 y.1=Z0 x.1:=(hF _ _ hy).symm.trans z
    rw[a2l this]
    exact AM (f:=(·.1)) e
theorem a7w{β:Type}{F:List Key×V->Kk×β->Prop}(hF:∀kv x,F kv x->kv.1=Z0 x.1):∀{kvs:List (List Key×V)}{xs:List (Kk×β)}{k:Kk},Paired F kvs xs->k∉xs.map (·.1)->Y7 kvs (Z0 k)=none
 | _,_,k,.nil,_=>rfl
 | _,_,k,.cons (a:=kv) (b:=y) hy t,h=>by
  rw[List.map_cons,List.mem_cons,not_or]at h
  rw[F4 (fun z=>h.1 (a2l ((hF _ _ hy).symm.trans z)).symm)]
  exact a7w hF t h.2
theorem a6M{β:Type}{F:List Key×V->Kk×β->Prop}(hF:∀kv x,F kv x->kv.1=Z0 x.1){kvs:List (List Key×V)}{xs:List (Kk×β)}{k:Kk}(h:Paired F kvs xs)(hk:k∉xs.map (·.1)):Z0 k∉kvs.map (·.1):=by
 rw[a6H hF h]
 intro z
 obtain⟨k',h1,h2⟩:=AY.mp z
 rw[a2l h2]at h1
 exact hk h1
theorem a5n{α β:Type}{l:List (α×β)}{a b:List (α×β)}(h:(l.map (·.1)).Nodup)(e:l=a++b):(a.map (·.1)).Nodup:=by
 rw[e,AV]at h
 exact(AZ.mp h).1
theorem a9d(a b:List Pl):Y4 (a++b)=Y4 a++Y4 b:=by unfold Y4;rw[List.filterMap_append]
theorem a9f(a b:List Pl):O3 (a++b)=O3 a++O3 b:=by unfold O3;rw[List.filterMap_append]
theorem a8K(a b:List Pl):Y8 (a++b)=Y8 a++Y8 b:=by unfold Y8;rw[List.flatMap_append]
theorem a9w(pls:List Pl)(i:Nat):Y4 pls=Y4 (pls.take i)++Y4 (pls.drop i):=by rw[<-a9d,List.take_append_drop]
theorem b0w(pls:List Pl)(i:Nat):O3 pls=O3 (pls.take i)++O3 (pls.drop i):=by rw[<-a9f,List.take_append_drop]
theorem a9t(pls:List Pl)(i:Nat):Y8 pls=Y8 (pls.take i)++Y8 (pls.drop i):=by rw[<-a8K,List.take_append_drop]
theorem a9e(pls:List Pl):(Y4 pls).length<=pls.length:=List.length_filterMap_le _ _
theorem b2C(pls:List Pl):(O3 pls).length<=pls.length:=List.length_filterMap_le _ _
theorem a6V:∀{pls:List Pl},(∀x∈pls,(a1w x.2.2).length<=6)->(Y8 pls).length<=6*pls.length
 | [],_=>by simp[Y8]
 | x::r,h=>by
  have h1:=a6V (pls:=r) fun y hy=>h y (AN _ hy)
  have h2:=h x AL
  have e:Y8 (x::r)=((a1w x.2.2).map fun q=>((x.1,q.2.2),(q.1,q.2.1)))++Y8 r:=rfl
  rw[e,List.length_append,AI,List.length_cons]
  omega
theorem szK{n:Nat}(h:n<=10000):n < sizeLine:=by
 have:sizeLine=16777216:=sizeLine_eq
 omega
noncomputable def b2A:Sp:=fun vs H Q _=>∃(a:Addr)(ps:List Pt),vs=[.ref a]/\a1o H a ps/\a5j ps/\a0K (R9 ps)/\∀(d:Addr)(kvs:List (List Key×V))(H':Hp),J4 H H'->H d=none->H' d=some (.dT kvs)->Paired (a5y H') kvs (Y4 (R9 ps))->Q (.ref d) H'
theorem b2N(T:Txt K mg):L2.Cl P w K mg base 2 "made" ["parts"] b2A:=by
 have C_placed_rows:=a3K (P:=P) (w:=w) (base:=base) T
 refine Cl.of T.d_made a3b (fun vs H Q E h=>?_) (fun _ _ _ _ _ _ us hl=>len1 us hl (fun _=>rfl)) (fun fa cdv A outer s H vs Q E hr h=>?_)
 ·obtain⟨a,ps,rfl,_⟩:=h
  rfl
 ·obtain⟨a,ps,rfl,hpf,hfit,hnet,q⟩:=h
  have hu:=a0O hr
  have hpl:=hnet.len
  refine⟨_,(I0 (U1 (i:=1) a3b.nd rfl (Or.inl rfl) a2d)
   (I0 (F7 AK rfl (a1l (W2 C_placed_rows hr (by rfl) (G0 (pv 0) G8))) (M2 rfl (R7 (R5 (i:=2) a3b.nd rfl (Or.inl rfl)) (R7 (R5 (i:=3) a3b.nd rfl (Or.inl rfl)) (R7 (R5 (i:=4) a3b.nd rfl (Or.inl rfl)) F3))))
    (J1 (W1 (U0 a5U (J7 J9 (pv 4) G9 (fun _ _=>rfl)) (J5 (G0 R4 (G0 R4 G8))) (by with_unfolding_all rfl))
     (J1 (a1x hu (pv 1) (J5 (G0 (pv 2) (G0 (J7 J9 (pv 4) G9 (fun _ _=>rfl)) G8))) (J5 (G0 (pv 2) (G0 (pv 3) G8))) rfl)) R8)))
   (J1 (R3 (pv 1))))),?_⟩
  intro d gd
  have s1:J4 H (upd H d (.dT [])):=(J4.refl H).new gd
  refine⟨_,rfl,a,ps,rfl,s1.partsF hpf,hfit,fun p vs H1 s2 hp hvs=>?_⟩
  have s12:=s1.trans s2
  have hd1:H1 d=some (.dT []):=s2 _ _ G7
  have hvl:vs.length=(R9 ps).length:=AF hvs
  refine⟨p,rfl,⟨_,SqT.of hp⟩,a0n (K:=K) (a:=p) (xs:=vs) (fun i σ H2=>∃(kvs:List (List Key×V))(v2 v3 v4:Option V),σ=[some (.ref a),some (.ref d),v2,v3,v4]/\J4 H H2/\H2 p=some (.tup vs)/\U9 H1 H2/\H2 d=some (.dT kvs)/\Paired (a5y H2) kvs (Y4 ((R9 ps).take i)))
   ⟨[],none,none,none,rfl,s12,hp,U9.refl H1,hd1,by rw[List.take_zero];exact .nil⟩ (fun i σ H2 _⟨_,_,_,_,_,_,h,_⟩=>SqT.of h) ?_ ?_⟩
  ·rintro i y σ H2 hy ⟨kvs,v2,v3,v4,rfl,s3,hp2,T2,hd2,hk⟩
   obtain⟨⟨n,j,rw⟩,hx,t,r,ey,ht,hra⟩:=Paired.get? hvs hy
   subst ey
   have hra2:=hra.mono T2
   have htk:Y4 ((R9 ps).take (i+1))=Y4 ((R9 ps).take i)++Y4 [(n,j,rw)]:=by
    rw[U3 hx,a9d]
   have hkl:kvs.length<=960:=by
    rw[AF hk]
    have h2:=a9e ((R9 ps).take i)
    rw[AR]at h2
    omega
   refine⟨t,_,rfl,SqT.of (T2 _ _ ht),rfl,_,_,rfl,_,_,rfl,_,_,rfl,rfl,?_⟩
   rcases b2P hra2 with⟨o,rest,hkd,ho,hrt⟩ | ⟨hkd,ho⟩
   ·have z0:atI (V.str (Z5 rw)::V.str o::rest) 0=some (.str (Z5 rw)):=J6 (j:=0) rfl
    have z1:atI (V.str (Z5 rw)::V.str o::rest) 1=some (.str o):=J6 (j:=1) rfl
    refine⟨_,rfl,r,_,_,_,rfl,rfl,SqT.of hrt,z0,E1,fun c gc=>?_⟩
    have s4:J4 H2 (upd H2 c (.tup [.str "set",.str "take"])):=(J4.refl H2).new gc
    refine⟨c,_,rfl,.inr (SqT.of G7),rfl,rfl,_,rfl,?_⟩
    rw[if_neg (by decide),b3z,decide_eq_true hkd]
    refine a0I ?_
    refine⟨_,rfl,_,rfl,E1,fun e ge=>?_⟩
    have s5:=s4.new (o:= .tup [.str n,.int (j:Int)]) ge
    refine⟨_,rfl,_,rfl,_,rfl,r,_,_,_,rfl,rfl,SqT.of (s5 _ _ hrt),z1,E1,fun g gg=>?_⟩
    have s6:=s5.new (o:= .tup [.str n,.str o]) gg
    have hd6:=s6 _ _ hd2
    have hg6:upd (upd (upd H2 c (.tup [.str "set",.str "take"])) e (.tup [.str n,.int (j:Int)])) g (.tup [.str n,.str o]) g=some (.tup ((Z0 (n,o)).map kV)):=G7
    refine⟨d,_,rfl,a3F.t (k:=Z0 (n,o)) hd6 hg6 (szK (by omega)),?_⟩
    have h3:Y4 [(n,j,rw)]=[((n,o),(n,j))]:=by simp[Y4,ho]
    have hnew:Z0 (n,o)∉kvs.map (·.1):=a6M (fun _ _ h=>h.1) hk (fun z=>by
     have h1:=a5n hnet.mkNodup (a9w (R9 ps) (i+1))
     rw[htk,h3,AV]at h1
     exact(AZ.mp h1).2.2 _ z _ (AH.mpr rfl) rfl)
    rw[a3f hnew]
    have T6:=s6.tups.trans (U9.dT (kvs':=kvs++[(Z0 (n,o),.ref e)]) hd6)
    refine⟨kvs++[(Z0 (n,o),.ref e)],_,_,_,rfl,(s3.trans s6).put gd,T6 _ _ hp2,T2.trans T6,G7,?_⟩
    rw[htk,h3]
    refine Paired.snoc (Paired.mapP hk fun _ _ z=>z.mono T6) ⟨rfl,e,rfl,U9.dT (kvs':=kvs++[(Z0 (n,o),.ref e)]) hd6 _ _ (J2 G7 gg)⟩
   ·obtain⟨x1,rest,hrt⟩:=hra2.kind
    have z0:atI (V.str (Z5 rw)::x1::rest) 0=some (.str (Z5 rw)):=J6 (j:=0) rfl
    refine⟨_,rfl,r,_,_,_,rfl,rfl,SqT.of hrt,z0,E1,fun c gc=>?_⟩
    have s4:J4 H2 (upd H2 c (.tup [.str "set",.str "take"])):=(J4.refl H2).new gc
    refine⟨c,_,rfl,.inr (SqT.of G7),rfl,rfl,_,rfl,?_⟩
    rw[if_neg (by decide),b3z,AT hkd]
    refine O7 ?_
    have h3:Y4 [(n,j,rw)]=[]:=by simp[Y4,ho]
    exact⟨kvs,_,_,_,rfl,s3.trans s4,s4 _ _ hp2,T2.trans s4.tups,s4 _ _ hd2,by rw[htk,h3,List.append_nil];exact Paired.mapP hk fun _ _ z=>z.mono s4.tups⟩
  ·rintro σ H2 ⟨kvs,v2,v3,v4,rfl,s3,hp2,T2,hd2,hk⟩
   rw[hvl,List.take_length]at hk
   exact⟨_,rfl,q d kvs H2 s3 gd hd2 hk⟩
theorem b0L{H:Hp}{r:Addr}{rw:Rw}(h:O5 H r rw):(∃o g,a7T rw=some (o,g)/\H r=some (.tup [.str "give",.str o,.str g]))\/(¬Z5 rw="give"/\a7T rw=none):=by
 cases rw with
 | give o g=>exact .inl ⟨o,g,rfl,h⟩
 | _=>exact .inr ⟨by simp only[Z5];decide +kernel,rfl⟩
theorem a9Y{H:Hp}{r:Addr}{rw:Rw}(h:O5 H r rw):(∃m ps t,rw= .bring m ps/\H r=some (.tup [.str "bring",.str m,.ref t])/\a1R H t ps)\/(¬Z5 rw="bring"/\a1w rw=[]):=by
 cases rw with
 | bring m ps=>obtain⟨t,h1,h2⟩:=h;exact .inl ⟨m,ps,t,rfl,h1,h2⟩
 | _=>exact .inr ⟨by simp only[Z5];decide +kernel,rfl⟩
noncomputable def a7G:Sp:=fun vs H Q _=>∃(a:Addr)(ps:List Pt),vs=[.ref a]/\a1o H a ps/\a5j ps/\a0K (R9 ps)/\∀(d:Addr)(kvs:List (List Key×V))(H':Hp),J4 H H'->H' d=some (.dT kvs)->Paired b4m kvs (O3 (R9 ps))->Q (.ref d) H'
theorem a5O(T:Txt K mg):L2.Cl P w K mg base 2 "given_owns" ["parts"] a7G:=by
 have C_placed_rows:=a3K (P:=P) (w:=w) (base:=base) T
 refine Cl.of T.d_given_owns M7 (fun vs H Q E h=>?_) (fun _ _ _ _ _ _ us hl=>len1 us hl (fun _=>rfl)) (fun fa cdv A outer s H vs Q E hr h=>?_)
 ·obtain⟨a,ps,rfl,_⟩:=h
  rfl
 ·obtain⟨a,ps,rfl,hpf,hfit,hnet,q⟩:=h
  have hu:=a0O hr
  have hpl:=hnet.len
  refine⟨_,(I0 (U1 (i:=1) M7.nd rfl (Or.inl rfl) a2d)
   (I0 (F7 AK rfl (a1l (W2 C_placed_rows hr (by rfl) (G0 (pv 0) G8))) (M2 rfl (R7 (R5 (i:=2) M7.nd rfl (Or.inl rfl)) (R7 (R5 (i:=3) M7.nd rfl (Or.inl rfl)) (R7 (R5 (i:=4) M7.nd rfl (Or.inl rfl)) F3))))
    (J1 (W1 (U0 D4 (J7 J9 (pv 4) G9 (fun _ _=>rfl)) R4 (U8 _))
     (J1 (a1x hu (pv 1) (J5 (G0 (pv 2) (G0 (J7 J9 (pv 4) G9 (fun _ _=>rfl)) G8))) (J7 J9 (pv 4) G9 (fun _ _=>rfl)) rfl)) R8)))
   (J1 (R3 (pv 1))))),?_⟩
  intro d gd
  have s1:J4 H (upd H d (.dT [])):=(J4.refl H).new gd
  refine⟨_,rfl,a,ps,rfl,s1.partsF hpf,hfit,fun p vs H1 s2 hp hvs=>?_⟩
  have s12:=s1.trans s2
  have hd1:H1 d=some (.dT []):=s2 _ _ G7
  have hvl:vs.length=(R9 ps).length:=AF hvs
  refine⟨p,rfl,⟨_,SqT.of hp⟩,a0n (K:=K) (a:=p) (xs:=vs) (fun i σ H2=>∃(kvs:List (List Key×V))(v2 v3 v4:Option V),σ=[some (.ref a),some (.ref d),v2,v3,v4]/\J4 H H2/\H2 p=some (.tup vs)/\U9 H1 H2/\H2 d=some (.dT kvs)/\Paired b4m kvs (O3 ((R9 ps).take i)))
   ⟨[],none,none,none,rfl,s12,hp,U9.refl H1,hd1,by rw[List.take_zero];exact .nil⟩ (fun i σ H2 _⟨_,_,_,_,_,_,h,_⟩=>SqT.of h) ?_ ?_⟩
  ·rintro i y σ H2 hy ⟨kvs,v2,v3,v4,rfl,s3,hp2,T2,hd2,hk⟩
   obtain⟨⟨n,j,rw⟩,hx,t,r,ey,ht,hra⟩:=Paired.get? hvs hy
   subst ey
   have hra2:=hra.mono T2
   have htk:O3 ((R9 ps).take (i+1))=O3 ((R9 ps).take i)++O3 [(n,j,rw)]:=by
    rw[U3 hx,a9f]
   have hkl:kvs.length<=960:=by
    rw[AF hk]
    have h2:=b2C ((R9 ps).take i)
    rw[AR]at h2
    omega
   refine⟨t,_,rfl,SqT.of (T2 _ _ ht),rfl,_,_,rfl,_,_,rfl,_,_,rfl,rfl,?_⟩
   rcases b0L hra2 with⟨o,g,ho,hrt⟩ | ⟨hkd,ho⟩
   ·refine⟨_,rfl,r,_,_,_,rfl,rfl,SqT.of hrt,rfl,rfl,_,rfl,a1a ?_⟩
    refine⟨_,rfl,r,_,_,_,rfl,rfl,SqT.of hrt,rfl,_,rfl,_,rfl,_,rfl,r,_,_,_,rfl,rfl,SqT.of hrt,rfl,E1,fun e ge=>?_⟩
    have s6:J4 H2 (upd H2 e (.tup [.str n,.str g])):=(J4.refl H2).new ge
    have hd6:=s6 _ _ hd2
    have hg6:upd H2 e (.tup [.str n,.str g]) e=some (.tup ((Z0 (n,g)).map kV)):=G7
    refine⟨d,_,rfl,a3F.t (k:=Z0 (n,g)) hd6 hg6 (szK (by omega)),?_⟩
    have h3:O3 [(n,j,rw)]=[((n,g),o)]:=by simp[O3,ho]
    have hnew:Z0 (n,g)∉kvs.map (·.1):=a6M (fun _ _ h=>h.1) hk (fun z=>by
     have h1:=a5n hnet.gk (b0w (R9 ps) (i+1))
     rw[htk,h3,AV]at h1
     exact(AZ.mp h1).2.2 _ z _ (AH.mpr rfl) rfl)
    rw[a3f hnew]
    have T6:=s6.tups.trans (U9.dT (kvs':=kvs++[(Z0 (n,g),.str o)]) hd6)
    refine⟨kvs++[(Z0 (n,g),.str o)],_,_,_,rfl,(s3.trans s6).put gd,T6 _ _ hp2,T2.trans T6,G7,?_⟩
    rw[htk,h3]
    exact Paired.snoc hk ⟨rfl,rfl⟩
   ·obtain⟨x1,rest,hrt⟩:=hra2.kind
    have z0:atI (V.str (Z5 rw)::x1::rest) 0=some (.str (Z5 rw)):=J6 (j:=0) rfl
    refine⟨_,rfl,r,_,_,_,rfl,rfl,SqT.of hrt,z0,rfl,_,rfl,Z6 hkd ?_⟩
    have h3:O3 [(n,j,rw)]=[]:=by simp[O3,ho]
    exact⟨kvs,_,_,_,rfl,s3,hp2,T2,hd2,by rw[htk,h3,List.append_nil];exact hk⟩
  ·rintro σ H2 ⟨kvs,v2,v3,v4,rfl,s3,hp2,T2,hd2,hk⟩
   rw[hvl,List.take_length]at hk
   exact⟨_,rfl,q d kvs H2 s3 hd2 hk⟩
noncomputable def llG (G:List (Kk×Str)) (bs:List (Kk×Kk)):List (Kk×Kk):=bs.map fun x=>(x.1,(x.2.1,a6S G x.2))
theorem b2H(G:List (Kk×Str))(a b:List (Kk×Kk)):llG G (a++b)=llG G a++llG G b:=by unfold llG;rw[AV]
theorem b1h(G:List (Kk×Str))(bs:List (Kk×Kk)):(llG G bs).map (·.1)=bs.map (·.1):=by unfold llG;rw[List.map_map];rfl
noncomputable def a4i (n m:Str) (prs:List (Str×Str)):List (Kk×Kk):=prs.map fun q=>((n,q.2),(m,q.1))
theorem a8L(n:Str)(j:Nat)(m:Str)(prs:List (Str×Str)):Y8 [(n,j,.bring m prs)]=a4i n m prs:=by
 unfold Y8 a4i a1w
 simp
noncomputable def b2y:Sp:=fun vs H Q _=>∃(a:Addr)(ps:List Pt),vs=[.ref a]/\a1o H a ps/\a5j ps/\a0K (R9 ps)/\∀(d:Addr)(kvs:List (List Key×V))(H':Hp),J4 H H'->H d=none->H' d=some (.dT kvs)->Paired (a6K H') kvs (B2 (R9 ps))->Q (.ref d) H'
theorem b1i(T:Txt K mg):L2.Cl P w K mg base 3 "links" ["parts"] b2y:=by
 have C_placed_rows:=a3K (P:=P) (w:=w) (base:=base) T
 have C_given_owns:=a5O (P:=P) (w:=w) (base:=base) T
 refine Cl.of T.d_links a0F (fun vs H Q E h=>?_) (fun _ _ _ _ _ _ us hl=>len1 us hl (fun _=>rfl)) (fun fa cdv A outer s H vs Q E hr h=>?_)
 ·obtain⟨a,ps,rfl,_⟩:=h
  rfl
 ·obtain⟨a,ps,rfl,hpf,hfit,hnet,q⟩:=h
  have hu:=a0O hr
  have hpl:=hnet.len
  refine⟨_,(I0 (U1 (i:=1) a0F.nd rfl (Or.inl rfl) (W2 C_given_owns hr (by rfl) (G0 (pv 0) G8)))
   (I0 (U1 (i:=2) a0F.nd rfl (Or.inl rfl) a2d)
   (I0 (F7 AK rfl (a1l (W2 C_placed_rows hr (by rfl) (G0 (pv 0) G8))) (M2 rfl (R7 (R5 (i:=3) a0F.nd rfl (Or.inl rfl)) (R7 (R5 (i:=4) a0F.nd rfl (Or.inl rfl)) (R7 (R5 (i:=5) a0F.nd rfl (Or.inl rfl)) F3))))
    (J1 (W1 (U0 D4 (J7 J9 (pv 5) G9 (fun _ _=>rfl)) R4 (U8 _))
     (J1 (F7 AK rfl (a1l (J7 J9 (pv 5) G9 (fun _ _=>rfl))) (M2 rfl (R7 (R5 (i:=6) a0F.nd rfl (Or.inl rfl)) (R7 (R5 (i:=7) a0F.nd rfl (Or.inl rfl)) F3)))
      (J1 (a1x hu (pv 2) (J5 (G0 (pv 3) (G0 (pv 7) G8))) (J5 (G0 (J7 J9 (pv 5) G9 (fun _ _=>rfl)) (G0 (a1V hu (pv 1) (J5 (G0 (J7 J9 (pv 5) G9 (fun _ _=>rfl)) (G0 (pv 6) G8))) (fun _ _=>rfl)) G8))) rfl)))) R8)))
   (J1 (R3 (pv 2)))))),?_⟩
  refine⟨_,rfl,a,ps,rfl,hpf,hfit,hnet,fun ow gkv H1 s1 how hg=>?_⟩
  intro d gd
  have s2:J4 H1 (upd H1 d (.dT [])):=(J4.refl H1).new gd
  refine⟨_,rfl,a,ps,rfl,(s1.trans s2).partsF hpf,hfit,fun p vs H3 s3 hp hvs=>?_⟩
  have s03:=(s1.trans s2).trans s3
  have gdH:H d=none:=s1.free gd
  have hd3:H3 d=some (.dT []):=s3 _ _ G7
  have how3:H3 ow=some (.dT gkv):=s3 _ _ (s2 _ _ how)
  have hod:ow≠d:=fun z=>by rw[z,gd]at how;cases how
  have hvl:vs.length=(R9 ps).length:=AF hvs
  have hG:=hnet.gk
  refine⟨p,rfl,⟨_,SqT.of hp⟩,a0n (K:=K) (a:=p) (xs:=vs) (fun i σ H2=>∃(kvs:List (List Key×V))(v3 v4 v5 v6 v7:Option V),σ=[some (.ref a),some (.ref ow),some (.ref d),v3,v4,v5,v6,v7]/\J4 H H2/\H2 p=some (.tup vs)/\U9 H3 H2/\H2 ow=some (.dT gkv)/\H2 d=some (.dT kvs)/\Paired (a6K H2) kvs (llG (O3 (R9 ps)) (Y8 ((R9 ps).take i))))
   ⟨[],none,none,none,none,none,rfl,s03,hp,U9.refl H3,how3,hd3,by rw[List.take_zero];exact .nil⟩ (fun i σ H2 _⟨_,_,_,_,_,_,_,_,h,_⟩=>SqT.of h) ?_ ?_⟩
  ·rintro i y σ H2 hy ⟨kvs,v3,v4,v5,v6,v7,rfl,s4,hp2,T2,how2,hd2,hk⟩
   obtain⟨⟨n,jj,rw⟩,hx,t,r,ey,ht,hra⟩:=Paired.get? hvs hy
   subst ey
   have hra2:=hra.mono T2
   have hxm:=AX hx
   have htk:Y8 ((R9 ps).take (i+1))=Y8 ((R9 ps).take i)++Y8 [(n,jj,rw)]:=by
    rw[U3 hx,a8K]
   have hbl:(Y8 ((R9 ps).take i)).length<=5760:=by
    have h1:=a6V (pls:=(R9 ps).take i) fun x hx=>hnet.brs x (List.mem_of_mem_take hx)
    rw[AR]at h1
    omega
   refine⟨t,_,rfl,SqT.of (T2 _ _ ht),rfl,_,_,rfl,_,_,rfl,_,_,rfl,rfl,?_⟩
   rcases a9Y hra2 with⟨m,prs,t',e,hrt,⟨vs',ht',hprs⟩,hp6⟩ | ⟨hkd,ho⟩
   ·subst e
    have hvl':vs'.length=prs.length:=AF hprs
    refine⟨_,rfl,r,_,_,_,rfl,rfl,SqT.of hrt,rfl,rfl,_,rfl,a1a ?_⟩
    have hnd:((Y8 ((R9 ps).take i)).map (·.1)++(a4i n m prs).map (·.1)).Nodup:=by
     have h1:=hnet.keys
     rw[a9t (R9 ps) (i+1),htk,a8L,AV,AV,<-List.append_assoc]at h1
     have h2:=(AZ.mp h1).1
     exact(AZ.mp h2).2.1
    refine⟨_,rfl,r,_,_,_,rfl,rfl,SqT.of hrt,rfl,t',rfl,⟨_,SqT.of ht'⟩,a0n (K:=K) (a:=t') (xs:=vs') (fun j σ H4=>∃(kvs:List (List Key×V))(v6 v7:Option V),σ=[some (.ref a),some (.ref ow),some (.ref d),some (.str n),some (.int (jj:Int)),some (.ref r),v6,v7]/\J4 H H4/\U9 H2 H4/\H4 ow=some (.dT gkv)/\H4 d=some (.dT kvs)/\Paired (a6K H4) kvs (llG (O3 (R9 ps)) (Y8 ((R9 ps).take i)++a4i n m (prs.take j))))
     ⟨kvs,_,_,rfl,s4,U9.refl H2,how2,hd2,by rw[List.take_zero];show Paired _ kvs (llG _ (Y8 ((R9 ps).take i)++[]));rw[List.append_nil];exact hk⟩ (fun j σ H4 _⟨_,_,_,_,_,TT,_⟩=>SqT.of (TT _ _ ht')) ?_ ?_⟩
    ·rintro j y σ H4 hy4 ⟨kv4,w6,w7,rfl,s5,T4,how4,hd4,hk4⟩
     obtain⟨qq,hq,c,ec,hc,_,_⟩:=Paired.get? hprs hy4
     subst ec
     have hj:j < prs.length:=(AO.mp hq).1
     have hrt4:=T4 _ _ hrt
     have htk4:a4i n m (prs.take (j+1))=a4i n m (prs.take j)++[((n,qq.2),(m,qq.1))]:=by
      rw[U3 hq]
      unfold a4i
      rw[AV]
      rfl
     have hkl:kv4.length<=6000:=by
      rw[AF hk4]
      unfold llG
      rw[AI,List.length_append]
      have:(a4i n m (prs.take j)).length=j:=by unfold a4i;rw[AI,AR];omega
      omega
     have hxb:((n,qq.2),(m,qq.1))∈Y8 (R9 ps):=by
      unfold Y8
      refine List.mem_flatMap.mpr ⟨_,hxm,?_⟩
      exact AY.mpr ⟨(m,qq),AY.mpr ⟨qq,AX hq,rfl⟩,rfl⟩
     obtain⟨o',ho'⟩:=hnet.gv _ hxb
     have hgg:a6S (O3 (R9 ps)) (m,qq.1)=o':=a4s hG ho'
     obtain⟨kv',⟨_,hv1⟩,hv2⟩:=a4V (F:=b4m) (fun _ _ h=>h.1) hg hG ho'
     refine⟨c,_,rfl,SqT.of (T4 _ _ hc),rfl,_,_,rfl,_,_,rfl,rfl,?_⟩
     refine⟨_,rfl,r,_,_,_,rfl,rfl,SqT.of hrt4,rfl,_,rfl,_,rfl,r,_,_,_,rfl,rfl,SqT.of hrt4,rfl,_,rfl,E1,fun e ge=>?_⟩
     have s6:J4 H4 (upd H4 e (.tup [.str m,.str qq.1])):=(J4.refl H4).new ge
     have hget:a0S (upd H4 e (.tup [.str m,.str qq.1])) ow (.ref e) (some (.str o')):=by
      have h1:=a0S.t (k:=Z0 (m,qq.1)) (s6 _ _ how4) (show upd H4 e (.tup [.str m,.str qq.1]) e=some (.tup ((Z0 (m,qq.1)).map kV))from G7)
      rw[hv2,hv1]at h1
      exact h1
     refine⟨ow,_,rfl,hget,E1,fun g gg=>?_⟩
     have s7:=s6.new (o:= .tup [.str m,.str o']) gg
     refine⟨_,rfl,_,rfl,_,rfl,E1,fun b gb=>?_⟩
     have s8:=s7.new (o:= .tup [.str n,.str qq.2]) gb
     have hd8:=s8 _ _ hd4
     have hb8:upd (upd (upd H4 e (.tup [.str m,.str qq.1])) g (.tup [.str m,.str o'])) b (.tup [.str n,.str qq.2]) b=some (.tup ((Z0 (n,qq.2)).map kV)):=G7
     refine⟨d,_,rfl,a3F.t (k:=Z0 (n,qq.2)) hd8 hb8 (szK (by omega)),?_⟩
     have hnew:Z0 (n,qq.2)∉kv4.map (·.1):=a6M (F:=a6K H4) (fun _ _ h=>h.1) hk4 (fun z=>by
      rw[b1h,AV]at z
      have hsub:((Y8 ((R9 ps).take i)).map (·.1)++(a4i n m (prs.take (j+1))).map (·.1)).Sublist ((Y8 ((R9 ps).take i)).map (·.1)++(a4i n m prs).map (·.1)):=by
       refine List.Sublist.append_left ?_ _
       unfold a4i
       exact((List.take_sublist _ _).map _).map _
      have h1:=hsub.nodup hnd
      rw[htk4,AV,<-List.append_assoc]at h1
      exact(AZ.mp h1).2.2 _ z _ (AH.mpr rfl) rfl)
     rw[a3f hnew]
     have TD:=U9.dT (kvs':=kv4++[(Z0 (n,qq.2),.ref g)]) hd8
     have T8:=s8.tups.trans TD
     refine⟨kv4++[(Z0 (n,qq.2),.ref g)],_,_,rfl,(s5.trans s8).put gdH,T4.trans T8,by rw[J0 hod];exact s8 _ _ how4,G7,?_⟩
     rw[htk4,<-List.append_assoc,b2H]
     refine Paired.snoc (Paired.mapP hk4 fun _ _ z=>z.mono T8) ⟨rfl,g,rfl,?_⟩
     show _=some (HO.tup [V.str m,V.str (a6S (O3 (R9 ps)) (m,qq.1))])
     rw[hgg]
     exact TD _ _ (J2 G7 gb)
    ·rintro σ H4 ⟨kv4,w6,w7,rfl,s5,T4,how4,hd4,hk4⟩
     rw[hvl',List.take_length]at hk4
     refine⟨kv4,_,_,_,_,_,rfl,s5,T4 _ _ hp2,T2.trans T4,how4,hd4,?_⟩
     rw[htk,a8L]
     exact hk4
   ·obtain⟨x1,rest,hrt⟩:=hra2.kind
    have z0:atI (V.str (Z5 rw)::x1::rest) 0=some (.str (Z5 rw)):=J6 (j:=0) rfl
    refine⟨_,rfl,r,_,_,_,rfl,rfl,SqT.of hrt,z0,rfl,_,rfl,Z6 hkd ?_⟩
    have h3:Y8 [(n,jj,rw)]=[]:=by unfold Y8;simp[ho]
    exact⟨kvs,_,_,_,_,_,rfl,s4,hp2,T2,how2,hd2,by rw[htk,h3,List.append_nil];exact hk⟩
  ·rintro σ H2 ⟨kvs,v3,v4,v5,v6,v7,rfl,s4,hp2,T2,how2,hd2,hk⟩
   rw[hvl,List.take_length]at hk
   exact⟨_,rfl,q d kvs H2 s4 gdH hd2 hk⟩
structure FI(mls:List (Kk×(Str×Nat)))(ls:List (Kk×Kk))(H:Hp)(kvs:List (List Key×V)):Prop where
 nd:(kvs.map (·.1)).Nodup
 sub:∀k∈kvs.map (·.1),k∈(mls.map (·.1)++ls.map (·.1)).map Z0
 val:∀x v,Y7 kvs (Z0 x)=some v->∃t p,v= .ref t/\H t=some (.tup [.str p.1,.int ((p.2:Nat):Int)])/\Mk mls ls x p
 has:∀x∈mls.map (·.1),(Y7 kvs (Z0 x)).isSome=true
theorem a9u{κ:Type}[DecidableEq κ]{kvs:List (κ×V)}{k:κ}{v:V}(h:(kvs.map (·.1)).Nodup):((O2 kvs k v).map (·.1)).Nodup/\∀x∈(O2 kvs k v).map (·.1),x∈kvs.map (·.1)\/x=k:=by
 by_cases hk:k∈kvs.map (·.1)
 ·have e:(O2 kvs k v).map (·.1)=kvs.map (·.1):=by
   unfold O2
   rw[if_pos]
   ·rw[List.map_map]
    refine List.map_congr_left fun x _=>?_
    show(if x.1=k then(x.1,v)else x).1=x.1
    split<;>rfl
   ·obtain⟨p,hp,e⟩:=AY.mp hk
    exact List.any_eq_true.mpr ⟨p,hp,decide_eq_true e⟩
  rw[e]
  exact⟨h,fun x hx=> .inl hx⟩
 ·rw[a3f hk,AV]
  refine⟨AZ.mpr ⟨h,by simp,fun a ha b hb z=>hk (by have e:b=k:=AH.mp hb;rw[<-e,<-z];exact ha)⟩,fun x hx=>?_⟩
  rcases List.mem_append.mp hx with z | z
  ·exact .inl z
  ·exact .inr (AH.mp z)
theorem FI.len{mls:List (Kk×(Str×Nat))}{ls:List (Kk×Kk)}{H:Hp}{kvs:List (List Key×V)}(h:FI mls ls H kvs):kvs.length<=mls.length+ls.length:=by
 have h1:=a1S _ _ h.nd h.sub
 rw[AI,AI,List.length_append,AI,AI]at h1
 exact h1
theorem FI.mono{mls:List (Kk×(Str×Nat))}{ls:List (Kk×Kk)}{H H':Hp}{kvs:List (List Key×V)}(h:FI mls ls H kvs)(s:U9 H H'):FI mls ls H' kvs:=⟨h.nd,h.sub,fun x v e=>by
 obtain⟨t,p,e1,e2,e3⟩:=h.val x v e
 exact⟨t,p,e1,s _ _ e2,e3⟩,h.has⟩
theorem FI.put{mls:List (Kk×(Str×Nat))}{ls:List (Kk×Kk)}{H:Hp}{kvs:List (List Key×V)}(h:FI mls ls H kvs){x:Kk}{t:Addr}{p:Str×Nat}(hx:x∈mls.map (·.1)++ls.map (·.1))(ht:H t=some (.tup [.str p.1,.int ((p.2:Nat):Int)]))(hm:Mk mls ls x p):FI mls ls H (O2 kvs (Z0 x) (.ref t)):=by
 obtain⟨k1,k2⟩:=a9u (v:=V.ref t) (k:=Z0 x) h.nd
 refine⟨k1,fun k hk=>?_,fun y v e=>?_,fun y hy=>?_⟩
 ·rcases k2 k hk with z | z
  ·exact h.sub k z
  ·rw[z];exact AM hx
 ·rw[a0p]at e
  by_cases z:Z0 y=Z0 x
  ·rw[if_pos z]at e
   rw[a2l z]
   exact⟨t,p,(Option.some.inj e).symm,ht,hm⟩
  ·rw[if_neg z]at e
   exact h.val y v e
 ·rw[a0p]
  by_cases z:Z0 y=Z0 x
  ·rw[if_pos z];rfl
  ·rw[if_neg z];exact h.has y hy
noncomputable def b2D (H:Hp) (v:V) (k:Str×Str):Prop:=∃b,v= .ref b/\H b=some (.tup [.str k.1,.str k.2])
theorem b2D.mono{H H':Hp}(s:U9 H H'){v:V}{k:Kk}(h:b2D H v k):b2D H' v k:=by
 obtain⟨b,e,h⟩:=h
 exact⟨b,e,s _ _ h⟩
noncomputable def muM (r:Kk->Nat) (i:Nat) (σ:L2.St) (H:Hp):Nat:=match σ[i]? with
 | some (some (V.ref b))=>match H b with
  | some (HO.tup [V.str n,V.str o])=>r (n,o)
  | _=>0
 | _=>0
noncomputable def b0Q:Sp:=fun vs H Q _=>∃(a:Addr)(ps:List Pt),vs=[.ref a]/\a1o H a ps/\a5j ps/\a0K (R9 ps)/\∀(d:Addr)(kvs:List (List Key×V))(H':Hp),J4 H H'->H' d=some (.dT kvs)->FI (Y4 (R9 ps)) (B2 (R9 ps)) H' kvs->(∀x∈(B2 (R9 ps)).map (·.1),(Y7 kvs (Z0 x)).isSome=true)->Q (.ref d) H'
theorem U9.frz{H:Hp}{l:Addr}{o:Obj}{u:HO}{kvs:List (List Key×V)}(h:H l=some (.dT kvs)):U9 H (upd H l (.frz o u)):=fun b zs q=>by
 rw[J0 (E9 q h (by intro z;cases z))]
 exact q
theorem b5d{pls:List Pl}{H:Hp}{kvs:List (List Key×V)}(hnet:a0K pls)(h:Paired (a5y H) kvs (Y4 pls)):FI (Y4 pls) (B2 pls) H kvs:=by
 have hk:=a6H (F:=a5y H) (fun _ _ h=>h.1) h
 refine⟨?_,fun k hm=>?_,fun x v e=>?_,fun x hx=>?_⟩
 ·rw[hk,List.nodup_iff_pairwise_ne,List.pairwise_map]
  have:=hnet.mkNodup
  rw[List.nodup_iff_pairwise_ne]at this
  exact this.imp fun hne z=>hne (a2l z)
 ·rw[hk]at hm
  rw[AV]
  exact List.mem_append_left _ hm
 ·by_cases hx:x∈(Y4 pls).map (·.1)
  ·obtain⟨y,hy,ey⟩:=AY.mp hx
   obtain⟨kv,⟨_,t,e1,e2⟩,e3⟩:=a4V (F:=a5y H) (fun _ _ h=>h.1) h hnet.mkNodup hy
   rw[ey,e]at e3
   refine⟨t,y.2,(Option.some.inj e3).trans e1,e2,.base ?_⟩
   rw[<-ey]
   exact hy
  ·rw[a7w (F:=a5y H) (fun _ _ h=>h.1) h hx]at e
   cases e
 ·obtain⟨y,hy,ey⟩:=AY.mp hx
  obtain⟨kv,_,e3⟩:=a4V (F:=a5y H) (fun _ _ h=>h.1) h hnet.mkNodup hy
  rw[<-ey,e3]
  rfl
theorem b0c(T:Txt K mg):L2.Cl P w K mg base 4 "makers" ["parts"] b0Q:=by
 have C_made:=b2N (P:=P) (w:=w) (base:=base) T
 have C_links:=b1i (P:=P) (w:=w) (base:=base) T
 refine Cl.of T.d_makers a0i (fun vs H Q E h=>?_) (fun _ _ _ _ _ _ us hl=>len1 us hl (fun _=>rfl)) (fun fa cdv A outer s H vs Q E hr h=>?_)
 ·obtain⟨a,ps,rfl,_⟩:=h
  rfl
 ·obtain⟨a,ps,rfl,hpf,hfit,hnet,q⟩:=h
  have hu:=a0O hr
  have hpl:=hnet.len
  obtain⟨r,hrk⟩:=hnet.rk
  have hml:=a9e (R9 ps)
  have hll:(B2 (R9 ps)).length<=5760:=by
   have h1:=a6V hnet.brs
   unfold B2
   rw[AI]
   omega
  have htgt:=fun{x:Kk×Kk}(hx:x∈B2 (R9 ps))=>hnet.tgt hx
  have hlkn:=hnet.lkNodup
  refine⟨_,(I0 (U1 (i:=1) a0i.nd rfl (Or.inl rfl) (W2 C_made hr (by rfl) (G0 (pv 0) G8)))
   (I0 (U1 (i:=2) a0i.nd rfl (Or.inl rfl) (W2 C_links hr (by rfl) (G0 (pv 0) G8)))
   (I0 (F7 AK rfl (b2f (pv 2)) (R5 (i:=3) a0i.nd rfl (Or.inl rfl))
    (I0 (U1 (i:=4) a0i.nd rfl (Or.inl rfl) (O4 G8))
    (I0 (U1 (i:=5) a0i.nd rfl (Or.inl rfl) (pv 3))
    (I0 (a5c AK (a1n (a3O hu (pv 5) (pv 1)))
     (I0 (Y0 (a2F PySem.F.plainAttrs_list PySem.F.slot_list_append PySem.F.type_list_append D8 (pv 4) (G0 (pv 5) G8)))
     (J1 (U1 (i:=5) a0i.nd rfl (Or.inl rfl) (a1V hu (pv 2) (pv 5) (fun _ _=>rfl))))))
    (J1 (F7 AK rfl (a1O (pv 4)) (R5 (i:=6) a0i.nd rfl (Or.inl rfl))
     (J1 (a1x hu (pv 1) (pv 6) (a1V hu (pv 1) (pv 5) (fun _ _=>rfl)) rfl))))))))
   (J1 (R3 (pv 1)))))),?_⟩
  refine⟨_,rfl,a,ps,rfl,hpf,hfit,hnet,fun f mkv H1 s1 gf hf1 hmk=>?_⟩
  refine⟨_,rfl,a,ps,rfl,s1.partsF hpf,hfit,hnet,fun on lkv H2 s2 gon hon hlk=>?_⟩
  have hfo:f≠on:=fun z=>by rw[z,gon]at hf1;cases hf1
  have gonH:H on=none:=s1.free gon
  have s02:=s1.trans s2
  have fi2:FI (Y4 (R9 ps)) (B2 (R9 ps)) H2 mkv:=(b5d hnet hmk).mono s2.tups
  generalize Y4 (R9 ps)=mls at*
  generalize B2 (R9 ps)=ls at*
  have hlkl:lkv.length=ls.length:=AF hlk
  refine⟨_,rfl,on,lkv,rfl,hon,fun ob vs hvs=>?_⟩
  have hvl:vs.length=lkv.length:=AF hvs
  have T3:U9 H2 (upd H2 on (.frz ob (.dT lkv))):=U9.frz hon
  have s3:J4 H (upd H2 on (.frz ob (.dT lkv))):=s02.put gonH
  have hf3:upd H2 on (.frz ob (.dT lkv)) f=some (.dT mkv):=by rw[J0 hfo];exact s2 _ _ hf1
  have hon3:upd H2 on (.frz ob (.dT lkv)) on=some (.frz ob (.dT lkv)):=G7
  have fi3:=fi2.mono T3
  have hlk3:Paired (a6K (upd H2 on (.frz ob (.dT lkv)))) lkv ls:=Paired.mapP hlk fun _ _ z=>z.mono T3
  have hvs3:Paired (a9s (upd H2 on (.frz ob (.dT lkv)))) vs lkv:=Paired.mapP hvs fun _ _⟨b,e,hb⟩=>⟨b,e,T3 _ _ hb⟩
  generalize upd H2 on (.frz ob (.dT lkv))=H3 at T3 s3 hf3 hon3 fi3 hlk3 hvs3⊢
  refine b0M (d:=on) (o:=ob) (u:= .dT lkv) (ks:=vs) (fun i σ H4=>∃(kvs:List (List Key×V))(v3 v4 v5 v6:Option V),σ=[some (.ref a),some (.ref f),some (.ref on),v3,v4,v5,v6]/\J4 H H4/\H4 on=some (.frz ob (.dT lkv))/\U9 H3 H4/\H4 f=some (.dT kvs)/\FI mls ls H4 kvs/\∀j x,j < i->ls[j]?=some x->(Y7 kvs (Z0 x.1)).isSome=true)
   ⟨mkv,none,none,none,none,rfl,s3,hon3,U9.refl H3,hf3,fi3,fun j x hj=>by omega⟩ (fun i σ H4 _⟨_,_,_,_,_,_,_,h,_⟩=>h) ?_ ?_
  ·rintro i y σ H4 hy ⟨kvs,v3,v4,v5,v6,rfl,s4,hon4,T4,hf4,fi4,hdone⟩
   obtain⟨kv0,hkv0,b0',eb0,hb0⟩:=Paired.get? hvs3 hy
   subst eb0
   obtain⟨x0,hx0,hx0k,_⟩:=Paired.get? hlk3 hkv0
   have hx0m:x0∈ls:=AX hx0
   have hb04:H4 b0'=some (.tup [.str x0.1.1,.str x0.1.2]):=by
    have:=T4 _ _ hb0
    rw[hx0k]at this
    exact this
   refine⟨a1r,fun wy gwy=>?_⟩
   have s5:J4 H4 (upd H4 wy (.lst [])):=(J4.refl H4).new gwy
   have gwyH:H wy=none:=s4.free gwy
   have hfw:f≠wy:=fun z=>by rw[z,gwy]at hf4;cases hf4
   have how:on≠wy:=fun z=>by rw[z,gwy]at hon4;cases hon4
   refine⟨_,rfl,?_⟩
   apply b2h
   ·with_reducible_and_instances rfl
   refine a5e (fun σ H5=>∃(x:Kk)(b:Addr)(xs:List Kk)(ws:List V)(v3 v6:Option V),σ=[some (.ref a),some (.ref f),some (.ref on),v3,some (.ref wy),some (.ref b),v6]/\J4 H H5/\H5 on=some (.frz ob (.dT lkv))/\U9 H3 H5/\H5 f=some (.dT kvs)/\FI mls ls H5 kvs/\H5 b=some (.tup [.str x.1,.str x.2])/\(x∈mls.map (·.1)\/x∈ls.map (·.1))/\H5 wy=some (.lst ws)/\Paired (b2D H5) ws xs/\(∀y∈xs,y∈ls.map (·.1)/\r x < r y/\∀p,Mk mls ls x p->Mk mls ls y p)/\xs.Nodup/\(x=x0.1\/x0.1∈xs)) (fun σ H5=>muM r 5 σ H5)
    ⟨x0.1,b0',[],[],_,_,rfl,s4.trans s5,s5 _ _ hon4,T4.trans s5.tups,s5 _ _ hf4,fi4.mono s5.tups,s5 _ _ hb04,.inr (AM (f:=(·.1)) hx0m),G7,.nil,fun y hy=>by simp at hy,by simp,.inl rfl⟩ ?_ ?_
   ·rintro σ H5 ⟨x,b,xs,ws,w3,w6,rfl,s6,hon5,T5,hf5,fi5,hb5,hxk,hwy5,hws,hxs,hxn,hst⟩
    refine⟨_,rfl,_,rfl,f,_,rfl,a0S.t (k:=Z0 x) hf5 hb5,_,rfl,?_⟩
    cases e:Y7 kvs (Z0 x)with
    | none=>
     refine a0I ?_
     have hxl:x∈ls.map (·.1):=by
      rcases hxk with z | z
      ·have:=fi5.has x z
       rw[e]at this
       cases this
      ·exact z
     obtain⟨yx,hyx,eyx⟩:=AY.mp hxl
     obtain⟨kvx,⟨_,t',e1,e2⟩,e3⟩:=a4V (F:=a6K H3) (fun _ _ h=>h.1) hlk3 hlkn hyx
     rw[eyx]at e3
     have hyx':(x,yx.2)∈ls:=by rw[<-eyx];exact hyx
     have hlt:r yx.2 < r x:=hrk _ hyx'
     have hwl:ws.length<=6720:=by
      rw[AF hws]
      have h1:=a1S xs (ls.map (·.1)) hxn fun y hy=>(hxs y hy).1
      rw[AI]at h1
      omega
     refine⟨_,rfl,.inl ⟨rfl,_,SqL.of hwy5⟩,_,rfl,wy,_,_,rfl,rfl,hwy5,szK (by omega),?_⟩
     have T6:U9 H5 (upd H5 wy (.lst (ws++[.ref b]))):=U9.lst hwy5
     have hon6:upd H5 wy (.lst (ws++[.ref b])) on=some (.frz ob (.dT lkv)):=by rw[J0 how];exact hon5
     have hb6:=T6 _ _ hb5
     have hget:a0S (upd H5 wy (.lst (ws++[.ref b]))) on (.ref b) (some (.ref t')):= .inr ⟨lkv,Z0 x,b,.inr ⟨ob,hon6⟩,rfl,hb6,by rw[e3,e1]⟩
     refine⟨_,rfl,_,rfl,on,_,rfl,hget,?_⟩
     have ht6:=T6 _ _ (T5 _ _ e2)
     refine⟨⟨yx.2,t',xs++[x],ws++[.ref b],_,_,rfl,s6.put gwyH,hon6,T5.trans T6,by rw[J0 hfw];exact hf5,fi5.mono T6,ht6,htgt hyx,G7,Paired.snoc (Paired.mapP hws fun _ _ z=>z.mono T6) ⟨b,rfl,hb6⟩,fun y hy=>?_,?_,?_⟩,?_⟩
     ·rcases List.mem_append.mp hy with z | z
      ·obtain⟨h1,h2,h3⟩:=hxs y z
       exact⟨h1,by omega,fun p hp=>h3 p (.step hyx' hp)⟩
      ·rw[AH.mp z]
       exact⟨hxl,hlt,fun p hp=> .step hyx' hp⟩
     ·refine AZ.mpr ⟨hxn,by simp,fun y hy z hz w=>?_⟩
      rw[AH.mp hz]at w
      have:=(hxs y hy).2.1
      rw[w]at this
      omega
     ·rcases hst with z | z
      ·rw[<-z];exact .inr (AU _ AL)
      ·exact .inr (List.mem_append_left _ z)
     ·show muM r 5 [some (V.ref a),some (.ref f),some (.ref on),w3,some (.ref wy),some (.ref t'),w6] _ < muM r 5 [some (V.ref a),some (.ref f),some (.ref on),w3,some (.ref wy),some (.ref b),w6] H5
      have m1:muM r 5 [some (V.ref a),some (.ref f),some (.ref on),w3,some (.ref wy),some (.ref t'),w6] (upd H5 wy (.lst (ws++[.ref b])))=r yx.2:=by
       unfold muM
       simp only[List.getElem?_cons_succ,List.getElem?_cons_zero]
       rw[ht6]
      have m2:muM r 5 [some (V.ref a),some (.ref f),some (.ref on),w3,some (.ref wy),some (.ref b),w6] H5=r x:=by
       unfold muM
       simp only[List.getElem?_cons_succ,List.getElem?_cons_zero]
       rw[hb5]
      rw[m1,m2]
      exact hlt
    | some v=>
     refine O7 ?_
     obtain⟨t,p,ev,ht,hmk'⟩:=fi5.val x v e
     subst ev
     refine⟨_,rfl,wy,rfl,⟨_,SqL.of hwy5⟩,a2v (K:=K) (a:=wy) (xs:=ws) (fun j σ H6=>∃(kv:List (List Key×V))(v6:Option V),σ=[some (.ref a),some (.ref f),some (.ref on),w3,some (.ref wy),some (.ref b),v6]/\J4 H H6/\H6 on=some (.frz ob (.dT lkv))/\U9 H5 H6/\H6 f=some (.dT kv)/\H6 wy=some (.lst ws)/\FI mls ls H6 kv/\Y7 kv (Z0 x)=some (.ref t)/\(∀y,(Y7 kvs (Z0 y)).isSome=true->(Y7 kv (Z0 y)).isSome=true)/\∀y∈xs.take j,(Y7 kv (Z0 y)).isSome=true)
      ⟨kvs,_,rfl,s6,hon5,U9.refl H5,hf5,hwy5,fi5,e,fun y hy=>hy,fun y hy=>by simp at hy⟩ (fun j σ H6 _⟨_,_,_,_,_,_,_,h,_⟩=>SqL.of h) ?_ ?_⟩
     ·rintro j y σ H6 hy6 ⟨kv,u6,rfl,s7,hon6,T6,hf6,hwy6,fi6,hvx,hup,htk⟩
      obtain⟨z,hz,bz,ez,hbz⟩:=Paired.get? hws hy6
      subst ez
      have hzm:=AX hz
      obtain⟨hz1,_,hz3⟩:=hxs z hzm
      have hkl:=fi6.len
      have hget:a0S H6 f (.ref b) (some (.ref t)):=by
       have h1:=a0S.t (k:=Z0 x) hf6 (T6 _ _ hb5)
       rw[hvx]at h1
       exact h1
      refine⟨_,rfl,_,rfl,f,_,rfl,hget,_,rfl,_,rfl,f,_,rfl,a3F.t (k:=Z0 z) hf6 (T6 _ _ hbz) (szK (by omega)),?_⟩
      have T7:=U9.dT (kvs':=O2 kv (Z0 z) (.ref t)) hf6
      refine⟨O2 kv (Z0 z) (.ref t),_,rfl,s7.put gf,by rw[J0 hfo.symm];exact hon6,T6.trans T7,G7,by rw[J0 hfw.symm];exact hwy6,(fi6.put (AU _ hz1) (T6 _ _ ht) (hz3 p hmk')).mono T7,?_,fun y hy=>?_,fun y hy=>?_⟩
      ·rw[a0p]
       split
       ·rfl
       ·exact hvx
      ·rw[a0p]
       split
       ·rfl
       ·exact hup y hy
      ·rw[U3 hz]at hy
       rw[a0p]
       rcases List.mem_append.mp hy with w | w
       ·split
        ·rfl
        ·exact htk y w
       ·rw[AH.mp w,if_pos rfl]
        rfl
     ·rintro σ H6 ⟨kv,u6,rfl,s7,hon6,T6,hf6,hwy6,fi6,hvx,hup,htk⟩
      rw[AF hws,List.take_length]at htk
      refine⟨kv,_,_,_,_,rfl,s7,hon6,T5.trans T6,hf6,fi6,fun j y hj hy'=>?_⟩
      by_cases hji:j=i
      ·subst hji
       rw[hx0]at hy'
       cases hy'
       rcases hst with z | z
       ·rw[<-z,hvx];rfl
       ·exact htk _ z
      ·exact hup _ (hdone j y (by omega) hy')
   ·rintro σ H5 Q1 Q2 hQ ⟨v,e,v2,e2,a2,o,e7,hg,c,e8,hq⟩
    exact⟨v,e,v2,e2,a2,o,e7,hg,c,e8,hQ _ _ hq⟩
  ·rintro σ H4 ⟨kvs,v3,v4,v5,v6,rfl,s4,hon4,T4,hf4,fi4,hdone⟩
   refine⟨_,rfl,q f kvs H4 s4 hf4 fi4 fun x hx=>?_⟩
   obtain⟨y,hy,ey⟩:=AY.mp hx
   obtain⟨j,hj⟩:=List.getElem?_of_mem hy
   have hjl:=(AO.mp hj).1
   rw[<-ey]
   exact hdone j y (by omega) hj
noncomputable def a7V:Sp:=fun vs H Q _=>∃(t:Addr)(ts:List (Int×Th))(k:Int),vs=[.ref t,.int k]/\E7 H t ts/\
 ∀(p:Addr)(ws:List V)(H':Hp),J4 H H'->H' p=some (.tup ws)->a1L H' ws (U2 k ts)->Q (.ref p) H'
noncomputable def a7R:Sp:=fun vs H Q _=>∃(t:Addr)(ts:List (Int×Th)),vs=[.ref t]/\E7 H t ts/\
 ∀(p:Addr)(ws:List V)(H':Hp),J4 H H'->H' p=some (.tup ws)->ws.length+1=2*ts.length->Q (.ref p) H'
noncomputable def a7q:Sp:=fun vs H Q _=>∃x:Str,vs=[.str x]/\
 ∀(p:Addr)(ws:List V)(H':Hp),J4 H H'->H' p=some (.tup ws)->ws.length=2->Q (.ref p) H'
noncomputable def a4n (H:Hp) (r:Addr) (x:Str) (n:Int):Prop:=
 (∃t ts,H r=some (.tup [.str "say",.ref t,.str x])/\E7 H t ts/\n=2*(ts.length:Int)+1)\/(∃part:Str,H r=some (.tup [.str "ask",.str part,.str x])/\n=3)
noncomputable def a9M:Sp:=fun vs H Q _=>∃(r:Addr)(x:Str)(n:Int),vs=[.ref r]/\a4n H r x n/\
 ∀(p:Addr)(ws:List V)(H':Hp),J4 H H'->H' p=some (.tup ws)->(ws.length:Int)=n+1->Q (.ref p) H'
noncomputable def a7g:Sp:=fun vs H Q _=>∃(r:Addr)(ds:List (Int×Str)),vs=[.ref r]/\
 ((∃(x:Str)(n:Int),a4n H r x n/\ds=[(n,x)])\/(∃(k:Str)(v:V),H r=some (.tup [.str k,v,.non])/\ds=[]))/\
 ∀(p:Addr)(ws:List V)(H':Hp),J4 H H'->H' p=some (.tup ws)->a1L H' ws ds->Q (.ref p) H'
noncomputable def b4G (H:Hp) (r:Addr) (ds:List (Int×Str)):Prop:=
 (∃(own:Str)(t:Addr)(ts:List (Int×Th)),H r=some (.tup [.str "set",.str own,.ref t])/\E7 H t ts/\ds=U2 3 ts)\/
 (∃(t:Addr)(ts:List (Int×Th)),H r=some (.tup [.str "need",.ref t])/\E7 H t ts/\ds=U2 1 ts)\/
 (∃(t:Addr)(ts:List (Int×Th)),H r=some (.tup [.str "say",.ref t,.non])/\E7 H t ts/\ds=U2 1 ts)\/
 (∃(t:Addr)(ts:List (Int×Th))(x:Str),H r=some (.tup [.str "say",.ref t,.str x])/\E7 H t ts/\ds=(2*(ts.length:Int)+1,x)::U2 1 ts)\/
 (∃part x:Str,H r=some (.tup [.str "ask",.str part,.str x])/\ds=[(3,x)])\/
 (∃part:Str,H r=some (.tup [.str "ask",.str part,.non])/\ds=[])\/
 (∃(k:Str)(more:List V),H r=some (.tup (.str k::more))/\(¬k="set"/\¬k="need"/\¬k="say"/\¬k="ask")/\ds=[])
noncomputable def a7y:Sp:=fun vs H Q _=>∃(r:Addr)(ds:List (Int×Str)),vs=[.ref r]/\b4G H r ds/\
 ∀(p:Addr)(ws:List V)(H':Hp),J4 H H'->H' p=some (.tup ws)->a1L H' ws ds->Q (.ref p) H'
theorem a2P{H:Hp}:∀{ws us:List V}{ds es:List (Int×Str)},a1L H ws ds->a1L H us es->a1L H (ws++us) (ds++es)
 | _,_,_,_,.nil,s=>s
 | _,_,_,_,.cons r t,s=> .cons r (a2P t s)
theorem a6T(T:Txt K mg):L2.Cl P w K mg base 1 "sum_names" ["terms","first"] a7V:=by
 refine Cl.of T.d_sum_names a0V (fun vs H Q E h=>?_) (fun _ _ _ _ _ _ us hl=>len2 us hl (fun _ _=>rfl)) (fun f cdv A outer s H vs Q E hr h=>?_)
 ·obtain⟨t,ts,k,rfl,_⟩:=h
  rfl
 ·obtain⟨t,ts,k,rfl,⟨⟨vs,ht,hts⟩,lo,hi⟩,q⟩:=h
  have hvl:vs.length=ts.length:=AF hts
  refine⟨_,(I0 (U1 (i:=2) a0V.nd rfl (Or.inl rfl) (O4 G8))
   (I0 (F7 AK rfl (a4A (by rfl) T.n_enumerate (G0 (pv 0) G8)) (M2 rfl (R7 (R5 (i:=3) a0V.nd rfl (Or.inl rfl)) (R7 (R5 (i:=4) a0V.nd rfl (Or.inl rfl)) F3)))
    (J1 (W1 (D9 (Y1 E3 (by rfl) T.n_isinstance PyProof.Rows.boot_isinstance (G0 (J7 J9 (pv 4) G9 (fun _ _=>rfl)) (G0 (a0E (v:= .ty "str") (by rfl) T.n_str boot_str rfl) G8))))
     (J1 (Y0 (a2F PySem.F.plainAttrs_list PySem.F.slot_list_append PySem.F.type_list_append D8 (pv 2) (G0 (J5 (G0 (U6 a4G (pv 1) (U6 a8i G9 (pv 3))) (G0 (J7 J9 (pv 4) G9 (fun _ _=>rfl)) G8))) G8)))) R8)))
   (J1 (R3 (W8 U7 (by rfl) T.n_tuple boot_tuple (G0 (pv 2) G8)))))),?_⟩
  refine⟨a1r,fun l hl=>?_⟩
  have s1:J4 H (upd H l (.lst [])):=(J4.refl H).new hl
  refine⟨_,rfl,t,rfl,⟨_,SqT.of (s1 _ _ ht)⟩,a7K (K:=K) (a:=t) (xs:=vs) (fun i σ H2=>∃(ws:List V)(v3 v4:Option V),σ=[some (.ref t),some (.int k),some (.ref l),v3,v4]/\J4 H H2/\H2 l=some (.lst ws)/\a1L H2 ws (U2 k (ts.take i))/\ws.length<=i)
   ⟨[],none,none,rfl,s1,G7,.nil,AD _⟩ (fun i σ H2 _⟨_,_,_,_,s2,_⟩=>SqT.of (s2 _ _ ht)) ?_ ?_⟩
  ·rintro i y pe σ H2 hx ⟨ws,v3,v4,rfl,s2,hl2,hn,hwl⟩ hpe
   have hi':i < vs.length:=(AO.mp hx).1
   obtain⟨tm,htm,p,ep,hp,hok⟩:=Paired.get? hts hx
   subst ep
   have s3:=s2.new (o:= .tup [.int i,.ref p]) hpe
   have hl3:=J2 (o:= .tup [.int i,.ref p]) hl2 hpe
   have hn3:a1L (upd H2 pe (.tup [.int i,.ref p])) ws (U2 k (ts.take i)):=hn.mono (U9.new hpe)
   have hp3:=s3 _ _ hp
   refine⟨pe,_,rfl,SqT.of G7,rfl,_,_,rfl,_,_,rfl,rfl,?_⟩
   obtain⟨sg,th⟩:=tm
   cases th with
   | num n=>
    refine⟨_,rfl,p,_,_,_,rfl,rfl,SqT.of hp3,rfl,_,_,_,_,rfl,.int n,a4a _,_,rfl,O7 ?_⟩
    refine⟨ws,_,_,rfl,s3,hl3,?_,by omega⟩
    rw[U3 htm,a0u]
    simpa [L2.U2]using hn3
   | nam x=>
    refine⟨_,rfl,p,_,_,_,rfl,rfl,SqT.of hp3,rfl,_,_,_,_,rfl,.str x,a0q _ _,_,rfl,a0I ?_⟩
    refine⟨_,rfl,.inl ⟨rfl,_,SqL.of hl3⟩,_,rfl,_,rfl,_,_,rfl,rfl,.inl ⟨by decide,by decide⟩,_,_,rfl,rfl,_,rfl,p,_,_,_,rfl,rfl,SqT.of hp3,rfl,E1,fun p2 hp2'=>?_⟩
    refine⟨l,_,_,rfl,rfl,J2 hl3 hp2',U5 (by omega),?_⟩
    refine⟨_,_,_,rfl,(s3.new hp2').put hl,G7,?_,by simp;omega⟩
    rw[U3 htm,a0u]
    refine Paired.snoc ((hn3.mono (U9.new hp2')).mono (U9.lst (J2 hl3 hp2'))) ⟨p2,rfl,?_⟩
    rw[J0 (J3 hl3 hp2').symm,G7]
    have e:(ts.take i).length=i:=by simp;omega
    show some (HO.tup [V.int (k+2*(i:Int)),V.str x])=some (HO.tup [V.int (k+2*((ts.take i).length:Int)),V.str x])
    rw[e]
  ·rintro σ H2 ⟨ws,v3,v4,rfl,s2,hl2,hn,hwl⟩
   refine⟨_,rfl,l,_,rfl,.inl ⟨SqL.of hl2,fun p hp=>?_⟩⟩
   refine q p ws _ (s2.new hp) G7 ?_
   rw[hvl,List.take_length]at hn
   exact hn.mono (U9.new hp)
theorem a6J(T:Txt K mg):L2.Cl P w K mg base 1 "sum_words" ["terms"] a7R:=by
 refine Cl.of T.d_sum_words a0T (fun vs H Q E h=>?_) (fun _ _ _ _ _ _ us hl=>len1 us hl (fun _=>rfl)) (fun f cdv A outer s H vs Q E hr h=>?_)
 ·obtain⟨t,ts,rfl,_⟩:=h
  rfl
 ·obtain⟨t,ts,rfl,⟨⟨vs,ht,hts⟩,lo,hi⟩,q⟩:=h
  have hvl:vs.length=ts.length:=AF hts
  refine⟨_,(I0 (U1 (i:=1) a0T.nd rfl (Or.inl rfl) (O4 G8))
   (I0 (F7 AK rfl (a1l (pv 0)) (M2 rfl (R7 (R5 (i:=2) a0T.nd rfl (Or.inl rfl)) (R7 (R5 (i:=3) a0T.nd rfl (Or.inl rfl)) F3)))
    (I0 (W1 (a5l (pv 1) (fun _=>rfl))
     (J1 (Y0 (a2F PySem.F.plainAttrs_list PySem.F.slot_list_append PySem.F.type_list_append D8 (pv 1) (G0 (b2b (U0 D4 (pv 2) G9 (U8 _)) R4 R4) G8)))) R8)
    (J1 (Y0 (a2F PySem.F.plainAttrs_list PySem.F.slot_list_append PySem.F.type_list_append D8 (pv 1) (G0 (W8 (a6I.or a6p) (by rfl) T.n_str boot_str (G0 (pv 3) G8)) G8))))))
   (J1 (R3 (W8 U7 (by rfl) T.n_tuple boot_tuple (G0 (pv 1) G8)))))),?_⟩
  refine⟨a1r,fun l hl=>?_⟩
  have s1:J4 H (upd H l (.lst [])):=(J4.refl H).new hl
  refine⟨_,rfl,t,rfl,⟨_,SqT.of (s1 _ _ ht)⟩,a0n (K:=K) (a:=t) (xs:=vs) (fun i σ H2=>∃(ws:List V)(v2 v3:Option V),σ=[some (.ref t),some (.ref l),v2,v3]/\J4 H H2/\H2 l=some (.lst ws)/\((i=0/\ws=[])\/(1<=i/\ws.length+1=2*i)))
   ⟨[],none,none,rfl,s1,G7,.inl ⟨rfl,rfl⟩⟩ (fun i σ H2 _⟨_,_,_,_,s2,_⟩=>SqT.of (s2 _ _ ht)) ?_ ?_⟩
  ·rintro i y σ H2 hx ⟨ws,v2,v3,rfl,s2,hl2,hw⟩
   have hi':i < vs.length:=(AO.mp hx).1
   obtain⟨tm,htm,p,ep,hp,hok⟩:=Paired.get? hts hx
   subst ep
   have hp2:=s2 _ _ hp
   refine⟨p,_,rfl,SqT.of hp2,rfl,_,_,rfl,_,_,rfl,rfl,?_⟩
   have fin:∀(ws':List V)(H3:Hp)(σ':L2.St),(∃v2 v3:Option V,σ'=[some (.ref t),some (.ref l),v2,some (thV tm.2)])->J4 H H3->H3 l=some (.lst ws')->ws'.length+2=2*(i+1)->ws'.length<=20->
     b3t (tBM K "list" a8W (b3f 1) (b1P (tCB (fun xs H Q=>(∃i,xs=[.int i]/\i.natAbs.log2 < 1920/\Q (.str (toString i)) H)\/∃x,xs=[.str x]/\Q (.str x) H) (b1P (b3f 3) b1l)) b1l))
      {nx:=fun σ H2=>∃(ws:List V)(v2 v3:Option V),σ=[some (.ref t),some (.ref l),v2,v3]/\J4 H H2/\H2 l=some (.lst ws)/\((i+1=0/\ws=[])\/(1<=i+1/\ws.length+1=2*(i+1))),rt:=fun _ _=>False} σ' H3:=by
    rintro ws' H3 σ' ⟨v2,v3,rfl⟩ s3 hl3 e1 e2
    refine⟨_,rfl,.inl ⟨rfl,_,SqL.of hl3⟩,_,rfl,?_⟩
    obtain⟨sg,th⟩:=tm
    cases th with
    | num n=>
     refine .inl ⟨n,rfl,?_,?_⟩
     ·have h1:(0:Int)<=n:=hok.1
      have h2:n < 10 ^ 60:=hok.2
      have h3:n.natAbs < 2 ^ 1920:=by
       have:n.natAbs < 10 ^ 60:=by omega
       exact AQ this (by decide)
      by_cases hz:n.natAbs=0
      ·rw[hz];decide
      ·exact(Nat.log2_lt hz).mpr h3
     ·exact⟨l,_,_,rfl,rfl,hl3,U5 (by omega),_,_,_,rfl,s3.put hl,G7,.inr ⟨by omega,by simp;omega⟩⟩
    | nam x=>exact .inr ⟨x,rfl,l,_,_,rfl,rfl,hl3,U5 (by omega),_,_,_,rfl,s3.put hl,G7,.inr ⟨by omega,by simp;omega⟩⟩
   rcases hw with⟨rfl,rfl⟩ | ⟨hi1,hw⟩
   ·refine⟨_,rfl,_,.inl ⟨_,SqL.of hl2,rfl⟩,O7 ?_⟩
    exact fin [] H2 _ ⟨_,none,rfl⟩ s2 hl2 rfl (by decide)
   ·have hne:ws≠[]:=by rintro rfl;simp at hw;omega
    refine⟨_,rfl,_,.inl ⟨_,SqL.of hl2,rfl⟩,?_⟩
    rw[show(!ws.isEmpty)=true by cases ws with | nil=>exact absurd rfl hne | cons _ _=>rfl]
    refine a0I ?_
    refine⟨_,rfl,.inl ⟨rfl,_,SqL.of hl2⟩,_,rfl,rfl,_,rfl,b0d (fun _=>?_) (fun _=>?_)⟩
    all_goals
     refine⟨l,_,_,rfl,rfl,hl2,U5 (by omega),?_⟩
     refine fin _ _ _ ⟨_,none,rfl⟩ (s2.put hl) G7 ?_ ?_
     ·rw[List.length_append];simp only[List.length_cons,List.length_nil];omega
     ·rw[List.length_append];simp only[List.length_cons,List.length_nil];omega
  ·rintro σ H2 ⟨ws,v2,v3,rfl,s2,hl2,hw⟩
   refine⟨_,rfl,l,_,rfl,.inl ⟨SqL.of hl2,fun p hp=>?_⟩⟩
   refine q p ws _ (s2.new hp) G7 ?_
   rcases hw with⟨e,_⟩ | ⟨_,e⟩
   ·omega
   ·omega
theorem a5M(T:Txt K mg):L2.Cl P w K mg base 1 "when_words" ["when"] a7q:=by
 refine Cl.of T.d_when_words a5L (fun vs H Q E h=>?_) (fun _ _ _ _ _ _ us hl=>len1 us hl (fun _=>rfl)) (fun f cdv A outer s H vs Q E hr h=>?_)
 ·obtain⟨x,rfl,_⟩:=h
  rfl
 ·obtain⟨x,rfl,q⟩:=h
  refine⟨_,(I0 (W1 (a1n (a4u (pv 0)))
    (J1 (R3 (J5 G8))) R8)
   (J1 (R3 (J5 (G0 R4 (G0 (pv 0) G8)))))),?_⟩
  refine⟨_,rfl,_,rfl,O7 ?_⟩
  exact⟨_,rfl,E1,fun p hp=>q p _ _ ((J4.refl H).new hp) G7 rfl⟩
theorem a5I(T:Txt K mg):L2.Cl P w K mg base 1 "pair_words" ["pairs"] (fun _ _ _ _=>False):=
 Cl.of T.d_pair_words a5z (fun _ _ _ _ h=>h.elim) (fun _ _ _ _ _ _ us hl=>len1 us hl (fun _=>rfl)) (fun _ _ _ _ _ _ _ _ _ _ h=>h.elim)
theorem a7D(T:Txt K mg):L2.Cl P w K mg base 2 "words_of" ["row"] a9M:=by
 have C_pair_words:=a5I (P:=P) (w:=w) (base:=base) T
 have C_sum_words:=a6J (P:=P) (w:=w) (base:=base) T
 have C_when_words:=a5M (P:=P) (w:=w) (base:=base) T
 refine Cl.of T.d_words_of a4b (fun vs H Q E h=>?_) (fun _ _ _ _ _ _ us hl=>len1 us hl (fun _=>rfl)) (fun f cdv A outer s H vs Q E hr h=>?_)
 ·obtain⟨r,x,n,rfl,_⟩:=h
  rfl
 ·obtain⟨r,x,n,rfl,hrow,q⟩:=h
  refine⟨_,(I0 (U1 (i:=1) a4b.nd rfl (Or.inl rfl) (J7 J9 (pv 0) G9 (fun _ _=>rfl)))
   (I0 (W1 (U0 D4 (pv 1) R4 (U8 _))
    (J1 (R3 (U6 B1 (J5 (G0 R4 (G0 (J7 J9 (pv 0) G9 (fun _ _=>rfl)) G8))) (W2 C_pair_words hr (by rfl) (G0 (J7 J9 (pv 0) G9 (fun _ _=>rfl)) G8))))) R8)
   (I0 (W1 (U0 D4 (pv 1) R4 (U8 _))
    (J1 (R3 (J5 (G0 R4 (G0 (J7 J9 (pv 0) G9 (fun _ _=>rfl)) (G0 R4 (G0 (J7 J9 (pv 0) G9 (fun _ _=>rfl)) G8))))))) R8)
   (I0 (W1 (U0 D4 (pv 1) R4 (U8 _))
    (J1 (R3 (U6 B1 (J5 (G0 R4 (G0 (J7 J9 (pv 0) G9 (fun _ _=>rfl)) (G0 R4 G8)))) (W2 C_sum_words hr (by rfl) (G0 (J7 J9 (pv 0) G9 (fun _ _=>rfl)) G8))))) R8)
   (I0 (W1 (U0 D4 (pv 1) R4 (U8 _))
    (J1 (R3 (U6 B1 (U6 B1 (J5 (G0 R4 G8)) (W2 C_sum_words hr (by rfl) (G0 (J7 J9 (pv 0) G9 (fun _ _=>rfl)) G8))) (W2 C_when_words hr (by rfl) (G0 (J7 J9 (pv 0) G9 (fun _ _=>rfl)) G8))))) R8)
   (I0 (W1 (U0 D4 (pv 1) R4 (U8 _))
    (J1 (R3 (U6 B1 (J5 (G0 R4 G8)) (W2 C_sum_words hr (by rfl) (G0 (J7 J9 (pv 0) G9 (fun _ _=>rfl)) G8))))) R8)
   (I0 (W1 (U0 D4 (pv 1) R4 (U8 _))
    (J1 (R3 (U6 B1 (J5 (G0 R4 (G0 (J7 J9 (pv 0) G9 (fun _ _=>rfl)) G8))) (W2 C_when_words hr (by rfl) (G0 (J7 J9 (pv 0) G9 (fun _ _=>rfl)) G8))))) R8)
   (J1 (R3 (J5 (G0 (pv 1) (G0 (J7 J9 (pv 0) G9 (fun _ _=>rfl)) G8)))))))))))),?_⟩
  rcases hrow with⟨t,ts,hr0,hts,en⟩ | ⟨part,hr0,en⟩
  ·refine⟨_,rfl,r,_,_,_,rfl,rfl,SqT.of hr0,rfl,?_⟩
   refine⟨_,rfl,rfl,_,rfl,Z6 (by decide +kernel) ?_⟩
   refine⟨_,rfl,rfl,_,rfl,Z6 (by decide +kernel) ?_⟩
   refine⟨_,rfl,rfl,_,rfl,Z6 (by decide +kernel) ?_⟩
   refine⟨_,rfl,rfl,_,rfl,a1a ?_⟩
   refine⟨a3y,fun p1 hp1=>?_⟩
   have s1:J4 H (upd H p1 (.tup [.str "say"])):=(J4.refl H).new hp1
   refine⟨_,rfl,r,_,_,_,rfl,rfl,SqT.of (s1 _ _ hr0),rfl,t,ts,rfl,hts.mono s1.tups,fun p2 ws H2 s2 h2 e2=>?_⟩
   have hw:ws≠[]:=by rintro rfl;have:=hts.lo;simp at e2;omega
   have hz:=hts.hi
   refine⟨p1,p2,_,_,rfl,rfl,SqT.of (s2 _ _ G7),SqT.of h2,(by show 1+ws.length<=sizeLine;exact Nat.le_of_lt (U5 (by omega))),(fun z=>by cases z),(fun _ z=>absurd z hw),fun _ _ p3 hp3=>?_⟩
   have s3:J4 H (upd H2 p3 (.tup ([.str "say"]++ws))):=(s1.trans s2).new hp3
   refine⟨_,rfl,r,_,_,_,rfl,rfl,SqT.of (s3 _ _ hr0),rfl,x,rfl,fun p4 us H4 s4 h4 e4=>?_⟩
   have hu:us≠[]:=by rintro rfl;simp at e4
   refine⟨p3,p4,_,_,rfl,rfl,SqT.of (s4 _ _ G7),SqT.of h4,(by simp only[List.length_append,List.length_cons,List.length_nil];exact Nat.le_of_lt (U5 (by omega))),(fun z=>by cases z),(fun _ z=>absurd z hu),fun _ _ p5 hp5=>?_⟩
   refine q p5 _ _ ((s3.trans s4).new hp5) G7 ?_
   simp only[List.length_append,List.length_cons,List.length_nil]
   omega
  ·refine⟨_,rfl,r,_,_,_,rfl,rfl,SqT.of hr0,rfl,?_⟩
   refine⟨_,rfl,rfl,_,rfl,Z6 (by decide +kernel) ?_⟩
   refine⟨_,rfl,rfl,_,rfl,Z6 (by decide +kernel) ?_⟩
   refine⟨_,rfl,rfl,_,rfl,Z6 (by decide +kernel) ?_⟩
   refine⟨_,rfl,rfl,_,rfl,Z6 (by decide +kernel) ?_⟩
   refine⟨_,rfl,rfl,_,rfl,Z6 (by decide +kernel) ?_⟩
   refine⟨_,rfl,rfl,_,rfl,a1a ?_⟩
   refine⟨_,rfl,r,_,_,_,rfl,rfl,SqT.of hr0,rfl,E1,fun p1 hp1=>?_⟩
   have s1:J4 H (upd H p1 (.tup [.str "ask",.str part])):=(J4.refl H).new hp1
   refine⟨_,rfl,r,_,_,_,rfl,rfl,SqT.of (s1 _ _ hr0),rfl,x,rfl,fun p4 us H4 s4 h4 e4=>?_⟩
   have hu:us≠[]:=by rintro rfl;simp at e4
   refine⟨p1,p4,_,_,rfl,rfl,SqT.of (s4 _ _ G7),SqT.of h4,(by simp only[List.length_append,List.length_cons,List.length_nil];exact Nat.le_of_lt (U5 (by omega))),(fun z=>by cases z),(fun _ z=>absurd z hu),fun _ _ p5 hp5=>?_⟩
   refine q p5 _ _ ((s1.trans s4).new hp5) G7 ?_
   simp only[List.length_append,List.length_cons,List.length_nil]
   omega
theorem a4n.get{H:Hp}{r:Addr}{x:Str}{n:Int}(h:a4n H r x n):∃(k:Str)(v:V),H r=some (.tup [.str k,v,.str x]):=by
 rcases h with⟨t,ts,h,_⟩ | ⟨part,h,_⟩
 ·exact⟨_,_,h⟩
 ·exact⟨_,_,h⟩
theorem a5F(T:Txt K mg):L2.Cl P w K mg base 3 "when_names" ["row"] a7g:=by
 have C_words_of:=a7D (P:=P) (w:=w) (base:=base) T
 refine Cl.of T.d_when_names a5K (fun vs H Q E h=>?_) (fun _ _ _ _ _ _ us hl=>len1 us hl (fun _=>rfl)) (fun f cdv A outer s H vs Q E hr h=>?_)
 ·obtain⟨r,ds,rfl,_⟩:=h
  rfl
 ·obtain⟨r,ds,rfl,hrow,q⟩:=h
  refine⟨_,(I0 (W1 (a1n (a4u (J7 J9 (pv 0) G9 (fun _ _=>rfl))))
    (J1 (R3 (J5 G8))) R8)
   (J1 (R3 (J5 (G0 (J5 (G0 (U6 a3x (Y1 O9 (by rfl) T.n_len PySem.boot_len (G0 (W2 C_words_of hr (by rfl) (G0 (pv 0) G8)) G8)) G9) (G0 (J7 J9 (pv 0) G9 (fun _ _=>rfl)) G8))) G8))))),?_⟩
  rcases hrow with⟨x,n,hw,rfl⟩ | ⟨k,v,hr0,rfl⟩
  ·obtain⟨k,v,hr0⟩:=hw.get
   refine⟨_,rfl,r,_,_,_,rfl,rfl,SqT.of hr0,rfl,_,rfl,O7 ?_⟩
   refine⟨_,rfl,r,x,n,rfl,hw,fun p1 ws H1 s1 h1 e1=>?_⟩
   refine⟨p1,ws,rfl,.inr (SqT.of h1),_,_,rfl,rfl,_,rfl,r,_,_,_,rfl,rfl,SqT.of (s1 _ _ hr0),rfl,E1,fun p2 hp2=>⟨a3y,fun p3 hp3=>?_⟩⟩
   refine q p3 _ _ ((s1.new hp2).new hp3) G7 (.cons ⟨p2,rfl,?_⟩ .nil)
   rw[J2 G7 hp3]
   have e:(ws.length:Int) - 1=n:=by omega
   show some (HO.tup [V.int ((ws.length:Int) - 1),V.str x])=_
   rw[e]
  ·refine⟨_,rfl,r,_,_,_,rfl,rfl,SqT.of hr0,rfl,_,rfl,a0I ?_⟩
   exact⟨a1r,fun p hp=>q p _ _ ((J4.refl H).new hp) G7 .nil⟩
theorem a5x(T:Txt K mg):L2.Cl P w K mg base 4 "read_names" ["row"] a7y:=by
 have C_sum_names:=a6T (P:=P) (w:=w) (base:=base) T
 have C_when_names:=a5F (P:=P) (w:=w) (base:=base) T
 refine Cl.of T.d_read_names a2G (fun vs H Q E h=>?_) (fun _ _ _ _ _ _ us hl=>len1 us hl (fun _=>rfl)) (fun f cdv A outer s H vs Q E hr h=>?_)
 ·obtain⟨r,ds,rfl,_⟩:=h
  rfl
 ·obtain⟨r,ds,rfl,hrow,q⟩:=h
  refine⟨_,(I0 (U1 (i:=1) a2G.nd rfl (Or.inl rfl) (J7 J9 (pv 0) G9 (fun _ _=>rfl)))
   (I0 (W1 (U0 D4 (pv 1) R4 (U8 _))
    (J1 (R3 (W2 C_sum_names hr (by rfl) (G0 (J7 J9 (pv 0) G9 (fun _ _=>rfl)) (G0 G9 G8))))) R8)
   (I0 (W1 (U0 D4 (pv 1) R4 (U8 _))
    (J1 (R3 (W2 C_sum_names hr (by rfl) (G0 (J7 J9 (pv 0) G9 (fun _ _=>rfl)) (G0 G9 G8))))) R8)
   (I0 (W1 (U0 D4 (pv 1) R4 (U8 _))
    (J1 (R3 (U6 B1 (W2 C_when_names hr (by rfl) (G0 (pv 0) G8)) (W2 C_sum_names hr (by rfl) (G0 (J7 J9 (pv 0) G9 (fun _ _=>rfl)) (G0 G9 G8)))))) R8)
   (I0 (W1 (U0 D4 (pv 1) R4 (U8 _))
    (J1 (R3 (W2 C_when_names hr (by rfl) (G0 (pv 0) G8)))) R8)
   (J1 (R3 (J5 G8)))))))),?_⟩
  rcases hrow with⟨own,t,ts,h1,h2,rfl⟩ | ⟨t,ts,h1,h2,rfl⟩ | ⟨t,ts,h1,h2,rfl⟩ | ⟨t,ts,x,h1,h2,rfl⟩ | ⟨part,x,h1,rfl⟩ | ⟨part,h1,rfl⟩ | ⟨k,more,h1,⟨n1,n2,n3,n4⟩,rfl⟩
  ·refine⟨_,rfl,r,_,_,_,rfl,rfl,SqT.of h1,rfl,?_⟩
   refine⟨_,rfl,rfl,_,rfl,a1a ?_⟩
   exact⟨_,rfl,r,_,_,_,rfl,rfl,SqT.of h1,rfl,t,ts,3,rfl,h2,q⟩
  ·refine⟨_,rfl,r,_,_,_,rfl,rfl,SqT.of h1,rfl,?_⟩
   refine⟨_,rfl,rfl,_,rfl,Z6 (by decide +kernel) ?_⟩
   refine⟨_,rfl,rfl,_,rfl,a1a ?_⟩
   exact⟨_,rfl,r,_,_,_,rfl,rfl,SqT.of h1,rfl,t,ts,1,rfl,h2,q⟩
  ·refine⟨_,rfl,r,_,_,_,rfl,rfl,SqT.of h1,rfl,?_⟩
   refine⟨_,rfl,rfl,_,rfl,Z6 (by decide +kernel) ?_⟩
   refine⟨_,rfl,rfl,_,rfl,Z6 (by decide +kernel) ?_⟩
   refine⟨_,rfl,rfl,_,rfl,a1a ?_⟩
   refine⟨_,rfl,r,[],rfl,.inr ⟨_,_,h1,rfl⟩,fun p1 ws H1 s1 g1 m1=>?_⟩
   cases m1
   refine⟨_,rfl,r,_,_,_,rfl,rfl,SqT.of (s1 _ _ h1),rfl,t,ts,1,rfl,h2.mono s1.tups,fun p2 us H2 s2 g2 m2=>?_⟩
   have e2:us.length=(U2 1 ts).length:=AF m2
   have:=a0j ts 1
   have:=h2.hi
   exact⟨p1,p2,_,_,rfl,rfl,SqT.of (s2 _ _ g1),SqT.of g2,(by show 0+us.length<=sizeLine;exact Nat.le_of_lt (U5 (by omega))),(fun _=>q p2 us H2 (s1.trans s2) g2 m2),(fun z=>absurd rfl z),fun z=>absurd rfl z⟩
  ·refine⟨_,rfl,r,_,_,_,rfl,rfl,SqT.of h1,rfl,?_⟩
   refine⟨_,rfl,rfl,_,rfl,Z6 (by decide +kernel) ?_⟩
   refine⟨_,rfl,rfl,_,rfl,Z6 (by decide +kernel) ?_⟩
   refine⟨_,rfl,rfl,_,rfl,a1a ?_⟩
   refine⟨_,rfl,r,[(2*(ts.length:Int)+1,x)],rfl,.inl ⟨x,_,.inl ⟨t,ts,h1,h2,rfl⟩,rfl⟩,fun p1 ws H1 s1 g1 m1=>?_⟩
   refine⟨_,rfl,r,_,_,_,rfl,rfl,SqT.of (s1 _ _ h1),rfl,t,ts,1,rfl,h2.mono s1.tups,fun p2 us H2 s2 g2 m2=>?_⟩
   have e1:ws.length=1:=AF m1
   have e2:us.length=(U2 1 ts).length:=AF m2
   have:=a0j ts 1
   have:=h2.hi
   have hw:ws≠[]:=by rintro rfl;simp at e1
   refine⟨p1,p2,_,_,rfl,rfl,SqT.of (s2 _ _ g1),SqT.of g2,(by exact Nat.le_of_lt (U5 (by omega))),(fun z=>absurd z hw),fun _ z=>?_,fun _ _ p3 hp3=>?_⟩
   ·subst z
    have e:U2 1 ts=[]:=List.length_eq_zero_iff.mp (by simpa using e2.symm)
    exact q p1 ws H2 (s1.trans s2) (s2 _ _ g1) (by rw[e];exact m1.mono s2.tups)
   ·refine q p3 _ _ ((s1.trans s2).new hp3) G7 ?_
    have m1':a1L (upd H2 p3 (.tup (ws++us))) ws [(2*(ts.length:Int)+1,x)]:=(m1.mono s2.tups).mono (U9.new hp3)
    have m2':a1L (upd H2 p3 (.tup (ws++us))) us (U2 1 ts):=m2.mono (U9.new hp3)
    exact a2P m1' m2'
  ·refine⟨_,rfl,r,_,_,_,rfl,rfl,SqT.of h1,rfl,?_⟩
   refine⟨_,rfl,rfl,_,rfl,Z6 (by decide +kernel) ?_⟩
   refine⟨_,rfl,rfl,_,rfl,Z6 (by decide +kernel) ?_⟩
   refine⟨_,rfl,rfl,_,rfl,Z6 (by decide +kernel) ?_⟩
   refine⟨_,rfl,rfl,_,rfl,a1a ?_⟩
   exact⟨_,rfl,r,[(3,x)],rfl,.inl ⟨x,3,.inr ⟨part,h1,rfl⟩,rfl⟩,q⟩
  ·refine⟨_,rfl,r,_,_,_,rfl,rfl,SqT.of h1,rfl,?_⟩
   refine⟨_,rfl,rfl,_,rfl,Z6 (by decide +kernel) ?_⟩
   refine⟨_,rfl,rfl,_,rfl,Z6 (by decide +kernel) ?_⟩
   refine⟨_,rfl,rfl,_,rfl,Z6 (by decide +kernel) ?_⟩
   refine⟨_,rfl,rfl,_,rfl,a1a ?_⟩
   exact⟨_,rfl,r,[],rfl,.inr ⟨_,_,h1,rfl⟩,q⟩
  ·refine⟨_,rfl,r,_,_,_,rfl,rfl,SqT.of h1,J6 (j:=0) rfl,?_⟩
   refine⟨_,rfl,rfl,_,rfl,Z6 n1 ?_⟩
   refine⟨_,rfl,rfl,_,rfl,Z6 n2 ?_⟩
   refine⟨_,rfl,rfl,_,rfl,Z6 n3 ?_⟩
   refine⟨_,rfl,rfl,_,rfl,Z6 n4 ?_⟩
   exact⟨a1r,fun p hp=>q p _ _ ((J4.refl H).new hp) G7 .nil⟩
theorem ntH{σ:L2.St}{H:Hp}{A B:Hp->Prop}(h:A H):a6w σ H fun b H5=>if b=true then A H5 else B H5:=by
 show if true=true then A H else B H
 rw[if_pos rfl]
 exact h
theorem b4Y{c A B:Prop}[Decidable c](hc:¬c)(h:A):if(!decide c)=true then A else B:=by
 rw[if_pos (by simp[hc])]
 exact h
noncomputable def a8G (CP:Addr):Sp:=fun vs H Q _=>∃(w:Addr)(p:Str)(N:Nt),vs=[.ref w,.str p]/\a0C CP H w N/\∀(t:Addr)(H':Hp),J4 H H'->H' t=some (.tup [])->Q (.ref t) H'
theorem a2u(T:Tc K mg CP CG):MCl P w K mg base 1 CP "loads_of" ["self","part"] (a8G CP):=by
 refine MCl.of T.m_loads_of a1K (fun vs H Q E h=>?_) (fun _ _ _ _ _ _ us hl=>len2 us hl (fun _ _=>rfl)) (fun fa cdv A outer s H vs Q E hr h=>?_)
 ·obtain⟨w,p,N,rfl,_⟩:=h
  rfl
 ·obtain⟨w,p,N,rfl,hw,q⟩:=h
  refine⟨_,(J1 (R3 (J5 G8))),?_⟩
  exact⟨a1r,fun t gt=>q t _ ((J4.refl H).new gt) G7⟩
theorem a3Z(T:Tc K mg CP CG):MCl P w K mg base 1 CP "ahead_of" ["self","root"] (a8G CP):=by
 refine MCl.of T.m_ahead_of a1N (fun vs H Q E h=>?_) (fun _ _ _ _ _ _ us hl=>len2 us hl (fun _ _=>rfl)) (fun fa cdv A outer s H vs Q E hr h=>?_)
 ·obtain⟨w,p,N,rfl,_⟩:=h
  rfl
 ·obtain⟨w,p,N,rfl,hw,q⟩:=h
  refine⟨_,(J1 (R3 (J5 G8))),?_⟩
  exact⟨a1r,fun t gt=>q t _ ((J4.refl H).new gt) G7⟩
noncomputable def b4B (CP:Addr):Sp:=fun vs H Q _=>∃(w:Addr)(p x:Str)(N:Nt)(k:Str×Nat),vs=[.ref w,.str p,.str x]/\a0C CP H w N/\N.km (p,x)=some k/\∀(t:Addr)(H':Hp),J4 H H'->H' t=some (.tup ((kN k).map kV))->Q (.ref t) H'
theorem a1J(T:Tc K mg CP CG):MCl P w K mg base 1 CP "key_of" ["self","part","name"] (b4B CP):=by
 refine MCl.of T.m_key_of a2C (fun vs H Q E h=>?_) (fun _ _ _ _ _ _ us hl=>len3 us hl (fun _ _ _=>rfl)) (fun fa cdv A outer s H vs Q E hr h=>?_)
 ·obtain⟨w,p,x,N,k,rfl,_⟩:=h
  rfl
 ·obtain⟨w,p,x,N,k,rfl,hw,hk,q⟩:=h
  have hu:=a0O hr
  obtain⟨dx,rd,md,kvr,kvm,h1,h2,h3,h4,h5⟩:=hw.ex
  obtain⟨t,e1,e2⟩:=h5 p x k hk
  refine⟨_,(J1 (R3 (a1V hu (W3 (pv 0) rfl) (J5 (G0 (pv 1) (G0 (pv 2) G8))) (fun _ _=>rfl)))),?_⟩
  refine⟨_,rfl,w,CP,dx,_,_,rfl,h1,T.c_PartsWalk,T.nP_makers,a9T,_,rfl,_,rfl,E1,fun c gc=>?_⟩
  have s1:J4 H (upd H c (.tup ((kS (p,x)).map kV))):=(J4.refl H).new gc
  refine⟨md,.ref t,rfl,?_,?_⟩
  ·have hg:=a0S.t (k:=kS (p,x)) (s1 _ _ h3) (G7 (H:=H) (a:=c) (o:= .tup ((kS (p,x)).map kV)))
   rw[e1]at hg
   exact hg
  ·exact q t _ s1 (s1 _ _ e2)
noncomputable def a3X (H:Hp) (v:V) (x:Wx):Prop:=∃t r,v= .ref t/\H t=some (.tup [.str x.1,.int (x.2.1:Int),.ref r])/\O5 H r x.2.2
theorem a3X.mono{H H':Hp}(s:U9 H H'){v:V}{x:Wx}(h:a3X H v x):a3X H' v x:=by
 obtain⟨t,r,e,h1,h2⟩:=h
 exact⟨t,r,e,s _ _ h1,h2.mono s⟩
theorem a2x(p:Str)(rs:List Rw):(W5 p rs).length=rs.length:=by unfold W5;rw[List.length_mapIdx]
theorem b0U{p:Str}{rs:List Rw}{i:Nat}{rw:Rw}(h:rs[i]?=some rw):(W5 p rs)[i]?=some (p,i,rw):=by
 unfold W5
 rw[List.getElem?_mapIdx,h]
 rfl
noncomputable def b1S (CP:Addr):Sp:=fun vs H Q _=>∃(w:Addr)(p:Str)(rs:List Rw)(N:Nt),vs=[.ref w,.str p]/\a0C CP H w N/\(p,rs)∈N.ps/\rs.length<=900/\∀(t:Addr)(vs:List V)(H':Hp),J4 H H'->H' t=some (.tup vs)->Paired (a3X H') vs (W5 p rs)->Q (.ref t) H'
theorem a5o(T:Tc K mg CP CG):MCl P w K mg base 1 CP "rows_of" ["self","part"] (b1S CP):=by
 refine MCl.of T.m_rows_of a2q (fun vs H Q E h=>?_) (fun _ _ _ _ _ _ us hl=>len2 us hl (fun _ _=>rfl)) (fun fa cdv A outer s H vs Q E hr h=>?_)
 ·obtain⟨w,p,rs,N,rfl,_⟩:=h
  rfl
 ·obtain⟨w,p,rs,N,rfl,hw,hm,hl9,q⟩:=h
  have hu:=a0O hr
  obtain⟨dx,rd,md,kvr,kvm,h1,h2,h3,h4,h5⟩:=hw.ex
  obtain⟨u,ws,e1,e2,e3⟩:=h4 p rs hm
  have hwl:ws.length=rs.length:=AF e3
  refine⟨_,(J1 (R3 (W8 U7 (by rfl) T.n_tuple boot_tuple (G0 (a6L (M:=["number","row","part"]) (ρ:=[none,none,some 1]) (I9 Y9) ["self","part"] ⟨rfl,by decide +kernel,by decide +kernel,by decide +kernel,rfl,by decide +kernel,by decide +kernel⟩ (a4A (by rfl) T.n_enumerate (G0 (a1V hu (W3 (pv 0) rfl) (pv 1) (fun _ _=>rfl)) G8)) (fun _ _ _ _ _ _=>(a8B (K:=K) (n:=2) rfl rfl (R7 (R5 (i:=0) (show(["number","row","part"]:List Str).Nodup by decide +kernel) rfl (Or.inl rfl)) (R7 (R5 (i:=1) (show(["number","row","part"]:List Str).Nodup by decide +kernel) rfl (Or.inl rfl)) F3)))) (fun _ _ _ _ _ _=>a3t) (fun _ _ _ _ _ _=>(J5 (G0 (pv 2) (G0 (pv 0) (G0 (pv 1) G8)))))) G8)))),?_⟩
  refine⟨_,rfl,w,CP,dx,_,_,rfl,h1,T.c_PartsWalk,T.nP_rows,b3b,_,rfl,rd,.ref u,rfl,?_,u,rfl,⟨_,SqT.of e2⟩,fun D hD=>?_⟩
  ·have hg:=a0S.k (k:=Sum.inr p) h2
   rw[e1]at hg
   exact hg
  refine a2V ws.length (fun i σ H3=>∃(v0 v1:Option V)(us:List V),σ=[v0,v1,some (.str p)]/\J4 H H3/\H3 D=some (.lst us)/\Paired (a3X H3) us ((W5 p rs).take i)) ⟨_,_,[],rfl,(J4.refl H).new hD,G7,by rw[List.take_zero];exact .nil⟩ ?_ ?_
  ·rintro i σ H3 hi ⟨v0,v1,us,rfl,s3,hD3,hus⟩
   refine⟨⟨ws,ws[i],SqT.of (s3 _ _ e2),by simp⟩,?_⟩
   rintro v H4 ⟨pe,y,hv,hpe,rfl,rfl⟩
   have hv':=hv _ (SqT.of (s3 _ _ e2))
   obtain⟨rw,hrw,r,er,hra⟩:=Paired.get? e3 hv'
   subst er
   have s4:J4 H3 (upd H3 pe (.tup [.int i,.ref r])):=(J4.refl H3).new hpe
   have hpe4:upd H3 pe (.tup [.int i,.ref r]) pe=some (.tup [.int i,.ref r]):=G7
   generalize upd H3 pe (.tup [.int i,.ref r])=H4 at s4 hpe4⊢
   have hul:us.length<=i:=by rw[AF hus,AR];omega
   refine⟨pe,_,rfl,SqT.of hpe4,rfl,_,_,rfl,_,_,rfl,rfl,?_⟩
   refine ntH ?_
   refine⟨_,rfl,_,rfl,_,rfl,a2b,fun t gt=>?_⟩
   have s5:J4 H3 (upd H4 t (.tup [.str p,.int i,.ref r])):=s4.new gt
   have hD5:=s5 _ _ hD3
   have ht5:upd H4 t (.tup [.str p,.int i,.ref r]) t=some (.tup [.str p,.int i,.ref r]):=G7
   generalize upd H4 t (.tup [.str p,.int i,.ref r])=H5 at s5 hD5 ht5⊢
   refine⟨us,hD5,U5 (by omega),_,_,_,rfl,(s3.trans s5).put hD,G7,?_⟩
   rw[U3 (b0U hrw)]
   have T6:U9 H5 (upd H5 D (.lst (us++[.ref t]))):=U9.lst hD5
   exact Paired.snoc (Paired.mapP hus fun _ _ z=>(z.mono s5.tups).mono T6) ⟨t,r,rfl,T6 _ _ ht5,(hra.mono (s3.trans s5).tups).mono T6⟩
  ·rintro σ H3 ⟨v0,v1,us,rfl,s3,hD3,hus⟩
   refine⟨⟨ws,SqT.of (s3 _ _ e2),rfl⟩,?_⟩
   refine⟨D,_,rfl,.inl ⟨SqL.of hD3,fun t gt=>?_⟩⟩
   refine q t us _ (s3.new gt) G7 ?_
   rw[List.take_of_length_le (by rw[a2x];omega)]at hus
   exact Paired.mapP hus fun _ _ z=>z.mono (U9.new gt)
theorem a6F(T:Tc K mg CP CG):MCl P w K mg base 1 CG "load" ["self","packs"] (fun vs H Q _=>∃(g t:Addr),vs=[.ref g,.ref t]/\H t=some (.tup [])/\Q .non H):=by
 refine MCl.of T.m_load a2H (fun vs H Q E h=>?_) (fun _ _ _ _ _ _ us hl=>len2 us hl (fun _ _=>rfl)) (fun fa cdv A outer s H vs Q E hr h=>?_)
 ·obtain⟨g,t,rfl,_⟩:=h
  rfl
 ·obtain⟨g,t,rfl,ht,q⟩:=h
  have hu:=a0O hr
  refine⟨_,(J1 (F7 AK rfl (a1l (pv 1)) (R5 (i:=2) a2H.nd rfl (Or.inl rfl))
    (J1 (W1 (a1n (a3O hu (pv 2) (W3 (pv 0) rfl)))
     (I0 (a1x hu (W3 (pv 0) rfl) (pv 2) a0P rfl)
     (J1 (Y0 (a2F PySem.F.plainAttrs_list PySem.F.slot_list_append PySem.F.type_list_append D8 (W3 (pv 0) rfl) (G0 (J5 (G0 R4 (G0 (pv 2) G8))) G8))))) R8)))),?_⟩
  refine⟨_,rfl,t,rfl,⟨_,SqT.of ht⟩,a0n (K:=K) (a:=t) (xs:=[]) (fun i σ H2=>H2=H) rfl (fun i σ H2 _ e=>by rw[e];exact SqT.of ht) (fun i x σ H2 e _=>by simp at e) (fun σ H2 e=>by rw[e];exact q)⟩
noncomputable def KpG (g:Addr) (H H':Hp):Prop:=∀a o,H a=some o->a≠g->H' a=some o
theorem KpG.refl(g:Addr)(H:Hp):KpG g H H:=fun _ _ e _=>e
theorem KpG.self{g:Addr}{H H':Hp}{o:HO}(k:KpG g H H'):KpG g H (upd H' g o):=fun a u e h=>by rw[J0 h];exact k a u e h
theorem KpG.new{g:Addr}{H H':Hp}{b:Addr}{o:HO}(k:KpG g H H')(hb:H' b=none):KpG g H (upd H' b o):=fun a u e h=>J2 (k a u e h) hb
theorem Y5(f:Str)(v:V):∀(fs:List (Str×V))(n:Nat),fs.length<=n->(J8 f v fs).length<=n+1
 | [],n,h=>by show 1<=n+1;omega
 | (g,x)::r,n,h=>by
  have h':r.length+1<=n:=h
  show(if g=f then(g,v)::r else(g,x)::J8 f v r).length<=n+1
  split
  ·show r.length+1<=n+1;omega
  ·have:=Y5 f v r (n - 1) (by omega)
   show(J8 f v r).length+1<=n+1
   omega
theorem B7{m n:Nat}(h:m<=n)(hn:n < 1000):m < 1000:=Nat.lt_of_le_of_lt h hn
theorem b3o(A:GA):J8 "fault" .non (J8 "trace" (.ref A.tr) (J8 "waiting" (.ref A.wt) (J8 "given" (.ref A.gv) (J8 "loaded" (.ref A.l) (J8 "begun" (.ref A.b) (J8 "taken" (.int 0) (J8 "numbers" (.ref A.n) (J8 "walk" (.ref A.w) []))))))))=gF A 0 .non:=by kernel_rfl
noncomputable def s0:GS:=⟨0,[],[],[],[],none⟩
noncomputable def b0A (CP CG:Addr):Sp:=fun vs H Q _=>∃(g w n dx:Addr)(N:Nt)(ns:List Int),vs=[.ref g,.ref w,.ref n]/\H g=some (.ins CG dx [])/\a0C CP H w N/\w≠g/\H n=some (.tup (ns.map V.int))/\∀(A:GA)(H':Hp),KpG g H H'->(H A.b=none/\H A.l=none/\H A.gv=none/\H A.wt=none/\H A.tr=none)->Z2 CP CG H' g A N ns s0->Q .non H'
theorem a9R(T:Tc K mg CP CG):ICl P w K mg base 1 "Going" CG ["self","walk","numbers"] (b0A CP CG):=by
 refine ICl.of T.i_Going T.g_Going a1t (fun vs H Q E h=>?_) (fun _ _ _ _ _ _ us hl=>len3 us hl (fun _ _ _=>rfl)) (fun fa cdv A outer s H vs Q E hr h=>?_)
 ·obtain⟨g,w,n,dx,N,ns,rfl,_⟩:=h
  rfl
 ·obtain⟨g,w,n,dx,N,ns,rfl,hg,hw,hwg,hn,q⟩:=h
  refine⟨_,(I0 (F0 (pv 0) (pv 1) rfl)
   (I0 (F0 (pv 0) (pv 2) rfl)
   (I0 (F0 (pv 0) G9 rfl)
   (I0 (F0 (pv 0) a3h rfl)
   (I0 (F0 (pv 0) a3h rfl)
   (I0 (F0 (pv 0) a2d rfl)
   (I0 (F0 (pv 0) (O4 G8) rfl)
   (I0 (F0 (pv 0) (O4 G8) rfl)
   (J1 (F0 (pv 0) a1q rfl)))))))))),?_⟩
  refine⟨_,rfl,_,rfl,g,CG,dx,_,rfl,hg,T.c_Going,T.nG_walk,(by show 0 < 1000;decide),?_⟩
  refine⟨_,rfl,_,rfl,g,CG,dx,_,rfl,G7,T.c_Going,T.nG_numbers,B7 (Y5 _ _ _ 0 (AD _)) (by decide),?_⟩
  refine⟨_,rfl,g,CG,dx,_,rfl,G7,T.c_Going,T.nG_taken,B7 (Y5 _ _ _ 1 (Y5 _ _ _ 0 (AD _))) (by decide),?_⟩
  have k3:KpG g H (upd (upd (upd H g (.ins CG dx (J8 "walk" (.ref w) []))) g (.ins CG dx (J8 "numbers" (.ref n) (J8 "walk" (.ref w) [])))) g (.ins CG dx (J8 "taken" (.int 0) (J8 "numbers" (.ref n) (J8 "walk" (.ref w) []))))):=((KpG.refl g H).self.self).self
  have g3:upd (upd (upd H g (.ins CG dx (J8 "walk" (.ref w) []))) g (.ins CG dx (J8 "numbers" (.ref n) (J8 "walk" (.ref w) [])))) g (.ins CG dx (J8 "taken" (.int 0) (J8 "numbers" (.ref n) (J8 "walk" (.ref w) [])))) g=some (.ins CG dx (J8 "taken" (.int 0) (J8 "numbers" (.ref n) (J8 "walk" (.ref w) [])))):=G7
  generalize upd (upd (upd H g (.ins CG dx (J8 "walk" (.ref w) []))) g (.ins CG dx (J8 "numbers" (.ref n) (J8 "walk" (.ref w) [])))) g (.ins CG dx (J8 "taken" (.int 0) (J8 "numbers" (.ref n) (J8 "walk" (.ref w) []))))=H3 at k3 g3⊢
  have l3:(J8 "taken" (.int 0) (J8 "numbers" (.ref n) (J8 "walk" (.ref w) []))).length<=3:=Y5 _ _ _ 2 (Y5 _ _ _ 1 (Y5 _ _ _ 0 (AD _)))
  have fr:∀{H':Hp}{b:Addr},KpG g H H'->H' g≠none->H' b=none->H b=none:=fun{H' b}k hg' hb=>by
   cases e:H b with
   | none=>rfl
   | some o=>
    by_cases z:b=g
    ·subst z;exact absurd hb hg'
    ·rw[k b o e z]at hb;cases hb
  intro b gb
  have nb:g≠b:=J3 g3 gb
  have fb:=fr k3 (by rw[g3];intro z;cases z) gb
  refine⟨_,rfl,g,CG,dx,_,rfl,by rw[J0 nb];exact g3,T.c_Going,T.nG_begun,B7 l3 (by decide),?_⟩
  generalize hf3:J8 "taken" (.int 0) (J8 "numbers" (.ref n) (J8 "walk" (.ref w) []))=f3 at l3 g3⊢
  have l4:=Y5 "begun" (.ref b) _ 3 l3
  have k4:=((k3.new (o:= .dK []) gb).self (o:= .ins CG dx (J8 "begun" (.ref b) f3)))
  have g4:=G7 (H:=upd H3 b (.dK [])) (a:=g) (o:= .ins CG dx (J8 "begun" (.ref b) f3))
  have b4:upd (upd H3 b (.dK [])) g (.ins CG dx (J8 "begun" (.ref b) f3)) b=some (.dK []):=by rw[J0 nb.symm,G7]
  generalize upd (upd H3 b (.dK [])) g (.ins CG dx (J8 "begun" (.ref b) f3))=H4 at k4 g4 b4⊢
  generalize hf4:J8 "begun" (.ref b) f3=f4 at l4 g4⊢
  intro l gl
  have nl:g≠l:=J3 g4 gl
  have fl:=fr k4 (by rw[g4];intro z;cases z) gl
  refine⟨_,rfl,g,CG,dx,_,rfl,by rw[J0 nl];exact g4,T.c_Going,T.nG_loaded,B7 l4 (by decide),?_⟩
  have l5:=Y5 "loaded" (.ref l) _ 4 l4
  have nbl:b≠l:=J3 b4 gl
  have k5:=((k4.new (o:= .dK []) gl).self (o:= .ins CG dx (J8 "loaded" (.ref l) f4)))
  have g5:=G7 (H:=upd H4 l (.dK [])) (a:=g) (o:= .ins CG dx (J8 "loaded" (.ref l) f4))
  have b5:upd (upd H4 l (.dK [])) g (.ins CG dx (J8 "loaded" (.ref l) f4)) b=some (.dK []):=by rw[J0 nb.symm,J0 nbl];exact b4
  have c5:upd (upd H4 l (.dK [])) g (.ins CG dx (J8 "loaded" (.ref l) f4)) l=some (.dK []):=by rw[J0 nl.symm,G7]
  generalize upd (upd H4 l (.dK [])) g (.ins CG dx (J8 "loaded" (.ref l) f4))=H5 at k5 g5 b5 c5⊢
  generalize hf5:J8 "loaded" (.ref l) f4=f5 at l5 g5⊢
  intro v gv
  have nv:g≠v:=J3 g5 gv
  have fv:=fr k5 (by rw[g5];intro z;cases z) gv
  refine⟨_,rfl,g,CG,dx,_,rfl,by rw[J0 nv];exact g5,T.c_Going,T.nG_given,B7 l5 (by decide),?_⟩
  have l6:=Y5 "given" (.ref v) _ 5 l5
  have nbv:b≠v:=J3 b5 gv
  have nlv:l≠v:=J3 c5 gv
  have k6:=((k5.new (o:= .dT []) gv).self (o:= .ins CG dx (J8 "given" (.ref v) f5)))
  have g6:=G7 (H:=upd H5 v (.dT [])) (a:=g) (o:= .ins CG dx (J8 "given" (.ref v) f5))
  have b6:upd (upd H5 v (.dT [])) g (.ins CG dx (J8 "given" (.ref v) f5)) b=some (.dK []):=by rw[J0 nb.symm,J0 nbv];exact b5
  have c6:upd (upd H5 v (.dT [])) g (.ins CG dx (J8 "given" (.ref v) f5)) l=some (.dK []):=by rw[J0 nl.symm,J0 nlv];exact c5
  have v6:upd (upd H5 v (.dT [])) g (.ins CG dx (J8 "given" (.ref v) f5)) v=some (.dT []):=by rw[J0 nv.symm,G7]
  generalize upd (upd H5 v (.dT [])) g (.ins CG dx (J8 "given" (.ref v) f5))=H6 at k6 g6 b6 c6 v6⊢
  generalize hf6:J8 "given" (.ref v) f5=f6 at l6 g6⊢
  refine⟨a1r,fun wt gw=>?_⟩
  have nw:g≠wt:=J3 g6 gw
  have fw:=fr k6 (by rw[g6];intro z;cases z) gw
  refine⟨_,rfl,g,CG,dx,_,rfl,by rw[J0 nw];exact g6,T.c_Going,T.nG_waiting,B7 l6 (by decide),?_⟩
  have l7:=Y5 "waiting" (.ref wt) _ 6 l6
  have nbw:b≠wt:=J3 b6 gw
  have nlw:l≠wt:=J3 c6 gw
  have nvw:v≠wt:=J3 v6 gw
  have k7:=((k6.new (o:= .lst []) gw).self (o:= .ins CG dx (J8 "waiting" (.ref wt) f6)))
  have g7:=G7 (H:=upd H6 wt (.lst [])) (a:=g) (o:= .ins CG dx (J8 "waiting" (.ref wt) f6))
  have b7:upd (upd H6 wt (.lst [])) g (.ins CG dx (J8 "waiting" (.ref wt) f6)) b=some (.dK []):=by rw[J0 nb.symm,J0 nbw];exact b6
  have c7:upd (upd H6 wt (.lst [])) g (.ins CG dx (J8 "waiting" (.ref wt) f6)) l=some (.dK []):=by rw[J0 nl.symm,J0 nlw];exact c6
  have v7:upd (upd H6 wt (.lst [])) g (.ins CG dx (J8 "waiting" (.ref wt) f6)) v=some (.dT []):=by rw[J0 nv.symm,J0 nvw];exact v6
  have w7:upd (upd H6 wt (.lst [])) g (.ins CG dx (J8 "waiting" (.ref wt) f6)) wt=some (.lst []):=by rw[J0 nw.symm,G7]
  generalize upd (upd H6 wt (.lst [])) g (.ins CG dx (J8 "waiting" (.ref wt) f6))=H7 at k7 g7 b7 c7 v7 w7⊢
  generalize hf7:J8 "waiting" (.ref wt) f6=f7 at l7 g7⊢
  refine⟨a1r,fun tr gt=>?_⟩
  have nt':g≠tr:=J3 g7 gt
  have ft:=fr k7 (by rw[g7];intro z;cases z) gt
  refine⟨_,rfl,g,CG,dx,_,rfl,by rw[J0 nt'];exact g7,T.c_Going,T.nG_trace,B7 l7 (by decide),?_⟩
  have l8:=Y5 "trace" (.ref tr) _ 7 l7
  refine⟨_,rfl,g,CG,dx,_,rfl,G7,T.c_Going,T.nG_fault,B7 l8 (by decide),?_⟩
  have nbt:b≠tr:=J3 b7 gt
  have nlt:l≠tr:=J3 c7 gt
  have nvt:v≠tr:=J3 v7 gt
  have nwt:wt≠tr:=J3 w7 gt
  have hfin:J8 "fault" .non (J8 "trace" (.ref tr) f7)=gF ⟨w,n,b,l,v,wt,tr⟩ 0 .non:=by
   rw[<-hf7,<-hf6,<-hf5,<-hf4,<-hf3]
   exact b3o ⟨w,n,b,l,v,wt,tr⟩
  have k9:=((k7.new (o:= .lst []) gt).self (o:= .ins CG dx (J8 "trace" (.ref tr) f7))).self (o:= .ins CG dx (J8 "fault" .non (J8 "trace" (.ref tr) f7)))
  have g9:=G7 (H:=upd (upd H7 tr (.lst [])) g (.ins CG dx (J8 "trace" (.ref tr) f7))) (a:=g) (o:= .ins CG dx (J8 "fault" .non (J8 "trace" (.ref tr) f7)))
  have at9:∀{a:Addr}{o:HO},a≠g->a≠tr->H7 a=some o->upd (upd (upd H7 tr (.lst [])) g (.ins CG dx (J8 "trace" (.ref tr) f7))) g (.ins CG dx (J8 "fault" .non (J8 "trace" (.ref tr) f7))) a=some o:=fun{a o}h1 h2 e=>by rw[J0 h1,J0 h1,J0 h2];exact e
  have b9:=at9 nb.symm nbt b7
  have c9:=at9 nl.symm nlt c7
  have v9:=at9 nv.symm nvt v7
  have w9:=at9 nw.symm nwt w7
  have t9:upd (upd (upd H7 tr (.lst [])) g (.ins CG dx (J8 "trace" (.ref tr) f7))) g (.ins CG dx (J8 "fault" .non (J8 "trace" (.ref tr) f7))) tr=some (.lst []):=by rw[J0 nt'.symm,J0 nt'.symm,G7]
  generalize upd (upd (upd H7 tr (.lst [])) g (.ins CG dx (J8 "trace" (.ref tr) f7))) g (.ins CG dx (J8 "fault" .non (J8 "trace" (.ref tr) f7)))=H9 at k9 g9 b9 c9 v9 w9 t9⊢
  rw[hfin]at g9
  have T9:U9 H H9:=fun a xs e=>k9 a _ e (E9 e hg (by intro z;cases z))
  obtain⟨dy,rd,md,kvr,kvm,h1,h2,h3,h4,h5⟩:=hw.ex
  refine q ⟨w,n,b,l,v,wt,tr⟩ H9 k9 ⟨fb,fl,fv,fw,ft⟩ ⟨⟨dx,.non,g9,rfl⟩,T9 _ _ hn,b9,c9,v9,⟨[],w9,.nil⟩,⟨[],t9,.nil⟩,?_,nwt,nbl,fun dx' rd' md' e=>?_,fun k x e=>?_,Nat.zero_le _⟩
  ·refine⟨dy,rd,md,kvr,kvm,k9 _ _ h1 hwg,k9 _ _ h2 (E9 h2 hg (by intro z;cases z)),k9 _ _ h3 (E9 h3 hg (by intro z;cases z)),fun n' rs hm=>?_,fun p x k hk=>?_⟩
   ·obtain⟨u,ws,e1,e2,e3⟩:=h4 n' rs hm
    exact⟨u,ws,e1,T9 _ _ e2,e3.mono T9⟩
   ·obtain⟨t,e1,e2⟩:=h5 p x k hk
    exact⟨t,e1,T9 _ _ e2⟩
  ·have e':H9 w=some (.ins CP dx' (wF rd' md')):=e
   rw[k9 _ _ h1 hwg]at e'
   have e3:=Option.some.inj e'
   injection e3 with _ _ e4
   have e5:rd=rd':=by injection e4 with e6 _;injection e6 with _ e7;exact V.ref.inj e7
   have e6:md=md':=by injection e4 with _ e7;injection e7 with e8 _;injection e8 with _ e9;exact V.ref.inj e9
   subst e5
   subst e6
   refine⟨fun z=>?_,fun z=>?_,fun z=>?_⟩
   ·have z':rd=b:=z
    rw[z',fb]at h2;cases h2
   ·have z':rd=l:=z
    rw[z',fl]at h2;cases h2
   ·have z':md=v:=z
    rw[z',fv]at h3;cases h3
  ·simp[Y7,s0]at e
noncomputable def b3h (CP CG:Addr):Sp:=fun vs H Q _=>∃(g:Addr)(A:GA)(N:Nt)(ns:List Int)(S:GS)(p:Str)(th:Th),vs=[.ref g,.str p,thV th]/\Z2 CP CG H g A N ns S/\(∀x,th= .nam x->(lk N S.gv p x).isSome=true)/\∀H',J4 H H'->Q (.int (tv N S.gv p th)) H'
theorem b2u{N:Nt}{S:GS}{p x:Str}(h:(lk N S.gv p x).isSome=true)(gi:∀k v,Y7 S.gv k=some v->∃i:Int,v= .int i):∃k i,N.km (p,x)=some k/\Y7 S.gv (kN k)=some (.int i)/\lk N S.gv p x=some (.int i):=by
 unfold lk at h⊢
 cases e:N.km (p,x)with
 | none=>rw[e]at h;cases h
 | some k=>
  rw[e]at h
  have h':(Y7 S.gv (kN k)).isSome=true:=h
  cases e2:Y7 S.gv (kN k)with
  | none=>rw[e2]at h';cases h'
  | some v=>
   obtain⟨i,rfl⟩:=gi _ _ e2
   exact⟨k,i,rfl,e2,by show Y7 S.gv (kN k)=_;exact e2⟩
theorem a5a(T:Tc K mg CP CG):MCl P w K mg base 2 CG "thing_value" ["self","part","thing"] (b3h CP CG):=by
 have C_key_of:=a1J (P:=P) (w:=w) (base:=base) T
 refine MCl.of T.m_thing_value a2m (fun vs H Q E h=>?_) (fun _ _ _ _ _ _ us hl=>len3 us hl (fun _ _ _=>rfl)) (fun fa cdv A outer s H vs Q E hr h=>?_)
 ·obtain⟨g,A,N,ns,S,p,th,rfl,_⟩:=h
  rfl
 ·obtain⟨g,A,N,ns,S,p,th,rfl,hG,hk,q⟩:=h
  have hu:=a0O hr
  obtain⟨dx,v,hg,_⟩:=hG.ob
  obtain⟨dw,rd,md,kvr,kvm,hw,_⟩:=hG.wk.ex
  refine⟨_,(I0 (W1 (D9 (Y1 E3 (by rfl) T.n_isinstance PyProof.Rows.boot_isinstance (G0 (pv 2) (G0 (a0E (v:= .ty "str") (by rfl) T.n_str boot_str rfl) G8))))
    (J1 (R3 (a1V hu (W3 (pv 0) rfl) (D0 C_key_of T.c_PartsWalk hr (W3 (pv 0) rfl) (G0 (pv 1) (G0 (pv 2) G8))) (fun _ _=>rfl)))) R8)
   (J1 (R3 (pv 2)))),?_⟩
  cases th with
  | num n=>
   refine⟨_,rfl,_,_,_,_,rfl,.int n,a4a _,_,rfl,O7 ?_⟩
   exact⟨_,rfl,q H (J4.refl H)⟩
  | nam x=>
   obtain⟨k,i,e1,e2,e3⟩:=b2u (hk x rfl) hG.gi
   refine⟨_,rfl,_,_,_,_,rfl,.str x,a0q _ _,_,rfl,a0I ?_⟩
   refine⟨_,rfl,g,CG,dx,_,_,rfl,hg,T.c_Going,T.nG_given,a1d,?_⟩
   refine⟨_,rfl,g,CG,dx,_,_,rfl,hg,T.c_Going,T.nG_walk,a1y,A.w,dw,_,rfl,hw,a0Y,_,rfl,_,rfl,A.w,p,x,N,k,rfl,hG.wk,e1,fun t H1 s1 ht=>?_⟩
   refine⟨A.gv,.int i,rfl,?_,?_⟩
   ·have hgt:=a0S.t (k:=kN k) (s1 _ _ hG.gv) ht
    rw[e2]at hgt
    exact hgt
   ·have:=q H1 s1
    have e4:tv N S.gv p (.nam x)=i:=by show ivl (lk N S.gv p x)=i;rw[e3];rfl
    rw[e4]at this
    exact this
noncomputable def b3i (CP CG:Addr):Sp:=fun vs H Q _=>∃(g t:Addr)(A:GA)(N:Nt)(ns:List Int)(S:GS)(p:Str)(ts:List (Int×Th)),vs=[.ref g,.str p,.ref t]/\Z2 CP CG H g A N ns S/\E7 H t ts/\(∀d∈ts,d.1=1\/d.1= -1)/\(∀d∈ts,∀x,d.2= .nam x->(lk N S.gv p x).isSome=true)/\∀H',J4 H H'->Q (.int (a0y N S.gv p ts)) H'
theorem a7F(T:Tc K mg CP CG):MCl P w K mg base 3 CG "value_of" ["self","part","terms"] (b3i CP CG):=by
 have C_thing_value:=a5a (P:=P) (w:=w) (base:=base) T
 refine MCl.of T.m_value_of F2 (fun vs H Q E h=>?_) (fun _ _ _ _ _ _ us hl=>len3 us hl (fun _ _ _=>rfl)) (fun fa cdv A outer s H vs Q E hr h=>?_)
 ·obtain⟨g,t,A,N,ns,S,p,ts,rfl,_⟩:=h
  rfl
 ·obtain⟨g,t,A,N,ns,S,p,ts,rfl,hG,⟨⟨vs,ht,hts⟩,lo,hi⟩,hsg,hk,q⟩:=h
  have hvl:vs.length=ts.length:=AF hts
  refine⟨_,(I0 (U1 (i:=3) F2.nd rfl (Or.inl rfl) G9)
   (I0 (F7 AK rfl (a1l (pv 2)) (M2 rfl (R7 (R5 (i:=4) F2.nd rfl (Or.inl rfl)) (R7 (R5 (i:=5) F2.nd rfl (Or.inl rfl)) F3)))
    (J1 (b4g (i:=3) F2.nd rfl (Or.inl rfl) (U6 a8i (pv 4) (D0 C_thing_value T.c_Going hr (pv 0) (G0 (pv 1) (G0 (pv 5) G8)))) b3Y)))
   (J1 (R3 (pv 3))))),?_⟩
  refine⟨_,rfl,t,rfl,⟨_,SqT.of ht⟩,a0n (K:=K) (a:=t) (xs:=vs) (fun i σ H2=>∃v4 v5:Option V,σ=[some (.ref g),some (.str p),some (.ref t),some (.int (a0y N S.gv p (ts.take i))),v4,v5]/\J4 H H2)
   ⟨none,none,rfl,J4.refl H⟩ (fun i σ H2 _⟨_,_,_,s2⟩=>SqT.of (s2 _ _ ht)) ?_ ?_⟩
  ·rintro i y σ H2 hy ⟨v4,v5,rfl,s2⟩
   obtain⟨tm,htm,tp,ep,htp,hok⟩:=Paired.get? hts hy
   subst ep
   have hmem:=AX htm
   have h1:=hsg tm hmem
   refine⟨tp,_,rfl,SqT.of (s2 _ _ htp),rfl,_,_,rfl,_,_,rfl,rfl,?_⟩
   obtain⟨dx,v,hg,_⟩:=(hG.same s2).ob
   refine⟨_,rfl,_,rfl,_,rfl,g,dx,_,rfl,hg,a5k,_,rfl,_,rfl,g,A,N,ns,S,p,tm.2,rfl,hG.same s2,fun x e=>hk tm hmem x e,fun H3 s3=>?_⟩
   refine⟨_,_,rfl,rfl,.inl ⟨by omega,by omega⟩,?_⟩
   refine⟨_,_,rfl,rfl,some (.int tm.1),some (thV tm.2),?_,s2.trans s3⟩
   rw[U3 htm,b0o]
   rfl
  ·rintro σ H2 ⟨v4,v5,rfl,s2⟩
   rw[hvl,List.take_length]
   exact⟨_,rfl,q H2 s2⟩
noncomputable def b3A (CP CG:Addr):Sp:=fun vs H Q _=>∃(g:Addr)(A:GA)(N:Nt)(ns:List Int)(S:GS)(p x:Str)(i:Int)(k:Str×Nat),vs=[.ref g,.str p,.str x,.int i]/\Z2 CP CG H g A N ns S/\N.km (p,x)=some k/\S.gv.length<=1000/\∀H',Fr g A H H'->Z2 CP CG H' g A N ns {S with gv:=O2 S.gv (kN k) (.int i)}->Q .non H'
theorem b2Z(T:Tc K mg CP CG):MCl P w K mg base 2 CG "give" ["self","part","name","value"] (b3A CP CG):=by
 have C_key_of:=a1J (P:=P) (w:=w) (base:=base) T
 refine MCl.of T.m_give a5B (fun vs H Q E h=>?_) (fun _ _ _ _ _ _ us hl=>len4 us hl (fun _ _ _ _=>rfl)) (fun fa cdv A outer s H vs Q E hr h=>?_)
 ·obtain⟨g,A,N,ns,S,p,x,i,k,rfl,_⟩:=h
  rfl
 ·obtain⟨g,A,N,ns,S,p,x,i,k,rfl,hG,e1,hl,q⟩:=h
  have hu:=a0O hr
  obtain⟨dx,v,hg,_⟩:=hG.ob
  obtain⟨dw,rd,md,kvr,kvm,hw,_⟩:=hG.wk.ex
  refine⟨_,(J1 (a1x hu (W3 (pv 0) rfl) (D0 C_key_of T.c_PartsWalk hr (W3 (pv 0) rfl) (G0 (pv 1) (G0 (pv 2) G8))) (pv 3) rfl)),?_⟩
  refine⟨_,rfl,_,rfl,g,CG,dx,_,_,rfl,hg,T.c_Going,T.nG_given,a1d,?_⟩
  refine⟨_,rfl,g,CG,dx,_,_,rfl,hg,T.c_Going,T.nG_walk,a1y,A.w,dw,_,rfl,hw,a0Y,_,rfl,_,rfl,A.w,p,x,N,k,rfl,hG.wk,e1,fun t H1 s1 ht=>?_⟩
  have hG1:=hG.same s1
  refine⟨A.gv,_,rfl,a3F.t (k:=kN k) hG1.gv ht (U5 hl),?_⟩
  obtain⟨f,hG2⟩:=hG1.putGiven k i
  exact q _ ((s1.fr g A).trans f) hG2
noncomputable def b4a (CP CG:Addr):Sp:=fun vs H Q _=>∃(g:Addr)(A:GA)(N:Nt)(ns:List Int)(S:GS),vs=[.ref g]/\Z2 CP CG H g A N ns S/\∀H',Fr g A H H'->Z2 CP CG H' g A N ns {S with tk:=if S.tk=ns.length then S.tk else S.tk+1}->Q (.int (ns.getD S.tk 0)) H'
theorem a6v(T:Tc K mg CP CG):MCl P w K mg base 1 CG "next_told" ["self"] (b4a CP CG):=by
 refine MCl.of T.m_next_told a2L (fun vs H Q E h=>?_) (fun _ _ _ _ _ _ us hl=>len1 us hl (fun _=>rfl)) (fun fa cdv A outer s H vs Q E hr h=>?_)
 ·obtain⟨g,A,N,ns,S,rfl,_⟩:=h
  rfl
 ·obtain⟨g,A,N,ns,S,rfl,hG,q⟩:=h
  obtain⟨dx,v,hg,hft⟩:=hG.ob
  have hn:=hG.nm
  have htk:=hG.tkl
  refine⟨_,(I0 (W1 (U0 D4 (W3 (pv 0) rfl) (Y1 O9 (by rfl) T.n_len PySem.boot_len (G0 (W3 (pv 0) rfl) G8)) (U8 _))
    (J1 (R3 G9)) R8)
   (I0 (a9H (pv 0) G9 b4q)
   (J1 (R3 (J7 J9 (W3 (pv 0) rfl) (U6 a3x (W3 (pv 0) rfl) G9) (fun _ _=>rfl)))))),?_⟩
  refine⟨_,rfl,g,CG,dx,_,_,rfl,hg,T.c_Going,T.nG_taken,a4x,_,rfl,g,CG,dx,_,_,rfl,hg,T.c_Going,T.nG_numbers,a5i,A.n,_,rfl,.inr (SqT.of hn),rfl,_,rfl,b4z (fun c1=>?_) (fun c1=>?_)⟩
  ·have e:S.tk=ns.length:=by rw[AI]at c1;omega
   have h0:ns.getD S.tk 0=0:=by rw[e];simp
   have:=q H (Fr.refl g A H) (by rw[if_pos e];exact hG)
   rw[h0]at this
   exact this
  ·have e:¬S.tk=ns.length:=by rw[AI]at c1;omega
   have hlt:S.tk < ns.length:=by omega
   refine⟨_,rfl,g,CG,dx,_,_,rfl,hg,T.c_Going,T.nG_taken,a4x,_,_,rfl,rfl,dx,_,hg,a8z,?_⟩
   rw[a9z]
   have ecast:(S.tk:Int)+1=((S.tk+1:Nat):Int):=by omega
   rw[ecast]
   obtain⟨f,hG2⟩:=hG.setSelf (dx:=dx) (tk:=S.tk+1) hft (by omega)
   obtain⟨dx2,v2,hg2,_⟩:=hG2.ob
   have hg3:upd H g (.ins CG dx (gF A ((S.tk+1:Nat):Int) v)) g=some (.ins CG dx (gF A ((S.tk+1:Nat):Int) v)):=G7
   refine⟨_,rfl,g,CG,dx,_,_,rfl,hg3,T.c_Going,T.nG_numbers,a5i,_,rfl,g,CG,dx,_,_,rfl,hg3,T.c_Going,T.nG_taken,a4x,_,_,rfl,rfl,A.n,_,_,_,rfl,rfl,SqT.of hG2.nm,a6G V.int ns 0 (by omega) (by omega),?_⟩
   have et:(((S.tk+1:Nat):Int) - 1).toNat=S.tk:=by omega
   rw[et]
   refine q _ f ?_
   rw[if_neg e]
   exact hG2
structure a5w(N:Nt)(p:Str)(rw:Rw):Prop where
 rd:∀d∈rdR rw,(N.km (p,d.2)).isSome=true
 ow:∀o,b4A rw=some o->(N.km (p,o)).isSome=true
 sg:∀d∈sgR rw,d.1=1\/d.1= -1
 nm:∀d∈sgR rw,∀x,d.2= .nam x->∃e∈rdR rw,e.2=x
theorem a4D{N:Nt}{p x:Str}(h:(N.km (p,x)).isSome=true):∃k,N.km (p,x)=some k:=by
 cases e:N.km (p,x)with
 | none=>rw[e]at h;cases h
 | some k=>exact⟨k,rfl⟩
noncomputable def b5e (CP CG:Addr):Sp:=fun vs H Q _=>∃(g r:Addr)(A:GA)(N:Nt)(ns:List Int)(S:GS)(p:Str)(rw:Rw),vs=[.ref g,.str p,.ref r]/\Z2 CP CG H g A N ns S/\O5 H r rw/\a5w N p rw/\∀H',J4 H H'->Q (.bl (a1D N S.gv p rw)) H'
theorem a6Q{N:Nt}{gv:List (List Key×V)}{p x:Str}{k:Str×Nat}(e:N.km (p,x)=some k):lk N gv p x=Y7 gv (kN k):=by unfold lk;rw[e];rfl
theorem a9J(T:Tc K mg CP CG):MCl P w K mg base 2 CG "is_off" ["self","part","row"] (b5e CP CG):=by
 have C_key_of:=a1J (P:=P) (w:=w) (base:=base) T
 refine MCl.of T.m_is_off a1W (fun vs H Q E h=>?_) (fun _ _ _ _ _ _ us hl=>len3 us hl (fun _ _ _=>rfl)) (fun fa cdv A outer s H vs Q E hr h=>?_)
 ·obtain⟨g,r,A,N,ns,S,p,rw,rfl,_⟩:=h
  rfl
 ·obtain⟨g,r,A,N,ns,S,p,rw,rfl,hG,hra,hK,q⟩:=h
  have hu:=a0O hr
  obtain⟨x1,rest,hrt⟩:=hra.kind
  have z0:atI (V.str (Z5 rw)::x1::rest) 0=some (.str (Z5 rw)):=J6 (j:=0) rfl
  refine⟨_,(I0 (W1 (PW.pt (a0Q (U0 a6u (J7 J9 (pv 2) G9 (fun _ _=>rfl)) (J5 (G0 R4 (G0 R4 G8))) (by with_unfolding_all rfl)) (a1k (a1n (a4u (J7 J9 (pv 2) G9 (fun _ _=>rfl)))))))
    (J1 (R3 a0P)) R8)
   (I0 (U1 (i:=3) a1W.nd rfl (Or.inl rfl) (D0 C_key_of T.c_PartsWalk hr (W3 (pv 0) rfl) (G0 (pv 1) (G0 (J7 J9 (pv 2) G9 (fun _ _=>rfl)) G8))))
   (J1 (R3 (a8r (b3I (b1W hu (pv 3) (W3 (pv 0) rfl))) (a7Q (a8E b1F (a1V hu (W3 (pv 0) rfl) (pv 3) (fun _ _=>rfl)) G9 (U8 _)))))))),?_⟩
  refine⟨_,rfl,r,_,_,_,rfl,rfl,SqT.of hrt,z0,E1,fun c gc=>?_⟩
  have s1:J4 H (upd H c (.tup [.str "say",.str "ask"])):=(J4.refl H).new gc
  have hc1:upd H c (.tup [.str "say",.str "ask"]) c=some (.tup [.str "say",.str "ask"]):=G7
  generalize upd H c (.tup [.str "say",.str "ask"])=H1 at s1 hc1⊢
  refine⟨c,_,rfl,.inr (SqT.of hc1),rfl,rfl,_,rfl,?_⟩
  rw[if_pos rfl,b3z]
  have hG1:=hG.same s1
  obtain⟨dx,v,hg,_⟩:=hG1.ob
  obtain⟨dw,rd,md,kvr,kvm,hw,_⟩:=hG1.wk.ex
  have on:∀(x:Str)(kd:Str)(y:V),H r=some (.tup [.str kd,y,.str x])->(N.km (p,x)).isSome=true->a1D N S.gv p rw=((lk N S.gv p x).isSome && decide (ivl (lk N S.gv p x)<=0))->decide (Z5 rw="say" \/Z5 rw="ask")=true->True:=fun _ _ _ _ _ _ _=>trivial
  cases rw with
  | say ts wh=>
   obtain⟨t,hrt',hts⟩:=hra
   have ed:decide (Z5 (Rw.say ts wh)="say" \/Z5 (Rw.say ts wh)="ask")=true:=decide_eq_true (.inl rfl)
   rw[ed]
   refine O7 ?_
   cases wh with
   | none=>
    refine⟨_,rfl,r,_,_,_,rfl,rfl,SqT.of (s1 _ _ hrt'),rfl,_,rfl,?_⟩
    exact b0F rfl (q H1 s1)
   | some x=>
    obtain⟨k,ek⟩:=a4D (hK.rd _ (AL (a:=(2*(ts.length:Int)+1,x)) (l:=U2 1 ts)))
    refine⟨_,rfl,r,_,_,_,rfl,rfl,SqT.of (s1 _ _ hrt'),rfl,_,rfl,?_⟩
    refine b1d (by intro z;cases z) ?_
    refine⟨_,rfl,g,CG,dx,_,_,rfl,hg,T.c_Going,T.nG_walk,a1y,A.w,dw,_,rfl,hw,a0Y,_,rfl,_,rfl,r,_,_,_,rfl,rfl,SqT.of (s1 _ _ hrt'),rfl,A.w,p,x,N,k,rfl,hG1.wk,ek,fun tk H2 s2 ht=>?_⟩
    have hG2:=hG1.same s2
    have hg2:=s2 _ _ hg
    have hgt:=a0S.t (k:=kN k) hG2.gv ht
    refine⟨_,rfl,_,rfl,g,CG,dx,_,_,rfl,hg2,T.c_Going,T.nG_given,a1d,A.gv,_,rfl,hgt,?_⟩
    have hlk:=a6Q (gv:=S.gv) ek
    have hoff:a1D N S.gv p (.say ts (some x))=((lk N S.gv p x).isSome && decide (ivl (lk N S.gv p x)<=0)):=rfl
    rw[hoff,hlk]at q
    cases e2:Y7 S.gv (kN k)with
    | none=>
     rw[e2]at q hgt
     exact⟨_,rfl,O7 (q H2 (s1.trans s2))⟩
    | some y=>
     obtain⟨i,rfl⟩:=hG.gi _ _ e2
     rw[e2]at q hgt
     refine⟨_,rfl,a0I ?_⟩
     exact⟨_,rfl,g,CG,dx,_,_,rfl,hg2,T.c_Going,T.nG_given,a1d,_,rfl,A.gv,_,rfl,hgt,_,_,rfl,rfl,q H2 (s1.trans s2)⟩
  | ask a wh=>
   have hrt':H r=some (.tup [.str "ask",.str a,a9P wh]):=hra
   have ed:decide (Z5 (Rw.ask a wh)="say" \/Z5 (Rw.ask a wh)="ask")=true:=decide_eq_true (.inr rfl)
   rw[ed]
   refine O7 ?_
   cases wh with
   | none=>
    refine⟨_,rfl,r,_,_,_,rfl,rfl,SqT.of (s1 _ _ hrt'),rfl,_,rfl,?_⟩
    exact b0F rfl (q H1 s1)
   | some x=>
    obtain⟨k,ek⟩:=a4D (hK.rd (3,x) (AL (a:=((3:Int),x)) (l:=[])))
    refine⟨_,rfl,r,_,_,_,rfl,rfl,SqT.of (s1 _ _ hrt'),rfl,_,rfl,?_⟩
    refine b1d (by intro z;cases z) ?_
    refine⟨_,rfl,g,CG,dx,_,_,rfl,hg,T.c_Going,T.nG_walk,a1y,A.w,dw,_,rfl,hw,a0Y,_,rfl,_,rfl,r,_,_,_,rfl,rfl,SqT.of (s1 _ _ hrt'),rfl,A.w,p,x,N,k,rfl,hG1.wk,ek,fun tk H2 s2 ht=>?_⟩
    have hG2:=hG1.same s2
    have hg2:=s2 _ _ hg
    have hgt:=a0S.t (k:=kN k) hG2.gv ht
    refine⟨_,rfl,_,rfl,g,CG,dx,_,_,rfl,hg2,T.c_Going,T.nG_given,a1d,A.gv,_,rfl,hgt,?_⟩
    have hlk:=a6Q (gv:=S.gv) ek
    have hoff:a1D N S.gv p (.ask a (some x))=((lk N S.gv p x).isSome && decide (ivl (lk N S.gv p x)<=0)):=rfl
    rw[hoff,hlk]at q
    cases e2:Y7 S.gv (kN k)with
    | none=>
     rw[e2]at q hgt
     exact⟨_,rfl,O7 (q H2 (s1.trans s2))⟩
    | some y=>
     obtain⟨i,rfl⟩:=hG.gi _ _ e2
     rw[e2]at q hgt
     refine⟨_,rfl,a0I ?_⟩
     exact⟨_,rfl,g,CG,dx,_,_,rfl,hg2,T.c_Going,T.nG_given,a1d,_,rfl,A.gv,_,rfl,hgt,_,_,rfl,rfl,q H2 (s1.trans s2)⟩
  | _=>
   rw[AT (by simp only[Z5];decide +kernel)]
   refine a0I ?_
   show if true=true then _ else _
   refine a0I ?_
   exact q H1 s1
theorem b3Z{H:Hp}{r:Addr}{rw:Rw}(h:O5 H r rw):b4G H r (rdR rw):=by
 cases rw with
 | set o ts=>obtain⟨t,h1,h2⟩:=h;exact .inl ⟨o,t,ts,h1,h2,rfl⟩
 | need ts=>obtain⟨t,h1,h2⟩:=h;exact .inr (.inl ⟨t,ts,h1,h2,rfl⟩)
 | say ts w=>
  obtain⟨t,h1,h2⟩:=h
  cases w with
  | none=>exact .inr (.inr (.inl ⟨t,ts,h1,h2,rfl⟩))
  | some x=>exact .inr (.inr (.inr (.inl ⟨t,ts,x,h1,h2,rfl⟩)))
 | ask p w=>
  cases w with
  | some x=>exact .inr (.inr (.inr (.inr (.inl ⟨p,x,h,rfl⟩))))
  | none=>exact .inr (.inr (.inr (.inr (.inr (.inl ⟨p,h,rfl⟩)))))
 | bring p ps=>obtain⟨t,h1,h2⟩:=h;exact .inr (.inr (.inr (.inr (.inr (.inr ⟨"bring",_,h1,by decide +kernel,rfl⟩)))))
 | give o g=>exact .inr (.inr (.inr (.inr (.inr (.inr ⟨"give",_,h,by decide +kernel,rfl⟩)))))
 | take o=>exact .inr (.inr (.inr (.inr (.inr (.inr ⟨"take",_,h,by decide +kernel,rfl⟩)))))
 | part p=>exact .inr (.inr (.inr (.inr (.inr (.inr ⟨"part",_,h,by decide +kernel,rfl⟩)))))
 | doo p=>exact .inr (.inr (.inr (.inr (.inr (.inr ⟨"do",_,h,by decide +kernel,rfl⟩)))))
theorem a9q{α:Type}{f:α->Bool}:∀{l:List α}{i:Nat}{x:α},(∀y∈l.take i,f y=false)->l[i]?=some x->f x=true->l.find? f=some x
 | [],_,_,_,h,_=>by simp at h
 | a::l,0,x,_,h,hx=>by
  have e:a=x:=by simpa using h
  subst e
  rw[List.find?_cons,hx]
 | a::l,i+1,x,h0,h,hx=>by
  have ha:f a=false:=h0 a (by rw[List.take_succ_cons];exact AL)
  rw[List.find?_cons,ha]
  exact a9q (i:=i) (fun y hy=>h0 y (by rw[List.take_succ_cons];exact AN _ hy)) (by simpa using h) hx
noncomputable def a5A:Option Int->V
 | some i=> .int i
 | none=> .non
noncomputable def b2r (CP CG:Addr):Sp:=fun vs H Q _=>∃(g r:Addr)(A:GA)(N:Nt)(ns:List Int)(S:GS)(p:Str)(rw:Rw),vs=[.ref g,.str p,.ref r]/\Z2 CP CG H g A N ns S/\O5 H r rw/\a5w N p rw/\∀H',J4 H H'->Q (a5A (F6 N S.gv p rw)) H'
theorem a5N(T:Tc K mg CP CG):MCl P w K mg base 5 CG "early_word" ["self","part","row"] (b2r CP CG):=by
 have C_key_of:=a1J (P:=P) (w:=w) (base:=base) T
 have C_read_names:=a5x (P:=P) (w:=w) (base:=base) T.toTxt
 refine MCl.of T.m_early_word M3 (fun vs H Q E h=>?_) (fun _ _ _ _ _ _ us hl=>len3 us hl (fun _ _ _=>rfl)) (fun fa cdv A outer s H vs Q E hr h=>?_)
 ·obtain⟨g,r,A,N,ns,S,p,rw,rfl,_⟩:=h
  rfl
 ·obtain⟨g,r,A,N,ns,S,p,rw,rfl,hG,hra,hK,q⟩:=h
  have hu:=a0O hr
  refine⟨_,(I0 (F7 AK rfl (a1l (W2 C_read_names hr (by rfl) (G0 (pv 2) G8))) (M2 rfl (R7 (R5 (i:=3) M3.nd rfl (Or.inl rfl)) (R7 (R5 (i:=4) M3.nd rfl (Or.inl rfl)) F3)))
    (J1 (W1 (a1n (a3O hu (D0 C_key_of T.c_PartsWalk hr (W3 (pv 0) rfl) (G0 (pv 1) (G0 (pv 4) G8))) (W3 (pv 0) rfl)))
     (J1 (R3 (pv 3))) R8)))
   (J1 (R3 a1q))),?_⟩
  refine⟨_,rfl,r,rdR rw,rfl,b3Z hra,fun t ws H1 s1 ht hnm=>?_⟩
  have hwl:ws.length=(rdR rw).length:=AF hnm
  refine⟨t,rfl,⟨_,SqT.of ht⟩,a0n (K:=K) (a:=t) (xs:=ws) (fun i σ H2=>∃v3 v4:Option V,σ=[some (.ref g),some (.str p),some (.ref r),v3,v4]/\J4 H1 H2/\∀d∈(rdR rw).take i,(!(lk N S.gv p d.2).isSome)=false)
   ⟨none,none,rfl,J4.refl H1,fun d hd=>by simp at hd⟩ (fun i σ H2 _⟨_,_,_,s2,_⟩=>SqT.of (s2 _ _ ht)) ?_ ?_⟩
  ·rintro i y σ H2 hy ⟨v3,v4,rfl,s2,hall⟩
   obtain⟨d,hd,tp,ep,htp⟩:=Paired.get? hnm hy
   subst ep
   have hdm:=AX hd
   obtain⟨k,ek⟩:=a4D (hK.rd d hdm)
   have hG2:=hG.same (s1.trans s2)
   obtain⟨dx,v,hg,_⟩:=hG2.ob
   obtain⟨dw,rd,md,kvr,kvm,hw,_⟩:=hG2.wk.ex
   refine⟨tp,_,rfl,SqT.of (s2 _ _ htp),rfl,_,_,rfl,_,_,rfl,rfl,?_⟩
   refine⟨_,rfl,g,CG,dx,_,_,rfl,hg,T.c_Going,T.nG_walk,a1y,A.w,dw,_,rfl,hw,a0Y,_,rfl,_,rfl,A.w,p,d.2,N,k,rfl,hG2.wk,ek,fun tk H3 s3 ht3=>?_⟩
   have hG3:=hG2.same s3
   have hg3:=s3 _ _ hg
   have hgt:=a0S.t (k:=kN k) hG3.gv ht3
   refine⟨_,rfl,g,CG,dx,_,_,rfl,hg3,T.c_Going,T.nG_given,a1d,A.gv,_,rfl,hgt,_,rfl,?_⟩
   have hlk:=a6Q (gv:=S.gv) ek
   cases e2:(Y7 S.gv (kN k)).isSome with
   | true=>
    refine O7 ?_
    refine⟨_,_,rfl,s2.trans s3,fun d' hd'=>?_⟩
    rw[U3 hd]at hd'
    rcases List.mem_append.mp hd' with z | z
    ·exact hall d' z
    ·rw[AH.mp z,hlk,e2]
     rfl
   | false=>
    refine a0I ?_
    have he:F6 N S.gv p rw=some d.1:=by
     unfold F6
     rw[a9q hall hd (by rw[hlk,e2];rfl)]
     rfl
    have:=q H3 ((s1.trans s2).trans s3)
    rw[he]at this
    exact⟨_,rfl,this⟩
  ·rintro σ H2 ⟨v3,v4,rfl,s2,hall⟩
   have he:F6 N S.gv p rw=none:=by
    unfold F6
    rw[hwl,List.take_length]at hall
    rw[List.find?_eq_none.mpr (fun x hx=>by rw[hall x hx];exact AE)]
    rfl
   have:=q H2 (s1.trans s2)
   rw[he]at this
   exact this
theorem a5g{α β:Type}{F:α->β->Prop}:∀{xs us:List α}{ys vs:List β},Paired F xs ys->Paired F us vs->Paired F (xs++us) (ys++vs)
 | _,_,_,_,.nil,k=>k
 | _,_,_,_,.cons h t,k=> .cons h (a5g t k)
theorem a4v{α β:Type}{F:α->β->Prop}:∀{xs:List α}{ys:List β},Paired F xs ys->Paired F xs.reverse ys.reverse
 | _,_,.nil=> .nil
 | _,_,.cons h t=>by
  rw[List.reverse_cons,List.reverse_cons]
  exact a5g (a4v t) (.cons h .nil)
theorem a1p{N:Nt}(hn:(N.ps.map (·.1)).Nodup){p:Str}{rs:List Rw}(h:(p,rs)∈N.ps):a0z N p=rs:=by
 unfold a0z
 have:N.ps.find? (fun q=>decide (q.1=p))=some (p,rs):=by
  generalize N.ps=l at hn h
  induction l with
  | nil=>simp at h
  | cons a l ih=>
   rw[List.map_cons,List.nodup_cons]at hn
   rcases List.mem_cons.mp h with z | z
   ·rw[<-z,List.find?_cons]
    simp
   ·have hne:¬a.1=p:=fun e=>hn.1 (by rw[e];exact AM (f:=(·.1)) z)
    rw[List.find?_cons,AT hne]
    exact ih hn.2 z
 rw[this]
 rfl
noncomputable def b2i (CP CG:Addr):Sp:=fun vs H Q _=>∃(g:Addr)(A:GA)(N:Nt)(ns:List Int)(S:GS)(p:Str)(rs:List Rw),vs=[.ref g,.str p]/\Z2 CP CG H g A N ns S/\(p,rs)∈N.ps/\a0z N p=rs/\rs.length<=900/\S.wt.length+rs.length<=1000/\S.bg.length<=900/\∀H',Fr g A H H'->Z2 CP CG H' g A N ns (a0B N S p)->Q .non H'
theorem a7v(T:Tc K mg CP CG):MCl P w K mg base 2 CG "begin" ["self","part"] (b2i CP CG):=by
 have C_rows_of:=a5o (P:=P) (w:=w) (base:=base) T
 refine MCl.of T.m_begin O0 (fun vs H Q E h=>?_) (fun _ _ _ _ _ _ us hl=>len2 us hl (fun _ _=>rfl)) (fun fa cdv A outer s H vs Q E hr h=>?_)
 ·obtain⟨g,A,N,ns,S,p,rs,rfl,_⟩:=h
  rfl
 ·obtain⟨g,A,N,ns,S,p,rs,rfl,hG,hm,hrs,hl9,hwl,hbl,q⟩:=h
  have hu:=a0O hr
  obtain⟨dx,v,hg,_⟩:=hG.ob
  refine⟨_,(I0 (a1x hu (W3 (pv 0) rfl) (pv 1) a0P rfl)
   (J1 (F7 AK rfl (b1x (by rfl) T.n_reversed (D0 C_rows_of T.c_PartsWalk hr (W3 (pv 0) rfl) (G0 (pv 1) G8))) (M2 rfl (R7 (R5 (i:=2) O0.nd rfl (Or.inl rfl)) (R7 (R5 (i:=3) O0.nd rfl (Or.inl rfl)) (R7 (R5 (i:=4) O0.nd rfl (Or.inl rfl)) F3))))
    (J1 (Y0 (a2F PySem.F.plainAttrs_list PySem.F.slot_list_append PySem.F.type_list_append D8 (W3 (pv 0) rfl) (G0 (J5 (G0 (pv 1) (G0 (J5 (G0 (pv 2) (G0 (pv 3) G8))) (G0 (pv 4) G8)))) G8))))))),?_⟩
  refine⟨_,rfl,g,CG,dx,_,_,rfl,hg,T.c_Going,T.nG_begun,a5s,_,rfl,A.b,_,rfl,a3F.k (k:=Sum.inr p) hG.bg (U5 (by rw[b1R];omega)),?_⟩
  rw[b1s]
  obtain⟨f1,hG1⟩:=hG.setBegun (a2c S.bg p)
  generalize upd H A.b (.dK (a1F (a2c S.bg p)))=H1 at f1 hG1⊢
  obtain⟨dx1,v1,hg1,_⟩:=hG1.ob
  obtain⟨dw,rd,md,kvr,kvm,hw1,_⟩:=hG1.wk.ex
  refine⟨_,rfl,g,CG,dx1,_,_,rfl,hg1,T.c_Going,T.nG_walk,a1y,A.w,dw,_,rfl,hw1,a4H,_,rfl,A.w,p,rs,N,rfl,hG1.wk,hm,hl9,fun t vs H2 s2 ht hvs=>?_⟩
  have hrv:=a4v hvs
  have hvl:vs.length=rs.length:=by rw[AF hvs,a2x]
  refine⟨t,vs,rfl,SqT.of ht,a8C (K:=K) (a:=t) (xs:=vs) (fun i σ H3=>∃v2 v3 v4:Option V,σ=[some (.ref g),some (.str p),v2,v3,v4]/\Fr g A H H3/\U9 H2 H3/\Z2 CP CG H3 g A N ns {S with bg:=a2c S.bg p,wt:=S.wt++(W5 p rs).reverse.take i})
   ⟨none,none,none,rfl,f1.trans (s2.fr g A),U9.refl H2,by rw[List.take_zero,List.append_nil];exact hG1.same s2⟩ (fun i σ H3 _⟨_,_,_,_,_,T3,_⟩=>SqT.of (T3 _ _ ht)) ?_ ?_⟩
  ·rintro i y σ H3 hy ⟨v2,v3,v4,rfl,f3,T3,hG3⟩
   have hi:i < vs.reverse.length:=(AO.mp hy).1
   rw[List.length_reverse]at hi
   obtain⟨x,hx,tt,r,ey,htt,hra⟩:=Paired.get? hrv hy
   subst ey
   have hx1:x.1=p:=by
    have:=List.mem_reverse.mp (AX hx)
    unfold W5 at this
    obtain⟨j,hj,e⟩:=List.mem_mapIdx.mp this
    rw[<-e]
   refine⟨tt,_,rfl,SqT.of (T3 _ _ htt),rfl,_,_,rfl,_,_,rfl,_,_,rfl,rfl,?_⟩
   obtain⟨dx3,w3,hg3,_⟩:=hG3.ob
   obtain⟨us,hus,hup⟩:=hG3.wt
   refine⟨_,rfl,g,CG,dx3,_,_,rfl,hg3,T.c_Going,T.nG_waiting,a1U,.inl ⟨rfl,_,SqL.of hus⟩,_,rfl,_,rfl,_,rfl,E1,fun wh gwh=>?_⟩
   have s4:J4 H3 (upd H3 wh (.tup [.str x.1,.int (x.2.1:Int)])):=(J4.refl H3).new gwh
   have hwh4:upd H3 wh (.tup [.str x.1,.int (x.2.1:Int)]) wh=some (.tup [.str x.1,.int (x.2.1:Int)]):=G7
   generalize upd H3 wh (.tup [.str x.1,.int (x.2.1:Int)])=H4 at s4 hwh4⊢
   refine⟨_,rfl,a2b,fun t5 gt5=>?_⟩
   have s5:J4 H4 (upd H4 t5 (.tup [.str p,.ref wh,.ref r])):=(J4.refl H4).new gt5
   have ht5:upd H4 t5 (.tup [.str p,.ref wh,.ref r]) t5=some (.tup [.str p,.ref wh,.ref r]):=G7
   generalize upd H4 t5 (.tup [.str p,.ref wh,.ref r])=H5 at s5 ht5⊢
   have s35:=s4.trans s5
   have hG5:=hG3.same s35
   have hlen:us.length<=999:=by
    have e1:=AF hup
    have e2:(S.wt++(W5 p rs).reverse.take i).length<=S.wt.length+i:=by
     rw[List.length_append,AR];omega
    have e3:us.length=(S.wt++(W5 p rs).reverse.take i).length:=e1
    omega
   refine⟨A.wt,_,_,rfl,rfl,s35 _ _ hus,U5 (by omega),?_⟩
   have hnew:Paired (a6W H5) (us++[.ref t5]) (S.wt++(W5 p rs).reverse.take (i+1)):=by
    rw[U3 hx,<-List.append_assoc]
    refine Paired.snoc (Paired.mapP hup fun _ _ z=>z.mono s35.tups) ⟨t5,wh,r,rfl,by rw[hx1];exact ht5,s5 _ _ hwh4,(hra.mono T3).mono s35.tups⟩
   obtain⟨f6,hG6⟩:=hG5.setWait hnew
   exact⟨_,_,_,rfl,(f3.trans (s35.fr g A)).trans f6,(T3.trans s35.tups).trans (hG5.tups f6),hG6⟩
  ·rintro σ H3 ⟨v2,v3,v4,rfl,f3,T3,hG3⟩
   refine q H3 f3 ?_
   unfold a0B
   rw[hrs]
   rw[hvl,List.take_of_length_le (by rw[List.length_reverse,a2x];exact AD _)]at hG3
   exact hG3
noncomputable def b2o (CP CG:Addr):Sp:=fun vs H Q _=>∃(g:Addr)(A:GA)(N:Nt)(ns:List Int)(S:GS)(kd p:Str)(rs:List Rw),vs=[.ref g,.str kd,.str p]/\Z2 CP CG H g A N ns S/\(p,rs)∈N.ps/\a0z N p=rs/\rs.length<=900/\(p∉S.bg->S.wt.length+rs.length<=1000)/\S.bg.length<=900/\∀H',Fr g A H H'->Z2 CP CG H' g A N ns (a1j N S p)->Q .non H'
theorem b1a(T:Tc K mg CP CG):MCl P w K mg base 3 CG "enter" ["self","kind","part"] (b2o CP CG):=by
 have C_begin:=a7v (P:=P) (w:=w) (base:=base) T
 have C_load:=a6F (P:=P) (w:=w) (base:=base) T
 have C_loads_of:=a2u (P:=P) (w:=w) (base:=base) T
 refine MCl.of T.m_enter a4E (fun vs H Q E h=>?_) (fun _ _ _ _ _ _ us hl=>len3 us hl (fun _ _ _=>rfl)) (fun fa cdv A outer s H vs Q E hr h=>?_)
 ·obtain⟨g,A,N,ns,S,kd,p,rs,rfl,_⟩:=h
  rfl
 ·obtain⟨g,A,N,ns,S,kd,p,rs,rfl,hG,hm,hrs,hl9,hwl,hbl,q⟩:=h
  have hu:=a0O hr
  obtain⟨dx,v,hg,_⟩:=hG.ob
  obtain⟨dw,rd,md,kvr,kvm,hw,_⟩:=hG.wk.ex
  refine⟨_,(I0 (W1 (a1n (b1W hu (pv 2) (W3 (pv 0) rfl)))
    (J1 a8D) R8)
   (I0 (W1 (U0 D4 (pv 1) R4 (U8 _))
    (J1 (Y0 (D0 C_load T.c_Going hr (pv 0) (G0 (D0 C_loads_of T.c_PartsWalk hr (W3 (pv 0) rfl) (G0 (pv 2) G8)) G8)))) R8)
   (J1 (Y0 (D0 C_begin T.c_Going hr (pv 0) (G0 (pv 2) G8)))))),?_⟩
  refine⟨_,rfl,_,rfl,g,CG,dx,_,_,rfl,hg,T.c_Going,T.nG_begun,a5s,A.b,_,rfl,a0S.k (k:=Sum.inr p) hG.bg,_,rfl,?_⟩
  rw[a6j]
  by_cases hin:p∈S.bg
  ·rw[decide_eq_true hin]
   refine a0I ?_
   have:=q H (Fr.refl g A H)
   unfold a1j at this
   rw[if_pos hin]at this
   exact this hG
  ·rw[AT hin]
   refine O7 ?_
   have q':∀H',Fr g A H H'->Z2 CP CG H' g A N ns (a0B N S p)->Q .non H':=fun H' f h=>by
    refine q H' f ?_
    unfold a1j
    rw[if_neg hin]
    exact h
   refine⟨_,rfl,rfl,_,rfl,b0d (fun _=>?_) (fun _=>?_)⟩
   ·refine⟨_,rfl,g,dx,_,rfl,hg,a3r,_,rfl,g,CG,dx,_,_,rfl,hg,T.c_Going,T.nG_walk,a1y,A.w,dw,_,rfl,hw,a2h,_,rfl,A.w,p,N,rfl,hG.wk,fun t H1 s1 ht=>?_⟩
    refine⟨g,t,rfl,ht,?_⟩
    exact⟨_,rfl,g,dx,_,rfl,s1 _ _ hg,a3p,_,rfl,g,A,N,ns,S,p,rs,rfl,hG.same s1,hm,hrs,hl9,hwl hin,hbl,fun H2 f2 hG2=>q' H2 ((s1.fr g A).trans f2) hG2⟩
   ·exact⟨_,rfl,g,dx,_,rfl,hg,a3p,_,rfl,g,A,N,ns,S,p,rs,rfl,hG,hm,hrs,hl9,hwl hin,hbl,q'⟩
noncomputable def a8T:Rw->Prop
 | .set _ _=>True
 | .take _=>True
 | .say _ _=>True
 | .need _=>True
 | .give _ _=>True
 | _=>False
noncomputable def b0H (CP CG:Addr):Sp:=fun vs H Q _=>∃(g wh r:Addr)(A:GA)(N:Nt)(ns:List Int)(S:GS)(p:Str)(j:Nat)(rw:Rw),vs=[.ref g,.str p,.ref wh,.ref r]/\Z2 CP CG H g A N ns S/\H wh=some (.tup [.str p,.int (j:Int)])/\O5 H r rw/\a5w N p rw/\a8T rw/\(∀d∈rdR rw,(lk N S.gv p d.2).isSome=true)/\S.gv.length<=990/\S.tr.length<=990/\∀H',Fr g A H H'->Z2 CP CG H' g A N ns (F9 N ns S p j rw)->Q .non H'
theorem a8w(T:Tc K mg CP CG):MCl P w K mg base 4 CG "do_work" ["self","part","where","row"] (b0H CP CG):=by
 have C_value_of:=a7F (P:=P) (w:=w) (base:=base) T
 have C_give:=b2Z (P:=P) (w:=w) (base:=base) T
 have C_next_told:=a6v (P:=P) (w:=w) (base:=base) T
 refine MCl.of T.m_do_work a0D (fun vs H Q E h=>?_) (fun _ _ _ _ _ _ us hl=>len4 us hl (fun _ _ _ _=>rfl)) (fun fa cdv A outer s H vs Q E hr h=>?_)
 ·obtain⟨g,wh,r,A,N,ns,S,p,j,rw,rfl,_⟩:=h
  rfl
 ·obtain⟨g,wh,r,A,N,ns,S,p,j,rw,rfl,hG,hwh,hra,hK,hwk,hrd,hgl,htl,q⟩:=h
  obtain⟨dx,v,hg,hft⟩:=hG.ob
  obtain⟨us,hus,hup⟩:=hG.tr
  have hul:us.length<=990:=by rw[AF hup];exact htl
  have hnm:∀d∈sgR rw,∀x,d.2= .nam x->(lk N S.gv p x).isSome=true:=fun d hd x e=>by
   obtain⟨e',he',ee⟩:=hK.nm d hd x e
   rw[<-ee]
   exact hrd e' he'
  refine⟨_,(I0 (U1 (i:=4) a0D.nd rfl (Or.inl rfl) (J7 J9 (pv 3) G9 (fun _ _=>rfl)))
   (J1 (W1 (U0 D4 (pv 4) R4 (U8 _))
    (J1 (Y0 (D0 C_give T.c_Going hr (pv 0) (G0 (pv 1) (G0 (J7 J9 (pv 3) G9 (fun _ _=>rfl)) (G0 (D0 C_value_of T.c_Going hr (pv 0) (G0 (pv 1) (G0 (J7 J9 (pv 3) G9 (fun _ _=>rfl)) G8))) G8)))))) (J1 (W1 (U0 D4 (pv 4) R4 (U8 _))
     (I0 (U1 (i:=5) a0D.nd rfl (Or.inl rfl) (b0R C_next_told T.c_Going hr (pv 0)))
     (I0 (Y0 (D0 C_give T.c_Going hr (pv 0) (G0 (pv 1) (G0 (J7 J9 (pv 3) G9 (fun _ _=>rfl)) (G0 (pv 5) G8)))))
     (J1 (Y0 (a2F PySem.F.plainAttrs_list PySem.F.slot_list_append PySem.F.type_list_append D8 (W3 (pv 0) rfl) (G0 (U6 B1 (J5 (G0 R4 (G0 (pv 5) G8))) (pv 2)) G8)))))) (J1 (W1 (U0 D4 (pv 4) R4 (U8 _))
      (J1 (Y0 (a2F PySem.F.plainAttrs_list PySem.F.slot_list_append PySem.F.type_list_append D8 (W3 (pv 0) rfl) (G0 (U6 B1 (J5 (G0 R4 (G0 (D0 C_value_of T.c_Going hr (pv 0) (G0 (pv 1) (G0 (J7 J9 (pv 3) G9 (fun _ _=>rfl)) G8))) G8))) (pv 2)) G8)))) (J1 (W1 (PW.pt (a6U (U0 D4 (pv 4) R4 (U8 _)) (a4p (U0 b1F (D0 C_value_of T.c_Going hr (pv 0) (G0 (pv 1) (G0 (J7 J9 (pv 3) G9 (fun _ _=>rfl)) G8))) G9 (U8 _)))))
       (J1 (F0 (pv 0) (U6 B1 (U6 B1 (J5 (G0 R4 G8)) (pv 2)) (J5 (G0 G9 G8))) rfl)) R8))))))))),?_⟩
  cases rw with
  | set o ts=>
   obtain⟨t,hrt,hts⟩:=hra
   obtain⟨k,ek⟩:=a4D (hK.ow o rfl)
   refine⟨_,rfl,r,_,_,_,rfl,rfl,SqT.of hrt,rfl,?_⟩
   refine⟨_,rfl,rfl,_,rfl,a1a ?_⟩
   refine⟨_,rfl,g,dx,_,rfl,hg,a8H,_,rfl,_,rfl,r,_,_,_,rfl,rfl,SqT.of hrt,rfl,?_⟩
   refine⟨_,rfl,g,dx,_,rfl,hg,a2i,_,rfl,_,rfl,r,_,_,_,rfl,rfl,SqT.of hrt,rfl,g,t,A,N,ns,S,p,ts,rfl,hG,hts,hK.sg,hnm,fun H1 s1=>?_⟩
   refine⟨g,A,N,ns,S,p,o,_,k,rfl,hG.same s1,ek,by omega,fun H2 f2 hG2=>?_⟩
   refine q H2 ((s1.fr g A).trans f2) ?_
   show Z2 CP CG H2 g A N ns (match N.km (p,o)with | some q=>{S with gv:=O2 S.gv (kN q) (.int (a0y N S.gv p ts))} | none=>S)
   rw[ek]
   exact hG2
  | take o=>
   have hrt:H r=some (.tup [.str "take",.str o]):=hra
   obtain⟨k,ek⟩:=a4D (hK.ow o rfl)
   refine⟨_,rfl,r,_,_,_,rfl,rfl,SqT.of hrt,rfl,?_⟩
   refine⟨_,rfl,rfl,_,rfl,Z6 (show¬("take":Str)="set" by decide +kernel) ?_⟩
   refine⟨_,rfl,rfl,_,rfl,a1a ?_⟩
   refine⟨_,rfl,g,dx,_,rfl,hg,a6X,g,A,N,ns,S,rfl,hG,fun H1 f1 hG1=>?_⟩
   have T1:=hG.tups f1
   obtain⟨dx1,v1,hg1,_⟩:=hG1.ob
   refine⟨_,rfl,g,dx1,_,rfl,hg1,a8H,_,rfl,_,rfl,r,_,_,_,rfl,rfl,SqT.of (T1 _ _ hrt),rfl,_,rfl,g,A,N,ns,_,p,o,_,k,rfl,hG1,ek,by show S.gv.length<=1000;omega,fun H2 f2 hG2=>?_⟩
   have T2:=T1.trans (hG1.tups f2)
   obtain⟨dx2,v2,hg2,_⟩:=hG2.ob
   obtain⟨us2,hus2,hup2⟩:=hG2.tr
   have hul2:us2.length<=990:=by rw[AF hup2];exact htl
   refine⟨_,rfl,g,CG,dx2,_,_,rfl,hg2,T.c_Going,T.nG_trace,a2S,.inl ⟨rfl,_,SqL.of hus2⟩,_,rfl,E1,fun t3 gt3=>?_⟩
   have s3:J4 H2 (upd H2 t3 (.tup [.str "take",.int (ns.getD S.tk 0)])):=(J4.refl H2).new gt3
   have ht3:upd H2 t3 (.tup [.str "take",.int (ns.getD S.tk 0)]) t3=some (.tup [.str "take",.int (ns.getD S.tk 0)]):=G7
   generalize upd H2 t3 (.tup [.str "take",.int (ns.getD S.tk 0)])=H3 at s3 ht3⊢
   refine⟨_,rfl,t3,wh,_,_,rfl,rfl,SqT.of ht3,SqT.of (s3 _ _ (T2 _ _ hwh)),(by show 4<=sizeLine;decide),(fun z=>by cases z),(fun _ z=>by cases z),fun _ _ t4 gt4=>?_⟩
   have s4:J4 H2 (upd H3 t4 (.tup ([.str "take",.int (ns.getD S.tk 0)]++[.str p,.int (j:Int)]))):=s3.new gt4
   have ht4:upd H3 t4 (.tup ([.str "take",.int (ns.getD S.tk 0)]++[.str p,.int (j:Int)])) t4=some (.tup ([.str "take",.int (ns.getD S.tk 0)]++[.str p,.int (j:Int)])):=G7
   generalize upd H3 t4 (.tup ([.str "take",.int (ns.getD S.tk 0)]++[.str p,.int (j:Int)]))=H4 at s4 ht4⊢
   have hG4:=hG2.same s4
   refine⟨A.tr,_,_,rfl,rfl,s4 _ _ hus2,U5 (by omega),?_⟩
   obtain⟨f5,hG5⟩:=hG4.pushTrace (d:=("take",ns.getD S.tk 0,p,j)) (s4 _ _ hus2) ⟨t4,rfl,ht4⟩
   refine q _ (((f1.trans f2).trans (s4.fr g A)).trans f5) ?_
   show Z2 CP CG _ g A N ns (match N.km (p,o)with | some q=>{S with tk:=if S.tk=ns.length then S.tk else S.tk+1,gv:=O2 S.gv (kN q) (.int (ns.getD S.tk 0)),tr:=S.tr++[(("take":Str),ns.getD S.tk 0,p,j)]} | none=>S)
   rw[ek]
   exact hG5
  | say ts wn=>
   obtain⟨t,hrt,hts⟩:=hra
   refine⟨_,rfl,r,_,_,_,rfl,rfl,SqT.of hrt,rfl,?_⟩
   refine⟨_,rfl,rfl,_,rfl,Z6 (show¬("say":Str)="set" by decide +kernel) ?_⟩
   refine⟨_,rfl,rfl,_,rfl,Z6 (show¬("say":Str)="take" by decide +kernel) ?_⟩
   refine⟨_,rfl,rfl,_,rfl,a1a ?_⟩
   refine⟨_,rfl,g,CG,dx,_,_,rfl,hg,T.c_Going,T.nG_trace,a2S,.inl ⟨rfl,_,SqL.of hus⟩,?_⟩
   refine⟨_,rfl,g,dx,_,rfl,hg,a2i,_,rfl,_,rfl,r,_,_,_,rfl,rfl,SqT.of hrt,rfl,g,t,A,N,ns,S,p,ts,rfl,hG,hts,hK.sg,hnm,fun H2 s2=>?_⟩
   refine⟨E1,fun t3 gt3=>?_⟩
   have s3:J4 H (upd H2 t3 (.tup [.str "say",.int (a0y N S.gv p ts)])):=s2.new gt3
   have ht3:upd H2 t3 (.tup [.str "say",.int (a0y N S.gv p ts)]) t3=some (.tup [.str "say",.int (a0y N S.gv p ts)]):=G7
   generalize upd H2 t3 (.tup [.str "say",.int (a0y N S.gv p ts)])=H3 at s3 ht3⊢
   refine⟨_,rfl,t3,wh,_,_,rfl,rfl,SqT.of ht3,SqT.of (s3 _ _ hwh),(by show 4<=sizeLine;decide),(fun z=>by cases z),(fun _ z=>by cases z),fun _ _ t4 gt4=>?_⟩
   have s4:J4 H (upd H3 t4 (.tup ([.str "say",.int (a0y N S.gv p ts)]++[.str p,.int (j:Int)]))):=s3.new gt4
   have ht4:upd H3 t4 (.tup ([.str "say",.int (a0y N S.gv p ts)]++[.str p,.int (j:Int)])) t4=some (.tup ([.str "say",.int (a0y N S.gv p ts)]++[.str p,.int (j:Int)])):=G7
   generalize upd H3 t4 (.tup ([.str "say",.int (a0y N S.gv p ts)]++[.str p,.int (j:Int)]))=H4 at s4 ht4⊢
   have hG4:=hG.same s4
   refine⟨A.tr,_,_,rfl,rfl,s4 _ _ hus,U5 (by omega),?_⟩
   obtain⟨f5,hG5⟩:=hG4.pushTrace (d:=("say",a0y N S.gv p ts,p,j)) (s4 _ _ hus) ⟨t4,rfl,ht4⟩
   exact q _ ((s4.fr g A).trans f5) hG5
  | need ts=>
   obtain⟨t,hrt,hts⟩:=hra
   refine⟨_,rfl,r,_,_,_,rfl,rfl,SqT.of hrt,rfl,?_⟩
   refine⟨_,rfl,rfl,_,rfl,Z6 (show¬("need":Str)="set" by decide +kernel) ?_⟩
   refine⟨_,rfl,rfl,_,rfl,Z6 (show¬("need":Str)="take" by decide +kernel) ?_⟩
   refine⟨_,rfl,rfl,_,rfl,Z6 (show¬("need":Str)="say" by decide +kernel) ?_⟩
   refine⟨_,rfl,rfl,_,rfl,a1a ?_⟩
   refine⟨_,rfl,g,dx,_,rfl,hg,a2i,_,rfl,_,rfl,r,_,_,_,rfl,rfl,SqT.of hrt,rfl,g,t,A,N,ns,S,p,ts,rfl,hG,hts,hK.sg,hnm,fun H2 s2=>?_⟩
   refine⟨_,_,rfl,rfl,_,rfl,b0d (fun c1=>?_) (fun c1=>?_)⟩
   ·have hle:a0y N S.gv p ts<=0:=by simpa using c1
    refine⟨a3y,fun t3 gt3=>?_⟩
    have s3:J4 H (upd H2 t3 (.tup [.str "need"])):=s2.new gt3
    have ht3:upd H2 t3 (.tup [.str "need"]) t3=some (.tup [.str "need"]):=G7
    generalize upd H2 t3 (.tup [.str "need"])=H3 at s3 ht3⊢
    refine⟨_,rfl,t3,wh,_,_,rfl,rfl,SqT.of ht3,SqT.of (s3 _ _ hwh),a2b,(fun z=>by cases z),(fun _ z=>by cases z),fun _ _ t4 gt4=>?_⟩
    have s4:J4 H (upd H3 t4 (.tup ([.str "need"]++[.str p,.int (j:Int)]))):=s3.new gt4
    have ht4:upd H3 t4 (.tup ([.str "need"]++[.str p,.int (j:Int)])) t4=some (.tup ([.str "need"]++[.str p,.int (j:Int)])):=G7
    generalize upd H3 t4 (.tup ([.str "need"]++[.str p,.int (j:Int)]))=H4 at s4 ht4⊢
    refine⟨a3y,fun t5 gt5=>?_⟩
    have s5:J4 H (upd H4 t5 (.tup [.int 0])):=s4.new gt5
    have ht5:upd H4 t5 (.tup [.int 0]) t5=some (.tup [.int 0]):=G7
    have ht45:=J2 (o:= .tup [.int 0]) ht4 gt5
    generalize upd H4 t5 (.tup [.int 0])=H5 at s5 ht5 ht45⊢
    refine⟨t4,t5,_,_,rfl,rfl,SqT.of ht45,SqT.of ht5,(by show 4<=sizeLine;decide),(fun z=>by cases z),(fun _ z=>by cases z),fun _ _ t6 gt6=>?_⟩
    have s6:J4 H (upd H5 t6 (.tup (([.str "need"]++[.str p,.int (j:Int)])++[.int 0]))):=s5.new gt6
    have ht6:upd H5 t6 (.tup (([.str "need"]++[.str p,.int (j:Int)])++[.int 0])) t6=some (.tup (([.str "need"]++[.str p,.int (j:Int)])++[.int 0])):=G7
    generalize upd H5 t6 (.tup (([.str "need"]++[.str p,.int (j:Int)])++[.int 0]))=H6 at s6 ht6⊢
    have hG6:=hG.same s6
    refine⟨_,rfl,g,CG,dx,_,rfl,s6 _ _ hg,T.c_Going,T.nG_fault,a8z,?_⟩
    rw[a5V]
    obtain⟨f7,hG7⟩:=hG6.setSelf (dx:=dx) (tk:=S.tk) (v:= .ref t6) (ft:=some ("need",p,j,0)) ⟨t6,rfl,ht6⟩ hG.tkl
    refine q _ ((s6.fr g A).trans f7) ?_
    show Z2 CP CG _ g A N ns (if a0y N S.gv p ts<=0 then{S with ft:=some ("need",p,j,0)}else S)
    rw[if_pos hle]
    exact hG7
   ·have hle:¬a0y N S.gv p ts<=0:=by simpa using c1
    refine q H2 (s2.fr g A) ?_
    show Z2 CP CG _ g A N ns (if a0y N S.gv p ts<=0 then{S with ft:=some ("need",p,j,0)}else S)
    rw[if_neg hle]
    exact hG.same s2
  | give o gg=>
   have hrt:H r=some (.tup [.str "give",.str o,.str gg]):=hra
   refine⟨_,rfl,r,_,_,_,rfl,rfl,SqT.of hrt,rfl,?_⟩
   refine⟨_,rfl,rfl,_,rfl,Z6 (show¬("give":Str)="set" by decide +kernel) ?_⟩
   refine⟨_,rfl,rfl,_,rfl,Z6 (show¬("give":Str)="take" by decide +kernel) ?_⟩
   refine⟨_,rfl,rfl,_,rfl,Z6 (show¬("give":Str)="say" by decide +kernel) ?_⟩
   refine⟨_,rfl,rfl,_,rfl,Z6 (show¬("give":Str)="need" by decide +kernel) ?_⟩
   show if false=true then _ else _
   refine O7 ?_
   exact q H (Fr.refl g A H) hG
  | _=>exact hwk.elim
structure a5H(N:Nt):Prop where
 nd:(N.ps.map (·.1)).Nodup
 rk:∀p rs,(p,rs)∈N.ps->∀rw∈rs,a5w N p rw
 tg:∀p rs,(p,rs)∈N.ps->∀rw∈rs,∀q,(∃ps,rw= .bring q ps)\/(∃wh,rw= .ask q wh)->q∈N.ps.map (·.1)
 kd:∀p rs,(p,rs)∈N.ps->∀rw∈rs,a4L rw=true
 tot:(N.ps.map fun x=>x.2.length).sum<=900
 len:N.ps.length<=24
noncomputable def a1Z (N:Nt) (bg:List Str):Nat:=((N.ps.filter fun x=>decide (x.1∉bg)).map fun x=>x.2.length).sum
noncomputable def b5r (N:Nt) (S:GS):Prop:=∀x∈S.wt,∃rs,(x.1,rs)∈N.ps/\x.2.2∈rs
theorem a8m(f:Pt->Bool)(l:List Pt):((l.filter f).map fun x=>x.2.length).sum<=(l.map fun x=>x.2.length).sum:=by
 induction l with
 | nil=>exact AD _
 | cons a l ih=>
  rw[List.filter_cons]
  split
  ·simp only[List.map_cons,List.sum_cons];omega
  ·simp only[List.map_cons,List.sum_cons];omega
theorem a2J{N:Nt}(hn:(N.ps.map (·.1)).Nodup){bg:List Str}{p:Str}{rs:List Rw}(h:(p,rs)∈N.ps)(hp:p∉bg):a1Z N (a2c bg p)+rs.length=a1Z N bg:=by
 unfold a1Z
 generalize N.ps=l at hn h
 induction l with
 | nil=>simp at h
 | cons a l ih=>
  rw[List.map_cons,List.nodup_cons]at hn
  rcases List.mem_cons.mp h with z | z
  ·have ha:a.1=p:=by rw[<-z]
   have ha2:a.2=rs:=by rw[<-z]
   have hrest:l.filter (fun x=>decide (x.1∉a2c bg p))=l.filter (fun x=>decide (x.1∉bg)):=by
    refine List.filter_congr fun x hx=>?_
    have hxp:¬x.1=p:=fun e=>hn.1 (by rw[ha,<-e];exact AM (f:=(·.1)) hx)
    rw[Bool.eq_iff_iff,decide_eq_true_iff,decide_eq_true_iff,a3u]
    exact⟨fun k y=>k (.inl y),fun k y=>y.elim k fun e=>hxp e⟩
   rw[List.filter_cons,List.filter_cons,hrest]
   rw[if_neg (by rw[ha,decide_eq_true_iff,a3u];exact fun k=>k (.inr rfl)),if_pos (by rw[ha];exact decide_eq_true hp)]
   simp only[List.map_cons,List.sum_cons]
   rw[ha2]
   omega
  ·have hap:¬a.1=p:=fun e=>hn.1 (by rw[e];exact AM (f:=(·.1)) z)
   have ih':=ih hn.2 z
   rw[List.filter_cons,List.filter_cons]
   by_cases hb:a.1∈bg
   ·rw[if_neg (by rw[decide_eq_true_iff,a3u];exact fun k=>k (.inl hb)),if_neg (by rw[decide_eq_true_iff];exact fun k=>k hb)]
    exact ih'
   ·rw[if_pos (by rw[decide_eq_true_iff,a3u];exact fun k=>k.elim hb hap),if_pos (by rw[decide_eq_true_iff];exact hb)]
    simp only[List.map_cons,List.sum_cons]
    omega
theorem b5X(k a b c:Str):inV (.str k) [.str a,.str b,.str c]=decide (k=a\/k=b\/k=c):=by
 have:=a5m k [a,b,c]
 simpa using this
noncomputable def b5u (CP CG:Addr):Sp:=fun vs H Q _=>∃(g wh r:Addr)(A:GA)(N:Nt)(ns:List Int)(S:GS)(p:Str)(j:Nat)(rw:Rw),vs=[.ref g,.str p,.ref wh,.ref r]/\Z2 CP CG H g A N ns S/\H wh=some (.tup [.str p,.int (j:Int)])/\O5 H r rw/\a5w N p rw/\a4L rw=true/\(∀q,(∃ps,rw= .bring q ps)\/(∃wh,rw= .ask q wh)->∃rs,(q,rs)∈N.ps/\a0z N q=rs/\rs.length<=900/\(q∉S.bg->S.wt.length+rs.length<=1000))/\S.bg.length<=900/\S.gv.length<=990/\S.tr.length<=990/\∀H',Fr g A H H'->Z2 CP CG H' g A N ns (a4h N ns S p j rw)->Q .non H'
theorem a8q{N:Nt}{gv:List (List Key×V)}{p:Str}{rw:Rw}(h:F6 N gv p rw=none):∀d∈rdR rw,(lk N gv p d.2).isSome=true:=fun d hd=>by
 unfold F6 at h
 rw[Option.map_eq_none_iff,List.find?_eq_none]at h
 have:=h d hd
 cases e:(lk N gv p d.2).isSome with
 | true=>rfl
 | false=>rw[e]at this;exact absurd rfl this
theorem a5Y(T:Tc K mg CP CG):MCl P w K mg base 6 CG "do_row" ["self","part","where","row"] (b5u CP CG):=by
 have C_is_off:=a9J (P:=P) (w:=w) (base:=base) T
 have C_early_word:=a5N (P:=P) (w:=w) (base:=base) T
 have C_enter:=b1a (P:=P) (w:=w) (base:=base) T
 have C_do_work:=a8w (P:=P) (w:=w) (base:=base) T
 refine MCl.of T.m_do_row a1X (fun vs H Q E h=>?_) (fun _ _ _ _ _ _ us hl=>len4 us hl (fun _ _ _ _=>rfl)) (fun fa cdv A outer s H vs Q E hr h=>?_)
 ·obtain⟨g,wh,r,A,N,ns,S,p,j,rw,rfl,_⟩:=h
  rfl
 ·obtain⟨g,wh,r,A,N,ns,S,p,j,rw,rfl,hG,hwh,hra,hK,hwk,htg,hbl,hgl,htl,q⟩:=h
  obtain⟨dx,v,hg,hft⟩:=hG.ob
  obtain⟨x1,rest,hrt⟩:=hra.kind
  have z0:atI (V.str (Z5 rw)::x1::rest) 0=some (.str (Z5 rw)):=J6 (j:=0) rfl
  refine⟨_,(I0 (W1 (D9 (D0 C_is_off T.c_Going hr (pv 0) (G0 (pv 1) (G0 (pv 3) G8))))
    (J1 a8D) R8)
   (I0 (U1 (i:=4) a1X.nd rfl (Or.inl rfl) (D0 C_early_word T.c_Going hr (pv 0) (G0 (pv 1) (G0 (pv 3) G8))))
   (J1 (W1 (a1n (a8U (pv 4)))
    (J1 (F0 (pv 0) (U6 B1 (U6 B1 (J5 (G0 R4 G8)) (pv 2)) (J5 (G0 (pv 4) G8))) rfl)) (J1 (W1 (U0 a5U (J7 J9 (pv 3) G9 (fun _ _=>rfl)) (J5 (G0 R4 (G0 R4 (G0 R4 G8)))) (by with_unfolding_all rfl))
     (J1 (Y0 (D0 C_enter T.c_Going hr (pv 0) (G0 (J7 J9 (pv 3) G9 (fun _ _=>rfl)) (G0 (J7 J9 (pv 3) G9 (fun _ _=>rfl)) G8))))) (J1 (Y0 (D0 C_do_work T.c_Going hr (pv 0) (G0 (pv 1) (G0 (pv 2) (G0 (pv 3) G8)))))))))))),?_⟩
  refine⟨_,rfl,g,dx,_,rfl,hg,a9I,_,rfl,_,rfl,g,r,A,N,ns,S,p,rw,rfl,hG,hra,hK,fun H1 s1=>?_⟩
  have hG1:=hG.same s1
  refine⟨_,rfl,?_⟩
  cases hoff:a1D N S.gv p rw with
  | true=>
   refine a0I ?_
   refine q H1 (s1.fr g A) ?_
   rw[a4W hoff]
   exact hG1
  | false=>
   refine O7 ?_
   refine⟨_,rfl,g,dx,_,rfl,s1 _ _ hg,a5D,_,rfl,_,rfl,g,r,A,N,ns,S,p,rw,rfl,hG1,hra.mono s1.tups,hK,fun H2 s2=>?_⟩
   have s02:=s1.trans s2
   have hG2:=hG.same s02
   have hg2:=s02 _ _ hg
   cases he:F6 N S.gv p rw with
   | some wd=>
    refine⟨_,rfl,_,rfl,b4Y (by intro z;cases z) ?_⟩
    refine⟨a3y,fun t3 gt3=>?_⟩
    have s3:J4 H (upd H2 t3 (.tup [.str "early"])):=s02.new gt3
    have ht3:upd H2 t3 (.tup [.str "early"]) t3=some (.tup [.str "early"]):=G7
    generalize upd H2 t3 (.tup [.str "early"])=H3 at s3 ht3⊢
    refine⟨_,rfl,t3,wh,_,_,rfl,rfl,SqT.of ht3,SqT.of (s3 _ _ hwh),a2b,(fun z=>by cases z),(fun _ z=>by cases z),fun _ _ t4 gt4=>?_⟩
    have s4:J4 H (upd H3 t4 (.tup ([.str "early"]++[.str p,.int (j:Int)]))):=s3.new gt4
    have ht4:upd H3 t4 (.tup ([.str "early"]++[.str p,.int (j:Int)])) t4=some (.tup ([.str "early"]++[.str p,.int (j:Int)])):=G7
    generalize upd H3 t4 (.tup ([.str "early"]++[.str p,.int (j:Int)]))=H4 at s4 ht4⊢
    refine⟨_,rfl,a3y,fun t5 gt5=>?_⟩
    have s5:J4 H (upd H4 t5 (.tup [a5A (some wd)])):=s4.new gt5
    have ht5:upd H4 t5 (.tup [a5A (some wd)]) t5=some (.tup [a5A (some wd)]):=G7
    have ht45:=J2 (o:= .tup [a5A (some wd)]) ht4 gt5
    generalize upd H4 t5 (.tup [a5A (some wd)])=H5 at s5 ht5 ht45⊢
    refine⟨t4,t5,_,_,rfl,rfl,SqT.of ht45,SqT.of ht5,(by show 4<=sizeLine;decide),(fun z=>by cases z),(fun _ z=>by cases z),fun _ _ t6 gt6=>?_⟩
    have s6:J4 H (upd H5 t6 (.tup (([.str "early"]++[.str p,.int (j:Int)])++[a5A (some wd)]))):=s5.new gt6
    have ht6:upd H5 t6 (.tup (([.str "early"]++[.str p,.int (j:Int)])++[a5A (some wd)])) t6=some (.tup (([.str "early"]++[.str p,.int (j:Int)])++[a5A (some wd)])):=G7
    generalize upd H5 t6 (.tup (([.str "early"]++[.str p,.int (j:Int)])++[a5A (some wd)]))=H6 at s6 ht6⊢
    have hG6:=hG.same s6
    refine⟨_,rfl,g,CG,dx,_,rfl,s6 _ _ hg,T.c_Going,T.nG_fault,a8z,?_⟩
    rw[a5V]
    obtain⟨f7,hG7⟩:=hG6.setSelf (dx:=dx) (tk:=S.tk) (v:= .ref t6) (ft:=some ("early",p,j,wd)) ⟨t6,rfl,ht6⟩ hG.tkl
    refine q _ ((s6.fr g A).trans f7) ?_
    rw[a2I hoff he]
    exact hG7
   | none=>
    refine⟨_,rfl,_,rfl,a8O rfl ?_⟩
    have hrs:=a3N (ns:=ns) (j:=j) hoff he
    refine⟨_,rfl,r,_,_,_,rfl,rfl,SqT.of (s02 _ _ hrt),z0,a2b,fun t3 gt3=>?_⟩
    have s3:J4 H (upd H2 t3 (.tup [.str "bring",.str "do",.str "ask"])):=s02.new gt3
    have ht3:upd H2 t3 (.tup [.str "bring",.str "do",.str "ask"]) t3=some (.tup [.str "bring",.str "do",.str "ask"]):=G7
    generalize upd H2 t3 (.tup [.str "bring",.str "do",.str "ask"])=H3 at s3 ht3⊢
    refine⟨t3,_,rfl,.inr (SqT.of ht3),rfl,rfl,_,rfl,?_⟩
    rw[if_neg (by decide),b5X]
    have hG3:=hG.same s3
    have hg3:=s3 _ _ hg
    have work:a8T rw->a3j N ns S p j rw=F9 N ns S p j rw->b0H CP CG [.ref g,.str p,.ref wh,.ref r] H3 Q E0:=fun hw e=>
     ⟨g,wh,r,A,N,ns,S,p,j,rw,rfl,hG3,s3 _ _ hwh,hra.mono s3.tups,hK,hw,a8q he,hgl,htl,fun H4 f4 hG4=>q H4 ((s3.fr g A).trans f4) (by rw[hrs,e];exact hG4)⟩
    cases rw with
    | bring b ps=>
     obtain⟨t,hrt',_⟩:=hra
     obtain⟨rs,m1,m2,m3,m4⟩:=htg b (.inl ⟨ps,rfl⟩)
     rw[decide_eq_true (show Z5 (Rw.bring b ps)="bring" \/_ from .inl rfl)]
     refine a0I ?_
     exact⟨_,rfl,g,dx,_,rfl,hg3,a7O,_,rfl,r,_,_,_,rfl,rfl,SqT.of (s3 _ _ hrt'),rfl,_,rfl,r,_,_,_,rfl,rfl,SqT.of (s3 _ _ hrt'),rfl,g,A,N,ns,S,"bring",b,rs,rfl,hG3,m1,m2,m3,m4,hbl,fun H4 f4 hG4=>q H4 ((s3.fr g A).trans f4) (by rw[hrs];exact hG4)⟩
    | ask b wn=>
     have hrt':H r=some (.tup [.str "ask",.str b,a9P wn]):=hra
     obtain⟨rs,m1,m2,m3,m4⟩:=htg b (.inr ⟨wn,rfl⟩)
     rw[decide_eq_true (show Z5 (Rw.ask b wn)="bring" \/Z5 (Rw.ask b wn)="do" \/Z5 (Rw.ask b wn)="ask" from .inr (.inr rfl))]
     refine a0I ?_
     exact⟨_,rfl,g,dx,_,rfl,hg3,a7O,_,rfl,r,_,_,_,rfl,rfl,SqT.of (s3 _ _ hrt'),rfl,_,rfl,r,_,_,_,rfl,rfl,SqT.of (s3 _ _ hrt'),rfl,g,A,N,ns,S,"ask",b,rs,rfl,hG3,m1,m2,m3,m4,hbl,fun H4 f4 hG4=>q H4 ((s3.fr g A).trans f4) (by rw[hrs];exact hG4)⟩
    | part b=>exact absurd hwk (by simp[a4L])
    | doo b=>exact absurd hwk (by simp[a4L])
    | _=>
     rw[AT (by simp only[Z5];decide +kernel)]
     refine O7 ?_
     exact⟨_,rfl,g,dx,_,rfl,hg3,a8h,_,rfl,_,rfl,_,rfl,work trivial rfl⟩
inductive B6 (N:Nt) (ns:List Int):GS->GS->Prop where
 | refl (S:GS):B6 N ns S S
 | step {S S':GS} {W:List Wx} {p:Str} {j:Nat} {rw:Rw}:S.ft=none->S.wt=W++[(p,j,rw)]->B6 N ns (a4h N ns {S with wt:=W} p j rw) S'->B6 N ns S S'
theorem B6.trans{N:Nt}{ns:List Int}{S S1 S2:GS}(h:B6 N ns S S1)(k:B6 N ns S1 S2):B6 N ns S S2:=by
 induction h with
 | refl _=>exact k
 | step a b _ ih=>exact .step a b (ih k)
theorem B6.snoc{N:Nt}{ns:List Int}{S S1:GS}{W:List Wx}{p:Str}{j:Nat}{rw:Rw}(h:B6 N ns S S1)(a:S1.ft=none)(b:S1.wt=W++[(p,j,rw)]):B6 N ns S (a4h N ns {S1 with wt:=W} p j rw):=h.trans (.step a b (.refl _))
noncomputable def muN (N:Nt) (S:GS):Nat:=S.wt.length+a1Z N S.bg
structure a5u(N:Nt)(S:GS):Prop where
 wo:b5r N S
 gl:S.gv.length+muN N S<=990
 tl:S.tr.length+muN N S<=990
 bl:S.bg.length<=N.ps.length
 bn:S.bg.Nodup
 bm:∀p∈S.bg,p∈N.ps.map (·.1)
theorem a7e{κ:Type}[DecidableEq κ](kvs:List (κ×V))(k:κ)(v:V):(O2 kvs k v).length<=kvs.length+1:=by
 unfold O2
 split
 ·rw[AI];omega
 ·rw[List.length_append];exact AD _
theorem a7o{N:Nt}{S:GS}{p:Str}{rs:List Rw}(hN:a5H N)(h:a5u N S)(hm:(p,rs)∈N.ps)(hp:p∉S.bg):a5u N (a0B N S p)/\muN N (a0B N S p)=muN N S:=by
 have hrs:=a1p hN.nd hm
 have hl:=a2J hN.nd hm hp
 have hmu:muN N (a0B N S p)=muN N S:=by
  show(S.wt++(W5 p (a0z N p)).reverse).length+a1Z N (a2c S.bg p)=S.wt.length+a1Z N S.bg
  rw[List.length_append,List.length_reverse,a2x,hrs]
  omega
 have hadd:a2c S.bg p=S.bg++[p]:=by unfold a2c;rw[if_neg hp]
 have hbn:(S.bg++[p]).Nodup:=AZ.mpr ⟨h.bn,by simp,fun a ha b hb=>by rw[AH.mp hb];exact fun z=>hp (z▸ha)⟩
 have hbm:∀q∈S.bg++[p],q∈N.ps.map (·.1):=fun q hq=>by
  rcases List.mem_append.mp hq with z | z
  ·exact h.bm q z
  ·rw[AH.mp z];exact AM (f:=(·.1)) hm
 refine⟨⟨fun x hx=>?_,by rw[hmu];exact h.gl,by rw[hmu];exact h.tl,?_,?_,?_⟩,hmu⟩
 ·have hx':x∈S.wt++(W5 p (a0z N p)).reverse:=hx
  rcases List.mem_append.mp hx' with z | z
  ·exact h.wo x z
  ·have:=List.mem_reverse.mp z
   unfold W5 at this
   rw[hrs]at this
   obtain⟨i,hi,e⟩:=List.mem_mapIdx.mp this
   refine⟨rs,by rw[<-e];exact hm,?_⟩
   rw[<-e]
   exact List.getElem_mem hi
 ·show(a2c S.bg p).length<=_
  rw[hadd]
  have:=a1S (S.bg++[p]) (N.ps.map (·.1)) hbn hbm
  rw[AI]at this
  exact this
 ·show(a2c S.bg p).Nodup
  rw[hadd];exact hbn
 ·show∀q∈a2c S.bg p,_
  rw[hadd];exact hbm
theorem b3R{N:Nt}{ns:List Int}{S:GS}{W:List Wx}{p:Str}{j:Nat}{rw:Rw}(hN:a5H N)(h:a5u N S)(hw:S.wt=W++[(p,j,rw)]):a5u N (a4h N ns {S with wt:=W} p j rw)/\muN N (a4h N ns {S with wt:=W} p j rw) < muN N S:=by
 obtain⟨rs,hm,hmr⟩:=h.wo (p,j,rw) (by rw[hw];simp)
 have hmu0:muN N {S with wt:=W}+1=muN N S:=by
  show W.length+a1Z N S.bg+1=S.wt.length+a1Z N S.bg
  rw[hw,List.length_append]
  simp;omega
 have h0:a5u N {S with wt:=W}:=⟨fun x hx=>h.wo x (by rw[hw];exact List.mem_append_left _ hx),by have:=h.gl;show S.gv.length+muN N {S with wt:=W}<=990;omega,by have:=h.tl;show S.tr.length+muN N {S with wt:=W}<=990;omega,h.bl,h.bn,h.bm⟩
 have hg1:S.gv.length+muN N {S with wt:=W}+1<=990:=by have:=h.gl;omega
 have ht1:S.tr.length+muN N {S with wt:=W}+1<=990:=by have:=h.tl;omega
 have keep:a5u N {S with wt:=W}/\muN N {S with wt:=W} < muN N S:=⟨h0,by omega⟩
 have ent:∀b,b∈N.ps.map (·.1)->a5u N (a1j N {S with wt:=W} b)/\muN N (a1j N {S with wt:=W} b) < muN N S:=fun b hb=>by
  unfold a1j
  by_cases hin:b∈S.bg
  ·rw[if_pos hin];exact keep
  ·rw[if_neg hin]
   obtain⟨⟨b',rs'⟩,h1,h2⟩:=AY.mp hb
   have h2':b'=b:=h2
   subst h2'
   obtain⟨k1,k2⟩:=a7o hN h0 h1 hin
   exact⟨k1,by omega⟩
 cases hoff:a1D N {S with wt:=W}.gv p rw with
 | true=>rw[a4W hoff];exact keep
 | false=>
  cases he:F6 N {S with wt:=W}.gv p rw with
  | some wd=>
   rw[a2I hoff he]
   exact⟨⟨h0.wo,h0.gl,h0.tl,h0.bl,h0.bn,h0.bm⟩,keep.2⟩
  | none=>
   rw[a3N hoff he]
   cases rw with
   | bring b ps=>exact ent b (hN.tg p rs hm _ hmr b (.inl ⟨ps,rfl⟩))
   | ask b wn=>exact ent b (hN.tg p rs hm _ hmr b (.inr ⟨wn,rfl⟩))
   | set o ts=>
    cases e:N.km (p,o)with
    | none=>simp only[a3j,F9,e];exact keep
    | some k=>
     simp only[a3j,F9,e]
     refine⟨⟨h0.wo,?_,h0.tl,h0.bl,h0.bn,h0.bm⟩,keep.2⟩
     have:=a7e S.gv (kN k) (.int (a0y N S.gv p ts))
     show(O2 S.gv (kN k) (.int (a0y N S.gv p ts))).length+muN N {S with wt:=W}<=990
     omega
   | take o=>
    cases e:N.km (p,o)with
    | none=>simp only[a3j,F9,e];exact keep
    | some k=>
     simp only[a3j,F9,e]
     refine⟨⟨h0.wo,?_,?_,h0.bl,h0.bn,h0.bm⟩,keep.2⟩
     ·have:=a7e S.gv (kN k) (.int (ns.getD S.tk 0))
      show(O2 S.gv (kN k) (.int (ns.getD S.tk 0))).length+muN N {S with wt:=W}<=990
      omega
     ·show(S.tr++[_]).length+muN N {S with wt:=W}<=990
      rw[List.length_append];simp;omega
   | say ts wn=>
    refine⟨⟨h0.wo,h0.gl,?_,h0.bl,h0.bn,h0.bm⟩,keep.2⟩
    show(S.tr++[_]).length+muN N {S with wt:=W}<=990
    rw[List.length_append];simp;omega
   | need ts=>
    simp only[a3j,F9]
    split
    ·exact⟨⟨h0.wo,h0.gl,h0.tl,h0.bl,h0.bn,h0.bm⟩,keep.2⟩
    ·exact keep
   | give o g=>exact keep
   | part b=>exact keep
   | doo b=>exact keep
noncomputable def muH (N:Nt) (A:GA) (H:Hp):Nat:=(match H A.wt with | some (.lst vs)=>vs.length | _=>0)+(match H A.b with | some (.dK kvs)=>((N.ps.filter fun(x:Pt)=>!(Y7 kvs (Sum.inr x.1)).isSome).map fun x=>x.2.length).sum | _=>0)
theorem b1I{CP CG:Addr}{H:Hp}{g:Addr}{A:GA}{N:Nt}{ns:List Int}{S:GS}(h:Z2 CP CG H g A N ns S):muH N A H=muN N S:=by
 obtain⟨vs,h1,h2⟩:=h.wt
 have hf:N.ps.filter (fun(x:Pt)=>!(Y7 (a1F S.bg) (Sum.inr x.1)).isSome)=N.ps.filter (fun x=>decide (x.1∉S.bg)):=List.filter_congr fun x _=>by
  rw[a6j]
  by_cases hx:x.1∈S.bg
  ·simp[hx]
  ·simp[hx]
 unfold muH muN a1Z
 rw[h1,h.bg]
 show vs.length+((N.ps.filter (fun(x:Pt)=>!(Y7 (a1F S.bg) (Sum.inr x.1)).isSome)).map fun x=>x.2.length).sum=_
 rw[hf,AF h2]
theorem a3R{α β:Type}{F:α->β->Prop}:∀{us:List α}{y:α}{ws:List β},Paired F (us++[y]) ws->∃W x,ws=W++[x]/\Paired F us W/\F y x
 | [],y,_,.cons h .nil=>⟨[],_,rfl,.nil,h⟩
 | a::us,y,_,.cons h t=>by
  obtain⟨W,x,e,h1,h2⟩:=a3R (us:=us) t
  exact⟨_::W,x,by rw[e];rfl,.cons h h1,h2⟩
theorem a8t{N:Nt}(hN:a5H N){p:Str}{rs:List Rw}(h:(p,rs)∈N.ps):rs.length<=900:=by
 have:=hN.tot
 have:∀l:List Pt,(p,rs)∈l->rs.length<=(l.map fun x=>x.2.length).sum:=by
  intro l hl
  induction l with
  | nil=>simp at hl
  | cons a l ih=>
   rw[List.map_cons,List.sum_cons]
   rcases List.mem_cons.mp hl with z | z
   ·rw[<-z];simp
   ·have:=ih z;omega
 have:=this N.ps h
 omega
noncomputable def b4b (CP CG:Addr):Sp:=fun vs H Q _=>∃(g:Addr)(A:GA)(N:Nt)(ns:List Int)(S:GS),vs=[.ref g]/\Z2 CP CG H g A N ns S/\a5H N/\a5u N S/\∀(S':GS)(H':Hp),Fr g A H H'->Z2 CP CG H' g A N ns S'->B6 N ns S S'->(S'.wt=[]\/S'.ft≠none)->Q .non H'
theorem b2I{α:Type}{l:List α}(h:l≠[]):(!l.isEmpty)=true:=by cases l with | nil=>exact absurd rfl h | cons _ _=>rfl
theorem b0S(T:Tc K mg CP CG):MCl P w K mg base 7 CG "go_on" ["self"] (b4b CP CG):=by
 have C_do_row:=a5Y (P:=P) (w:=w) (base:=base) T
 refine MCl.of T.m_go_on a0t (fun vs H Q E h=>?_) (fun _ _ _ _ _ _ us hl=>len1 us hl (fun _=>rfl)) (fun fa cdv A outer s H vs Q E hr h=>?_)
 ·obtain⟨g,A,N,ns,S,rfl,_⟩:=h
  rfl
 ·obtain⟨g,A,N,ns,S,rfl,hG,hN,hO,q⟩:=h
  refine⟨_,(J1 (a5c AK (PW.pt (a6U (a5l (W3 (pv 0) rfl) (fun _=>rfl)) (a4p (a1n (a4u (W3 (pv 0) rfl))))))
    (I0 (U1 (i:=1) a0t.nd rfl (Or.inl rfl) (b1j PySem.F.plainAttrs_list PySem.F.slot_list_pop PySem.F.type_list_pop b1Z (W3 (pv 0) rfl)))
    (J1 (Y0 (D0 C_do_row T.c_Going hr (pv 0) (G0 (J7 J9 (pv 1) G9 (fun _ _=>rfl)) (G0 (J7 J9 (pv 1) G9 (fun _ _=>rfl)) (G0 (J7 J9 (pv 1) G9 (fun _ _=>rfl)) G8))))))))),?_⟩
  refine a5e (fun σ H2=>∃(v1:Option V)(S2:GS),σ=[some (.ref g),v1]/\Fr g A H H2/\Z2 CP CG H2 g A N ns S2/\a5u N S2/\B6 N ns S S2) (fun _ H2=>muH N A H2) ⟨none,S,rfl,Fr.refl g A H,hG,hO,.refl S⟩ ?_ ?_
  ·rintro σ H2 ⟨v1,S2,rfl,f2,hG2,hO2,hst⟩
   obtain⟨dx,v,hg,hft⟩:=hG2.ob
   obtain⟨vs,hvs,hvp⟩:=hG2.wt
   refine⟨_,rfl,g,CG,dx,_,_,rfl,hg,T.c_Going,T.nG_waiting,a1U,_,.inl ⟨_,SqL.of hvs,rfl⟩,?_⟩
   cases hL:vs.getLast? with
   | none=>
    have hve:vs=[]:=List.getLast?_eq_none_iff.mp hL
    subst hve
    have hw0:S2.wt=[]:=List.length_eq_zero_iff.mp (by have:=AF hvp;simpa using this.symm)
    refine O7 ?_
    show if false=true then _ else _
    refine O7 ?_
    exact q S2 H2 f2 hG2 hst (.inl hw0)
   | some y=>
    obtain⟨us,hus⟩:=List.getLast?_eq_some_iff.mp hL
    have hne:vs≠[]:=by rw[hus];simp
    rw[b2I hne]
    refine a0I ?_
    refine⟨_,rfl,g,CG,dx,_,_,rfl,hg,T.c_Going,T.nG_fault,a5t,_,rfl,?_⟩
    cases hf:S2.ft with
    | some ff=>
     rw[hf]at hft
     obtain⟨tf,ev,_⟩:=hft
     subst ev
     refine b1d (by intro z;cases z) ?_
     exact q S2 H2 f2 hG2 hst (.inr (by rw[hf];intro z;cases z))
    | none=>
     rw[hf]at hft
     have ev:v= .non:=hft
     subst ev
     refine b0F rfl ?_
     have hlast:vs[vs.length - 1]?=some y:=by rw[<-List.getLast?_eq_getElem?,hL]
     have hdl:vs.dropLast=us:=by rw[hus,List.dropLast_concat]
     obtain⟨W,⟨p,j,rw⟩,hW,hWp,hy⟩:∃W x,S2.wt=W++[x]/\Paired (a6W H2) us W/\a6W H2 y x:=a3R (by rw[<-hus];exact hvp)
     obtain⟨t,wh,r,ey,ht,hwh,hra⟩:=hy
     subst ey
     refine⟨_,rfl,g,CG,dx,_,_,rfl,hg,T.c_Going,T.nG_waiting,a1U,.inl ⟨rfl,_,SqL.of hvs⟩,A.wt,_,_,rfl,rfl,hvs,hlast,?_⟩
     rw[hdl]
     obtain⟨f3,hG3⟩:=hG2.setWait hWp
     have T3:=hG2.tups f3
     have hmu:=b1I hG2
     generalize upd H2 A.wt (.lst us)=H3 at f3 hG3 T3⊢
     obtain⟨dx3,v3,hg3,_⟩:=hG3.ob
     obtain⟨rs,hm,hmr⟩:=hO2.wo (p,j,rw) (by rw[hW];simp)
     have hrk:=b3R (ns:=ns) hN hO2 hW
     have hlt:W.length+1=S2.wt.length:=by rw[hW,List.length_append];rfl
     have hgl:=hO2.gl
     have htl:=hO2.tl
     have hbl:=hO2.bl
     have hNl:=hN.len
     unfold muN at hgl htl
     refine⟨_,rfl,g,dx3,_,rfl,hg3,a9Q,_,rfl,t,_,_,_,rfl,rfl,SqT.of (T3 _ _ ht),rfl,_,rfl,t,_,_,_,rfl,rfl,SqT.of (T3 _ _ ht),rfl,_,rfl,t,_,_,_,rfl,rfl,SqT.of (T3 _ _ ht),rfl,?_⟩
     refine⟨g,wh,r,A,N,ns,_,p,j,rw,rfl,hG3,T3 _ _ hwh,hra.mono T3,hN.rk p rs hm rw hmr,hN.kd p rs hm rw hmr,fun b hb=>?_,by show S2.bg.length<=900;omega,by show S2.gv.length<=990;omega,by show S2.tr.length<=990;omega,fun H4 f4 hG4=>?_⟩
     ·obtain⟨⟨b',rs'⟩,h1,h2⟩:=AY.mp (hN.tg p rs hm rw hmr b hb)
      have h2':b'=b:=h2
      subst h2'
      have hr9:rs'.length<=900/\(b'∉S2.bg->W.length+rs'.length<=1000):=by
       refine⟨?_,fun hb=>?_⟩
       ·exact a8t hN h1
       ·have:=a2J hN.nd h1 hb
        omega
      exact⟨rs',h1,a1p hN.nd h1,hr9.1,hr9.2⟩
     ·refine⟨⟨_,_,rfl,(f2.trans f3).trans f4,hG4,hrk.1,hst.snoc hf hW⟩,?_⟩
      rw[b1I hG4,hmu]
      exact hrk.2
  ·rintro σ H2 Q1 Q2 hQ ⟨v,e,a,C,dx,fs,v',ex,h1,c1,n1,l1,b,hb,hq⟩
   refine⟨v,e,a,C,dx,fs,v',ex,h1,c1,n1,l1,b,hb,?_⟩
   cases b with
   | false=>exact O7 (hQ _ _ (by simpa using hq))
   | true=>
    have hq':=hq
    rw[if_pos rfl]at hq'
    obtain⟨v,e,a,C,dx,fs,v',ex,h1,c1,n1,l1,b,hb,hq2⟩:=hq'
    exact a0I ⟨v,e,a,C,dx,fs,v',ex,h1,c1,n1,l1,b,hb,hQ _ _ hq2⟩
noncomputable def b5M (CP CG:Addr):Sp:=fun vs H Q _=>∃(w n:Addr)(N:Nt)(ns:List Int)(root:Str),vs=[.ref w,.str root,.ref n]/\a0C CP H w N/\H n=some (.tup (ns.map V.int))/\a5H N/\root∈N.ps.map (·.1)/\
 ∀(p t:Addr)(vs:List V)(v:V)(S':GS)(H':Hp),J4 H H'->H' p=some (.tup [.ref t,v])->H' t=some (.tup vs)->Paired (a2M H') vs S'.tr->a5C H' v S'.ft->B6 N ns (a0B N s0 root) S'->(S'.wt=[]\/S'.ft≠none)->Q (.ref p) H'
theorem a5T{N:Nt}(hN:a5H N):a1Z N []<=900:=Nat.le_trans (a8m _ _) hN.tot
theorem b5m(T:Tc K mg CP CG):MCl P w K mg base 8 CP "go" ["self","root","numbers"] (b5M CP CG):=by
 have C_Going:=a9R (P:=P) (w:=w) (base:=base) T
 have C_load:=a6F (P:=P) (w:=w) (base:=base) T
 have C_loads_of:=a2u (P:=P) (w:=w) (base:=base) T
 have C_ahead_of:=a3Z (P:=P) (w:=w) (base:=base) T
 have C_begin:=a7v (P:=P) (w:=w) (base:=base) T
 have C_go_on:=b0S (P:=P) (w:=w) (base:=base) T
 refine MCl.of T.m_go a1P (fun vs H Q E h=>?_) (fun _ _ _ _ _ _ us hl=>len3 us hl (fun _ _ _=>rfl)) (fun fa cdv A outer s H vs Q E hr h=>?_)
 ·obtain⟨w,n,N,ns,root,rfl,_⟩:=h
  rfl
 ·obtain⟨w,n,N,ns,root,rfl,hw,hn,hN,hroot,q⟩:=h
  obtain⟨dw,rd,md,kvr,kvm,h1,h2,h3,h4,h5⟩:=hw.ex
  obtain⟨⟨root',rs⟩,hm,e⟩:=AY.mp hroot
  have e':root'=root:=e
  subst e'
  refine⟨_,(I0 (U1 (i:=3) a1P.nd rfl (Or.inl rfl) (a9b C_Going hr (by rfl) (G0 (pv 0) (G0 (pv 2) G8))))
   (I0 (Y0 (D0 C_load T.c_Going hr (pv 3) (G0 (D0 C_loads_of T.c_PartsWalk hr (pv 0) (G0 (pv 1) G8)) G8)))
   (I0 (Y0 (D0 C_load T.c_Going hr (pv 3) (G0 (D0 C_ahead_of T.c_PartsWalk hr (pv 0) (G0 (pv 1) G8)) G8)))
   (I0 (Y0 (D0 C_begin T.c_Going hr (pv 3) (G0 (pv 1) G8)))
   (I0 (Y0 (b0R C_go_on T.c_Going hr (pv 3)))
   (J1 (R3 (J5 (G0 (W8 U7 (by rfl) T.n_tuple boot_tuple (G0 (W3 (pv 3) rfl) G8)) (G0 (W3 (pv 3) rfl) G8)))))))))),?_⟩
  refine⟨_,rfl,_,rfl,fun g dx ng ndx ne=>?_⟩
  have sA:J4 H (upd (upd H dx (.own g)) g (.ins CG dx [])):=fun b o e=>by
   rw[J0 (J3 e ng),J0 (J3 e ndx)]
   exact e
  have hgA:upd (upd H dx (.own g)) g (.ins CG dx []) g=some (.ins CG dx []):=G7
  have hdA:upd (upd H dx (.own g)) g (.ins CG dx []) dx=some (.own g):=by rw[J0 ne,G7]
  generalize upd (upd H dx (.own g)) g (.ins CG dx [])=HA at sA hgA hdA⊢
  have hwA:a0C CP HA w N:=⟨dw,rd,md,kvr,kvm,sA _ _ h1,sA _ _ h2,sA _ _ h3,fun n rs hm=>by
   obtain⟨u,ws,e1,e2,e3⟩:=h4 n rs hm
   exact⟨u,ws,e1,sA _ _ e2,e3.mono sA.tups⟩,fun p x k hk=>by
   obtain⟨t,e1,e2⟩:=h5 p x k hk
   exact⟨t,e1,sA _ _ e2⟩⟩
  refine⟨g,w,n,dx,N,ns,rfl,hgA,hwA,J3 h1 ng,sA _ _ hn,fun A H1 kA fA hG1=>⟨rfl,?_⟩⟩
  obtain⟨fb,fl,fv,fw,ft⟩:=fA
  have s1:J4 H H1:=fun b o e=>kA b o (sA b o e) (J3 e ng)
  have nb:=sA.free fb
  have nl:=sA.free fl
  have nv:=sA.free fv
  have nw:=sA.free fw
  have nt':=sA.free ft
  have fr:∀{H':Hp},Fr g A H1 H'->J4 H H':=fun{H'}f b o e=>f b o (s1 b o e) (J3 e ng) (J3 e nb) (J3 e nl) (J3 e nv) (J3 e nw) (J3 e nt')
  obtain⟨dx1,v1,hg1,_⟩:=hG1.ob
  have hw1:=s1 _ _ h1
  refine⟨_,rfl,g,dx1,_,rfl,hg1,a3r,_,rfl,w,dw,_,rfl,hw1,a2h,_,rfl,w,root',N,rfl,Z3 hw s1,fun t2 H2 s2 ht2=>?_⟩
  refine⟨g,t2,rfl,ht2,?_⟩
  have hg2:=s2 _ _ hg1
  refine⟨_,rfl,g,dx1,_,rfl,hg2,a3r,_,rfl,w,dw,_,rfl,s2 _ _ hw1,a4g,_,rfl,w,root',N,rfl,Z3 hw (s1.trans s2),fun t3 H3 s3 ht3=>?_⟩
  refine⟨g,t3,rfl,ht3,?_⟩
  have s13:=s2.trans s3
  have hG3:=hG1.same s13
  have hg3:=s13 _ _ hg1
  refine⟨_,rfl,g,dx1,_,rfl,hg3,a3p,_,rfl,g,A,N,ns,s0,root',rs,rfl,hG3,hm,a1p hN.nd hm,a8t hN hm,(by have:=a8t hN hm;show 0+rs.length<=1000;omega),(by show 0<=900;decide),fun H4 f4 hG4=>?_⟩
  obtain⟨dx4,v4,hg4,_⟩:=hG4.ob
  have hl:=a2J (bg:=[]) hN.nd hm (by simp)
  have hO0:a5u N s0:=⟨fun x hx=>by simp[s0]at hx,by have:=a5T hN;show 0+(0+a1Z N [])<=990;omega,by have:=a5T hN;show 0+(0+a1Z N [])<=990;omega,Nat.zero_le _,List.nodup_nil,fun p hp=>by simp[s0]at hp⟩
  obtain⟨hO4,_⟩:=a7o hN hO0 hm (by simp[s0])
  refine⟨_,rfl,g,dx4,_,rfl,hg4,a7u,g,A,N,ns,_,rfl,hG4,hN,hO4,fun S' H5 f5 hG5 hst hend=>?_⟩
  obtain⟨dx5,v5,hg5,hft5⟩:=hG5.ob
  obtain⟨us,hus,hup⟩:=hG5.tr
  have f15:Fr g A H1 H5:=((s13.fr g A).trans f4).trans f5
  have s5:=fr f15
  refine⟨_,rfl,g,CG,dx5,_,_,rfl,hg5,T.c_Going,T.nG_trace,a2S,A.tr,_,rfl,.inl ⟨SqL.of hus,fun t gt=>?_⟩⟩
  have s6:J4 H5 (upd H5 t (.tup us)):=(J4.refl H5).new gt
  have ht6:upd H5 t (.tup us) t=some (.tup us):=G7
  generalize upd H5 t (.tup us)=H6 at s6 ht6⊢
  refine⟨_,rfl,g,CG,dx5,_,_,rfl,s6 _ _ hg5,T.c_Going,T.nG_fault,a5t,E1,fun p gp=>?_⟩
  have s7:J4 H5 (upd H6 p (.tup [.ref t,v5])):=s6.new gp
  exact q p t us v5 S' _ (s5.trans s7) G7 (J2 ht6 gp) (Paired.mapP hup fun _ _ z=>z.mono s7.tups) (hft5.mono s7.tups) hst hend
structure b5k(ps:List Pt)(N:Nt):Prop where
 eps:N.ps=ps
 mkd:∀x k,N.km x=some k->Mk (Y4 (R9 ps)) (B2 (R9 ps)) x k
theorem b5j(rd md:Addr):J8 "makers" (.ref md) (J8 "rows" (.ref rd) [])=wF rd md:=by kernel_rfl
theorem b3N{pls:List Pl}{x:Kk}{k:Str×Nat}(h:Mk (Y4 pls) (B2 pls) x k):x∈(Y4 pls).map (·.1)\/x∈(B2 pls).map (·.1):=by
 cases h with
 | base h=>exact .inl (AM (f:=(·.1)) h)
 | step h _=>exact .inr (AM (f:=(·.1)) h)
noncomputable def b0C (CP:Addr):Sp:=fun vs H Q _=>∃(w a dx:Addr)(ps:List Pt)(N:Nt),vs=[.ref w,.ref a]/\H w=some (.ins CP dx [])/\a1o H a ps/\a5j ps/\a0K (R9 ps)/\b5k ps N/\∀H',KpG w H H'->a0C CP H' w N->Q .non H'
theorem b0e(T:Tc K mg CP CG):ICl P w K mg base 5 "PartsWalk" CP ["self","parts"] (b0C CP):=by
 have C_makers:=b0c (P:=P) (w:=w) (base:=base) T.toTxt
 refine ICl.of T.i_PartsWalk T.g_PartsWalk a2a (fun vs H Q E h=>?_) (fun _ _ _ _ _ _ us hl=>len2 us hl (fun _ _=>rfl)) (fun fa cdv A outer s H vs Q E hr h=>?_)
 ·obtain⟨w,a,dx,ps,N,rfl,_⟩:=h
  rfl
 ·obtain⟨w,a,dx,ps,N,rfl,hw,hpf,hfit,hnet,hNt,q⟩:=h
  obtain⟨o,vs,ha,ho,hps⟩:=id hpf
  have hhi:=hfit.hi
  refine⟨_,(I0 (F0 (pv 0) (W8 (a7W rfl) (by rfl) T.n_dict boot_dict (G0 (pv 1) G8)) rfl)
   (J1 (F0 (pv 0) (W2 C_makers hr (by rfl) (G0 (pv 1) G8)) rfl))),?_⟩
  obtain⟨qs,g1,g2,g3⟩:=a4e (K:=K) hps
  have hql:qs.length=ps.length:=by
   have:=congrArg List.length g2
   simpa using this
  refine⟨_,rfl,a,o,vs,qs,rfl,ha,ho,g1,(by omega),fun rd grd=>?_⟩
  have nrd:w≠rd:=J3 hw grd
  refine⟨_,rfl,w,CP,dx,_,rfl,by rw[J0 nrd];exact hw,T.c_PartsWalk,T.nP_rows,(by show 0 < 1000;decide),?_⟩
  have k1:KpG w H (upd (upd H rd (.dK (a2E qs []))) w (.ins CP dx (J8 "rows" (.ref rd) []))):=((KpG.refl w H).new grd).self
  have hw1:upd (upd H rd (.dK (a2E qs []))) w (.ins CP dx (J8 "rows" (.ref rd) [])) w=some (.ins CP dx (J8 "rows" (.ref rd) [])):=G7
  have hr1:upd (upd H rd (.dK (a2E qs []))) w (.ins CP dx (J8 "rows" (.ref rd) [])) rd=some (.dK (a2E qs [])):=by rw[J0 nrd.symm,G7]
  generalize upd (upd H rd (.dK (a2E qs []))) w (.ins CP dx (J8 "rows" (.ref rd) []))=H1 at k1 hw1 hr1⊢
  have T1:U9 H H1:=fun b xs e=>k1 b _ e (E9 e hw (by intro z;cases z))
  have ha1:H1 a=some (.frz o (.tup vs)):=k1 _ _ ha (E9 ha hw (by intro z;cases z))
  have hpf1:a1o H1 a ps:=⟨o,vs,ha1,ho,Paired.mapP hps fun _ _ z=>z.mono T1⟩
  refine⟨_,rfl,a,ps,rfl,hpf1,hfit,hnet,fun md kvs H2 s2 hmd hFI hall=>?_⟩
  have hw2:=s2 _ _ hw1
  refine⟨_,rfl,w,CP,dx,_,rfl,hw2,T.c_PartsWalk,T.nP_makers,B7 (Y5 _ _ _ 0 (AD _)) (by decide),?_⟩
  rw[b5j]
  have nmd:md≠w:=E9 hmd hw2 (by intro z;cases z)
  have T3:U9 H (upd H2 w (.ins CP dx (wF rd md))):=(T1.trans s2.tups).trans fun b xs e=>by rw[J0 (E9 e hw2 (by intro z;cases z))];exact e
  refine q _ (fun b u e hb=>by rw[J0 hb];exact s2 _ _ (k1 b u e hb)) ⟨dx,rd,md,a2E qs [],kvs,G7,by rw[J0 nrd.symm];exact s2 _ _ hr1,by rw[J0 nmd];exact hmd,fun n rs hm=>?_,fun p x k hk=>?_⟩
  ·rw[hNt.eps]at hm
   obtain⟨u,ws,k1',k2,k3⟩:=g3 n rs hm
   refine⟨u,ws,a6a qs [] n (.ref u) (by rw[g2];exact hfit.nd) (.inl k1'),T3 _ _ k2,k3.mono T3⟩
  ·have hMk:=hNt.mkd (p,x) k hk
   have hsome:(Y7 kvs (Z0 (p,x))).isSome=true:=by
    rcases b3N hMk with z | z
    ·exact hFI.has _ z
    ·exact hall _ z
   cases ev:Y7 kvs (Z0 (p,x))with
   | none=>rw[ev]at hsome;cases hsome
   | some v=>
    obtain⟨t,k',e1,e2,e3⟩:=hFI.val _ _ ev
    have ek:=hnet.uniq e3 hMk
    subst ek
    subst e1
    refine⟨t,ev,?_⟩
    rw[J0 (E9 e2 hw2 (by intro z;cases z))]
    exact e2
noncomputable def b4f (K:W.Frag):Sp:=fun vs H Q _=>∃(a:Addr)(ns:List Int)(k:Int),vs=[.ref a,.int k]/\SqL K H a (ns.map V.int)/\0<=k/\∀c:Int,Q (.int c) H
theorem a9h(T:Txt K mg):L2.Cl P w K mg base 1 "_law_cell_at" ["_law_script","_law_k"] (b4f K):=by
 refine Cl.of T.d_law_cell_at a4I (fun vs H Q E h=>?_) (fun _ _ _ _ _ _ us hl=>len2 us hl (fun _ _=>rfl)) (fun f cdv A outer s H vs Q E hr h=>?_)
 ·obtain⟨a,ns,k,rfl,_⟩:=h
  rfl
 ·obtain⟨a,ns,k,rfl,hS,hk,q⟩:=h
  refine⟨_,(I0 (W1 (U0 b4y (pv 1) (Y1 O9 (by rfl) T.n_len PySem.boot_len (G0 (pv 0) G8)) (U8 _))
    (J1 (R3 (J7 W9 (pv 0) (pv 1) (fun _ _=>rfl)))) R8)
   (J1 (R3 G9))),?_⟩
  refine⟨_,rfl,_,rfl,a,_,rfl,.inl hS,_,_,rfl,rfl,_,rfl,?_⟩
  refine b0d (fun hlt=>?_) (fun hlt=>?_)
  ·have hlt':k < (ns.length:Int):=by simpa using hlt
   refine⟨_,rfl,_,rfl,a,_,_,_,rfl,rfl,hS,a6G V.int ns 0 hk hlt',?_⟩
   exact q _
  ·exact q 0
theorem a2g{X:Cx}:a0R X (.type "tuple") (fun xs H Q=>∃p ys,xs=[.ref p]/\SqL X.K H p ys/\∀l o,H l=none->o.dict=none->Q (.ref l) (upd H l (.frz o (.tup ys)))):=by
 intro pins s σ H xs us Q I r h
 obtain⟨p,ys,rfl,hq,q⟩:=h
 obtain⟨u,rfl,rx⟩:=a4f r
 cases rx
 obtain⟨its,r',pl,hz⟩:=I.list hq
 have hlen:=r'.length
 refine call_tuple_list pl.isList (fun h' kp=>?_) (by simp only[List.size_toArray]<;>omega)
 have I1:Inv X pins σ H {s with heap:=h'}:=I.kept (t':=s.toks) kp
 have I2:Inv X pins σ (upd H h'.objs.size (.frz {cls:= .type "tuple",data:= .seq its.toArray} (.tup ys))) {s with heap:=h'.push {cls:= .type "tuple",data:= .seq its.toArray}}:=
  I1.laid (t':=s.toks) (fun b o e=>AC _ e) (AD _) ⟨AG _ rfl,hz,its,r',⟨_,AG _ rfl,rfl,_,rfl⟩⟩
 exact⟨.ref h'.objs.size,_,I2,rfl,q _ _ (I1.hok.fresh (AD _)) rfl⟩
theorem a8d{N:Nt}{ns:List Int}{S S':GS}{W:List Wx}{p:Str}{j:Nat}{rw:Rw}(h:B6 N ns S S')(hend:S'.wt=[]\/S'.ft≠none)(hf:S.ft=none)(hw:S.wt=W++[(p,j,rw)]):B6 N ns (a4h N ns {S with wt:=W} p j rw) S':=by
 cases h with
 | refl=>
  rcases hend with z | z
  ·rw[hw]at z;simp at z
  ·exact absurd hf z
 | step a b c=>
  rw[hw]at b
  have:=List.append_inj' b rfl
  obtain⟨e1,e2⟩:=this
  have e3:=List.head_eq_of_cons_eq e2
  cases e3
  subst e1
  exact c
noncomputable def a1G (ps:List Pt) (bg:List Str):Nat:=(ps.filter fun x=>decide (x.1∉bg)).length
theorem b1r{bg:List Str}{p:Str}(hp:p∉bg):a2c bg p=bg++[p]:=by unfold a2c;rw[if_neg hp]
theorem a3U{ps:List Pt}{bg:List Str}{p:Str}(h:p∈ps.map (·.1))(hp:p∉bg):a1G ps (bg++[p])+1<=a1G ps bg:=by
 unfold a1G
 have sub:∀l:List Pt,(l.filter fun x=>decide (x.1∉bg++[p])).length<=(l.filter fun x=>decide (x.1∉bg)).length:=fun l=>by
  induction l with
  | nil=>exact AD _
  | cons a l ih=>
   rw[List.filter_cons,List.filter_cons]
   by_cases h1:a.1∈bg
   ·rw[if_neg (by simp[h1]),if_neg (by simp[h1])];exact ih
   ·rw[if_pos (c:=decide (a.1∉bg)=true) (by simp[h1])]
    split
    ·simp only[List.length_cons];omega
    ·simp only[List.length_cons];omega
 induction ps with
 | nil=>simp at h
 | cons a l ih=>
  rw[List.filter_cons,List.filter_cons]
  by_cases ha:a.1=p
  ·rw[if_neg (by simp[ha]),if_pos (by rw[ha];simp[hp])]
   have:=sub l
   simp only[List.length_cons];omega
  ·have hl:p∈l.map (·.1):=by
    rw[List.map_cons]at h
    rcases List.mem_cons.mp h with z | z
    ·exact absurd z.symm ha
    ·exact z
   have ih':=ih hl
   by_cases h1:a.1∈bg
   ·rw[if_neg (by simp[h1]),if_neg (by simp[h1])];exact ih'
   ·rw[if_pos (by simp[h1,ha]),if_pos (by simp[h1])]
    simp only[List.length_cons];omega
theorem a8v{ps:List Pt}{bg bg':List Str}(h:∀x∈bg,x∈bg'):a1G ps bg'<=a1G ps bg:=by
 unfold a1G
 induction ps with
 | nil=>exact AD _
 | cons a l ih=>
  rw[List.filter_cons,List.filter_cons]
  by_cases h1:a.1∈bg
  ·rw[if_neg (by simp[h _ h1]),if_neg (by simp[h1])];exact ih
  ·rw[if_pos (c:=decide (a.1∉bg)=true) (by simp[h1])]
   split
   ·simp only[List.length_cons];omega
   ·simp only[List.length_cons];omega
theorem a9N(ps:List Pt)(bg:List Str):a1G ps bg<=ps.length:=List.length_filter_le _ _
noncomputable def a4j:Rw->Option Str
 | .bring q _=>some q
 | .ask q _=>some q
 | _=>none
theorem b1L(N:Nt)(ns:List Int)(S:GS)(p:Str)(j:Nat)(rw:Rw):a3j N ns S p j rw=match a4j rw with | some q=>a1j N S q | none=>F9 N ns S p j rw:=by cases rw<;>rfl
noncomputable def W6 (N:Nt) (ns:List Int) (go:Str->GS->GS) (S:GS) (x:Wx):GS:=
 if S.ft≠none then S else if a1D N S.gv x.1 x.2.2=true then S else match F6 N S.gv x.1 x.2.2 with
  | some w=>{S with ft:=some ("early",x.1,x.2.1,w)}
  | none=>match a4j x.2.2 with
   | some q=>if q∈S.bg then S else go q S
   | none=>F9 N ns S x.1 x.2.1 x.2.2
noncomputable def O8 (N:Nt) (ns:List Int):Nat->Str->GS->GS
 | 0,_,S=>S
 | d+1,p,S=>(W5 p (a0z N p)).foldl (W6 N ns (O8 N ns d)) {S with bg:=S.bg++[p]}
section
variable{N:Nt}{ns:List Int}{go:Str->GS->GS}{S:GS}{x:Wx}
theorem a2U(h:S.ft≠none):W6 N ns go S x=S:=by unfold W6;rw[if_pos h]
theorem a2r(h:S.ft≠none):∀xs:List Wx,xs.foldl (W6 N ns go) S=S
 | []=>rfl
 | x::xs=>by rw[List.foldl_cons,a2U h];exact a2r h xs
theorem a1M(h:S.ft=none)(ho:a1D N S.gv x.1 x.2.2=true):W6 N ns go S x=S:=by unfold W6;rw[if_neg (by simp[h]),if_pos ho]
theorem a1u{w:Int}(h:S.ft=none)(ho:a1D N S.gv x.1 x.2.2=false)(he:F6 N S.gv x.1 x.2.2=some w):W6 N ns go S x={S with ft:=some ("early",x.1,x.2.1,w)}:=by unfold W6;rw[if_neg (by simp[h]),if_neg (by simp[ho]),he]
theorem a0Z{q:Str}(h:S.ft=none)(ho:a1D N S.gv x.1 x.2.2=false)(he:F6 N S.gv x.1 x.2.2=none)(hq:a4j x.2.2=some q):W6 N ns go S x=if q∈S.bg then S else go q S:=by unfold W6;rw[if_neg (by simp[h]),if_neg (by simp[ho]),he,hq]
theorem D5(h:S.ft=none)(ho:a1D N S.gv x.1 x.2.2=false)(he:F6 N S.gv x.1 x.2.2=none)(hq:a4j x.2.2=none):W6 N ns go S x=F9 N ns S x.1 x.2.1 x.2.2:=by unfold W6;rw[if_neg (by simp[h]),if_neg (by simp[ho]),he,hq]
theorem a7n(W:List Wx)(p:Str)(j:Nat)(rw:Rw):F9 N ns {S with wt:=W} p j rw={F9 N ns S p j rw with wt:=W}:=by
 cases rw with
 | set o ts=>simp only[F9];split<;>rfl
 | take o=>simp only[F9];split<;>rfl
 | need ts=>simp only[F9];split<;>rfl
 | _=>rfl
theorem a7E(p:Str)(j:Nat)(rw:Rw):(F9 N ns S p j rw).bg=S.bg:=by
 cases rw with
 | set o ts=>simp only[F9];split<;>rfl
 | take o=>simp only[F9];split<;>rfl
 | need ts=>simp only[F9];split<;>rfl
 | _=>rfl
theorem b1J(hgo:∀q S W,go q {S with wt:=W}={go q S with wt:=W})(W:List Wx):W6 N ns go {S with wt:=W} x={W6 N ns go S x with wt:=W}:=by
 by_cases h:S.ft=none
 ·cases ho:a1D N S.gv x.1 x.2.2 with
  | true=>rw[a1M (S:={S with wt:=W}) h ho,a1M h ho]
  | false=>
   cases he:F6 N S.gv x.1 x.2.2 with
   | some w=>rw[a1u (S:={S with wt:=W}) h ho he,a1u h ho he]
   | none=>
    cases hq:a4j x.2.2 with
    | some q=>
     rw[a0Z (S:={S with wt:=W}) h ho he hq,a0Z h ho he hq]
     by_cases hb:q∈S.bg
     ·rw[if_pos hb,if_pos hb]
     ·rw[if_neg hb,if_neg hb,hgo]
    | none=>rw[D5 (S:={S with wt:=W}) h ho he hq,D5 h ho he hq,a7n]
 ·rw[a2U (S:={S with wt:=W}) h,a2U h]
theorem a1m(hgo:∀q S W,go q {S with wt:=W}={go q S with wt:=W})(W:List Wx):∀(xs:List Wx)(S:GS),xs.foldl (W6 N ns go) {S with wt:=W}={xs.foldl (W6 N ns go) S with wt:=W}
 | [],S=>rfl
 | x::xs,S=>by rw[List.foldl_cons,List.foldl_cons,b1J hgo,a1m hgo W xs]
theorem b0D(hgo:∀q S,∀y∈S.bg,y∈(go q S).bg):∀y∈S.bg,y∈(W6 N ns go S x).bg:=by
 intro y hy
 by_cases h:S.ft=none
 ·cases ho:a1D N S.gv x.1 x.2.2 with
  | true=>rw[a1M h ho];exact hy
  | false=>
   cases he:F6 N S.gv x.1 x.2.2 with
   | some w=>rw[a1u h ho he];exact hy
   | none=>
    cases hq:a4j x.2.2 with
    | some q=>
     rw[a0Z h ho he hq]
     split
     ·exact hy
     ·exact hgo q S y hy
    | none=>rw[D5 h ho he hq,a7E];exact hy
 ·rw[a2U h];exact hy
theorem a7H(hgo:∀q S,∀y∈S.bg,y∈(go q S).bg):∀(xs:List Wx)(S:GS),∀y∈S.bg,y∈(xs.foldl (W6 N ns go) S).bg
 | [],S,y,hy=>hy
 | x::xs,S,y,hy=>by rw[List.foldl_cons];exact a7H hgo xs _ y (b0D hgo y hy)
end
theorem a6B(N:Nt)(ns:List Int):∀(d:Nat)(q:Str)(S:GS)(W:List Wx),O8 N ns d q {S with wt:=W}={O8 N ns d q S with wt:=W}
 | 0,_,_,_=>rfl
 | d+1,q,S,W=>a1m (a6B N ns d) W (W5 q (a0z N q)) {S with bg:=S.bg++[q]}
theorem a9p(N:Nt)(ns:List Int):∀(d:Nat)(q:Str)(S:GS),∀y∈S.bg,y∈(O8 N ns d q S).bg
 | 0,_,_,_,h=>h
 | d+1,q,S,y,h=>a7H (a9p N ns d) (W5 q (a0z N q)) {S with bg:=S.bg++[q]} y (List.mem_append_left _ h)
noncomputable def Out (N:Nt) (ns:List Int) (W:List Wx) (R S':GS):Prop:=(R.ft=none/\B6 N ns {R with wt:=W} S')\/(R.ft≠none/\S'.tr=R.tr/\S'.ft=R.ft)
theorem Out.wt{N:Nt}{ns:List Int}{W V:List Wx}{R S':GS}(h:Out N ns W {R with wt:=V} S'):Out N ns W R S':=h
theorem a4w{N:Nt}{ns:List Int}{S S':GS}(h:B6 N ns S S')(hf:S.ft≠none):S'=S:=by
 cases h with
 | refl=>rfl
 | step a b c=>exact absurd a hf
theorem a1I{N:Nt}{ns:List Int}{d:Nat}
  (ih:∀(q:Str)(S S':GS),q∈N.ps.map (·.1)->q∉S.bg->S.ft=none->a1G N.ps S.bg<=d->B6 N ns (a0B N S q) S'->(S'.wt=[]\/S'.ft≠none)->Out N ns S.wt (O8 N ns d q S) S'):
  ∀(xs:List Wx)(S S':GS)(W:List Wx),(∀x∈xs,∀q,a4j x.2.2=some q->q∈N.ps.map (·.1))->S.ft=none->S.wt=W++xs.reverse->a1G N.ps S.bg<=d->B6 N ns S S'->(S'.wt=[]\/S'.ft≠none)->Out N ns W (xs.foldl (W6 N ns (O8 N ns d)) S) S'
 | [],S,S',W,_,hf,hw,_,hst,_=>by
  have e:{S with wt:=W}=S:=by
   have:S.wt=W:=by rw[hw];simp
   rw[<-this]
  exact .inl ⟨hf,by rw[List.foldl_nil,e];exact hst⟩
 | (p,j,r)::xs,S,S',W,hx,hf,hw,hd,hst,hend=>by
  have hw':S.wt=(W++xs.reverse)++[(p,j,r)]:=by rw[hw,List.reverse_cons,List.append_assoc]
  have hnx:=a8d hst hend hf hw'
  have hxs:∀x∈xs,∀q,a4j x.2.2=some q->q∈N.ps.map (·.1):=fun x h=>hx x (by simp[h])
  rw[List.foldl_cons]
  have wtg:=a6B N ns d
  cases ho:a1D N S.gv p r with
  | true=>
   rw[a4W (S:={S with wt:=W++xs.reverse}) ho]at hnx
   rw[a1M hf ho]
   have:=a1I ih xs {S with wt:=W++xs.reverse} S' W hxs hf rfl hd hnx hend
   rw[a1m wtg]at this
   exact this.wt
  | false=>
   cases he:F6 N S.gv p r with
   | some w=>
    rw[a2I (S:={S with wt:=W++xs.reverse}) ho he]at hnx
    rw[a1u hf ho he,a2r (by simp)]
    have e:=a4w hnx (by simp)
    exact .inr ⟨by simp,by rw[e],by rw[e]⟩
   | none=>
    rw[a3N (S:={S with wt:=W++xs.reverse}) ho he,b1L]at hnx
    cases hq:a4j r with
    | some q=>
     rw[hq]at hnx
     have hqn:=hx (p,j,r) (by simp) q hq
     rw[a0Z hf ho he hq]
     have hnx':B6 N ns (a1j N {S with wt:=W++xs.reverse} q) S':=hnx
     unfold a1j at hnx'
     by_cases hb:q∈S.bg
     ·rw[if_pos hb]at hnx'⊢
      have:=a1I ih xs {S with wt:=W++xs.reverse} S' W hxs hf rfl hd hnx' hend
      rw[a1m wtg]at this
      exact this.wt
     ·rw[if_neg hb]at hnx'⊢
      have h1:=ih q {S with wt:=W++xs.reverse} S' hqn hb hf hd hnx' hend
      rw[wtg]at h1
      rcases h1 with⟨k1,k2⟩ | ⟨k1,k2,k3⟩
      ·have hm:a1G N.ps (O8 N ns d q S).bg<=d:=Nat.le_trans (a8v (a9p N ns d q S)) hd
       have:=a1I ih xs {O8 N ns d q S with wt:=W++xs.reverse} S' W hxs k1 rfl hm k2 hend
       rw[a1m wtg]at this
       exact this.wt
      ·have k1':(O8 N ns d q S).ft≠none:=k1
       rw[a2r k1']
       exact .inr ⟨k1',k2,k3⟩
    | none=>
     rw[hq]at hnx
     have hnx':B6 N ns (F9 N ns {S with wt:=W++xs.reverse} p j r) S':=hnx
     rw[a7n]at hnx'
     rw[D5 hf ho he hq]
     by_cases hw2:(F9 N ns S p j r).ft=none
     ·have hm:a1G N.ps (F9 N ns S p j r).bg<=d:=by rw[a7E];exact hd
      have:=a1I ih xs {F9 N ns S p j r with wt:=W++xs.reverse} S' W hxs hw2 rfl hm hnx' hend
      rw[a1m wtg]at this
      exact this.wt
     ·have e:=a4w hnx' hw2
      rw[a2r hw2]
      exact .inr ⟨hw2,by rw[e],by rw[e]⟩
theorem b2k{N:Nt}(hN:a5H N){p:Str}(hp:p∈N.ps.map (·.1)):∀x∈W5 p (a0z N p),∀q,a4j x.2.2=some q->q∈N.ps.map (·.1):=by
 obtain⟨⟨p',rs⟩,h1,h2⟩:=AY.mp hp
 have h2':p'=p:=h2
 subst h2'
 rw[a1p hN.nd h1]
 intro x hx q hq
 unfold W5 at hx
 obtain⟨i,hi,ei⟩:=List.mem_mapIdx.mp hx
 rw[<-ei]at hq
 have hq':a4j rs[i]=some q:=hq
 refine hN.tg p' rs h1 rs[i] (List.getElem_mem hi) q ?_
 cases h:rs[i]with
 | bring b l=>rw[h]at hq';cases hq';exact .inl ⟨l,rfl⟩
 | ask b w=>rw[h]at hq';cases hq';exact .inr ⟨w,rfl⟩
 | _=>rw[h]at hq';cases hq'
theorem a4Q{N:Nt}{ns:List Int}(hN:a5H N):∀(d:Nat)(q:Str)(S S':GS),q∈N.ps.map (·.1)->q∉S.bg->S.ft=none->a1G N.ps S.bg<=d->B6 N ns (a0B N S q) S'->(S'.wt=[]\/S'.ft≠none)->Out N ns S.wt (O8 N ns d q S) S'
 | 0,q,S,S',hq,hn,_,hd,_,_=>by
  have:=a3U hq hn
  omega
 | d+1,q,S,S',hq,hn,hf,hd,hst,hend=>by
  have hl:=a3U hq hn
  have hb:a0B N S q={{S with bg:=S.bg++[q]}with wt:=S.wt++(W5 q (a0z N q)).reverse}:=by
   unfold a0B
   rw[b1r hn]
  rw[hb]at hst
  have:=a1I (a4Q hN d) (W5 q (a0z N q)) {{S with bg:=S.bg++[q]}with wt:=S.wt++(W5 q (a0z N q)).reverse} S' S.wt (b2k hN hq) hf rfl (by show a1G N.ps (S.bg++[q])<=d;omega) hst hend
  rw[a1m (a6B N ns d)]at this
  exact this.wt
theorem b5O{N:Nt}{ns:List Int}(hN:a5H N){root:Str}(hr:root∈N.ps.map (·.1)){S':GS}(hst:B6 N ns (a0B N s0 root) S')(hend:S'.wt=[]\/S'.ft≠none):S'.tr=(O8 N ns 24 root s0).tr/\S'.ft=(O8 N ns 24 root s0).ft:=by
 rcases a4Q hN 24 root s0 S' hr (by simp[s0]) rfl (Nat.le_trans (a9N _ _) hN.len) hst hend with⟨k1,k2⟩ | ⟨_,k2,k3⟩
 ·have e:S'={O8 N ns 24 root s0 with wt:=s0.wt}:=by
   cases k2 with
   | refl=>rfl
   | step a b c=>simp[s0]at b
  rw[e]
  exact⟨rfl,rfl⟩
 ·exact⟨k2,k3⟩
structure D6 where
 n0:Str
 n1:Str
 n2:Str
 own:Str
 there:Str
 given:Str
 sw:Bool
 ms:List Int
structure a5E(D:D6):Prop where
 h01:D.n0≠D.n1
 h02:D.n0≠D.n2
 h12:D.n1≠D.n2
 few:D.ms.length<=40
 nn:∀m∈D.ms,0<=m/\m < 10 ^ 60
noncomputable def a0N (m:Int):Rw:= .say [(1,.num m)] none
noncomputable def a0s (D:D6) (f:Bool):List Rw:= .bring D.n1 [(D.given,D.own)]:: .say [(1,.nam D.own),(1,.num 4)] none:: .need [(1,.nam D.own),(1,.num 2)]::((if f=true then [.ask D.n2 (some D.own)]else [])++[.say [(1,.nam D.own)] none])
noncomputable def a1A (D:D6):List Rw:=if D.sw=true then [a0N 8,.take D.there,.give D.there D.given]else [.take D.there,a0N 8,.give D.there D.given]
noncomputable def at6 (D:D6):Nat:=if D.sw=true then 1 else 0
noncomputable def a0d (D:D6):List Rw:=D.ms.map a0N
noncomputable def ps6 (D:D6) (f:Bool):List Pt:=(D.n0,a0s D f)::(D.n1,a1A D)::(if f=true then [(D.n2,a0d D)]else [])
noncomputable def U4 (D:D6) (f:Bool):Nt:=⟨ps6 D f,fun x=>if x=(D.n0,D.own)\/x=(D.n1,D.there)then some (D.n1,at6 D)else none⟩
theorem b1z(ps:List Pt):Y4 (R9 ps)=ps.flatMap fun pt=>Y4 (E2 pt.1 pt.2):=by unfold Y4 R9;rw[List.filterMap_flatMap]
theorem b0V(ps:List Pt):O3 (R9 ps)=ps.flatMap fun pt=>O3 (E2 pt.1 pt.2):=by unfold O3 R9;rw[List.filterMap_flatMap]
theorem b0J(ps:List Pt):Y8 (R9 ps)=ps.flatMap fun pt=>Y8 (E2 pt.1 pt.2):=by unfold Y8 R9;rw[List.flatMap_assoc]
theorem a4O{n:Str}{rs:List Rw}{x:Pl}(h:x∈E2 n rs):x.2.2∈rs:=by
 unfold E2 at h
 obtain⟨y,hy,e2⟩:=AY.mp h
 rw[<-e2]
 obtain⟨a1,a2,a3⟩:=List.mem_zipIdx (x:=y.1) (i:=y.2) (k:=0) (by simpa using hy)
 exact a3▸List.getElem_mem _
theorem a2O(D:D6)(n:Str):Y4 (E2 n (a0d D))=[]/\O3 (E2 n (a0d D))=[]/\Y8 (E2 n (a0d D))=[]:=by
 have key:∀x∈E2 n (a0d D),∃m,x.2.2=a0N m:=fun x hx=>by
  obtain⟨m,_,e⟩:=AY.mp (a4O hx)
  exact⟨m,e.symm⟩
 refine⟨?_,?_,?_⟩
 ·unfold Y4
  rw[List.filterMap_eq_nil_iff]
  intro x hx
  obtain⟨m,e⟩:=key x hx
  rw[e];rfl
 ·unfold O3
  rw[List.filterMap_eq_nil_iff]
  intro x hx
  obtain⟨m,e⟩:=key x hx
  rw[e];rfl
 ·unfold Y8
  rw[List.flatMap_eq_nil_iff]
  intro x hx
  obtain⟨m,e⟩:=key x hx
  rw[e];rfl
theorem ml6(D:D6)(f:Bool):Y4 (R9 (ps6 D f))=[((D.n1,D.there),(D.n1,at6 D))]:=by
 rw[b1z]
 unfold ps6
 simp only[List.flatMap_cons]
 have h0:Y4 (E2 D.n0 (a0s D f))=[]:=by unfold a0s;cases f<;>rfl
 have h1:Y4 (E2 D.n1 (a1A D))=[((D.n1,D.there),(D.n1,at6 D))]:=by
  unfold a1A at6
  cases D.sw<;>rfl
 rw[h0,h1]
 cases f with
 | true=>simp[(a2O D D.n2).1]
 | false=>rfl
theorem gl6(D:D6)(f:Bool):O3 (R9 (ps6 D f))=[((D.n1,D.given),D.there)]:=by
 rw[b0V]
 unfold ps6
 simp only[List.flatMap_cons]
 have h0:O3 (E2 D.n0 (a0s D f))=[]:=by unfold a0s;cases f<;>rfl
 have h1:O3 (E2 D.n1 (a1A D))=[((D.n1,D.given),D.there)]:=by
  unfold a1A
  cases D.sw<;>rfl
 rw[h0,h1]
 cases f with
 | true=>simp[(a2O D D.n2).2.1]
 | false=>rfl
theorem bl6(D:D6)(f:Bool):Y8 (R9 (ps6 D f))=[((D.n0,D.own),(D.n1,D.given))]:=by
 rw[b0J]
 unfold ps6
 simp only[List.flatMap_cons]
 have h0:Y8 (E2 D.n0 (a0s D f))=[((D.n0,D.own),(D.n1,D.given))]:=by unfold a0s;cases f<;>rfl
 have h1:Y8 (E2 D.n1 (a1A D))=[]:=by
  unfold a1A
  cases D.sw<;>rfl
 rw[h0,h1]
 cases f with
 | true=>simp[(a2O D D.n2).2.2]
 | false=>rfl
theorem a3c(D:D6)(f:Bool):(a0s D f).length=if f=true then 5 else 4:=by unfold a0s;cases f<;>rfl
theorem a6O(D:D6):(a1A D).length=3:=by unfold a1A;cases D.sw<;>rfl
theorem a3A(D:D6):(a0d D).length=D.ms.length:=by unfold a0d;rw[AI]
theorem a2Q{D:D6}(h:a5E D)(f:Bool):a5j (ps6 D f):=by
 have hf:=h.few
 refine⟨?_,?_,fun pt hpt=>?_⟩
 ·unfold ps6
  cases f with
  | true=>simp[h.h01,h.h02,h.h12]
  | false=>simp[h.h01]
 ·unfold ps6
  cases f<;>simp
 ·unfold ps6 at hpt
  rcases List.mem_cons.mp hpt with z | hpt
  ·rw[z];show(a0s D f).length<=40;rw[a3c];cases f<;>simp
  rcases List.mem_cons.mp hpt with z | hpt
  ·rw[z];show(a1A D).length<=40;rw[a6O];decide
  cases f with
  | true=>
   have z:pt=(D.n2,a0d D):=by simpa using hpt
   rw[z];show(a0d D).length<=40;rw[a3A];omega
  | false=>simp at hpt
theorem b3u{D:D6}{f:Bool}{p:Str}{rs:List Rw}(hm:(p,rs)∈ps6 D f):(p=D.n0/\rs=a0s D f)\/(p=D.n1/\rs=a1A D)\/(f=true/\p=D.n2/\rs=a0d D):=by
 unfold ps6 at hm
 rcases List.mem_cons.mp hm with z | hm
 ·cases z;exact .inl ⟨rfl,rfl⟩
 rcases List.mem_cons.mp hm with z | hm
 ·cases z;exact .inr (.inl ⟨rfl,rfl⟩)
 cases f with
 | true=>
  have z:(p,rs)=(D.n2,a0d D):=by simpa using hm
  cases z;exact .inr (.inr ⟨rfl,rfl,rfl⟩)
 | false=>simp at hm
theorem a8P{D:D6}{f:Bool}{P:Rw->Prop}(h1:P (.bring D.n1 [(D.given,D.own)]))(h2:P (.say [(1,.nam D.own),(1,.num 4)] none))(h3:P (.need [(1,.nam D.own),(1,.num 2)]))(h4:f=true->P (.ask D.n2 (some D.own)))(h5:P (.say [(1,.nam D.own)] none)):∀r∈a0s D f,P r:=by
 intro r hr
 unfold a0s at hr
 rcases List.mem_cons.mp hr with z | hr
 ·rw[z];exact h1
 rcases List.mem_cons.mp hr with z | hr
 ·rw[z];exact h2
 rcases List.mem_cons.mp hr with z | hr
 ·rw[z];exact h3
 rcases List.mem_append.mp hr with z | z
 ·cases f with
  | true=>rw[AH.mp z];exact h4 rfl
  | false=>simp at z
 ·rw[AH.mp z];exact h5
theorem a8J{D:D6}{P:Rw->Prop}(h1:P (a0N 8))(h2:P (.take D.there))(h3:P (.give D.there D.given)):∀r∈a1A D,P r:=by
 intro r hr
 unfold a1A at hr
 split at hr
 ·simp only[List.mem_cons,List.not_mem_nil,or_false]at hr
  rcases hr with z | z | z<;>rw[z]<;>assumption
 ·simp only[List.mem_cons,List.not_mem_nil,or_false]at hr
  rcases hr with z | z | z<;>rw[z]<;>assumption
theorem a9o{D:D6}(h:a5E D)(f:Bool):a0K (R9 (ps6 D f)):=by
 have hf:=a2Q h f
 refine⟨?_,?_,?_,?_,⟨fun x=>if x.1=D.n0 then 1 else 0,?_⟩,?_,?_⟩
 ·rw[ml6,bl6]
  have:=h.h01
  have h2:¬D.n1=D.n0:=fun z=>this z.symm
  simp[h2]
 ·rw[gl6];simp
 ·rw[bl6,gl6]
  intro x hx
  rw[AH.mp hx]
  exact⟨D.there,by simp⟩
 ·rw[ml6,bl6,gl6]
  intro y hy
  rw[AH.mp hy]
  simp
 ·intro x hx
  unfold B2 at hx
  rw[bl6,gl6]at hx
  have:=AH.mp hx
  rw[this]
  show(if D.n1=D.n0 then 1 else 0) < (if D.n0=D.n0 then 1 else 0)
  rw[if_neg (fun z=>h.h01 z.symm),if_pos rfl]
  decide
 ·have:=a3B hf.rows
  have:=hf.hi
  omega
 ·intro x hx
  unfold R9 at hx
  obtain⟨⟨p,rs⟩,h1,h2⟩:=List.mem_flatMap.mp hx
  have h3:=a4O h2
  generalize x.2.2=r at h3
  rcases b3u h1 with⟨_,e⟩ | ⟨_,e⟩ | ⟨_,_,e⟩<;>rw[show rs=_ from e]at h3
  ·exact a8P (P:=fun r=>(a1w r).length<=6) (by show 1<=6;decide) (by show 0<=6;decide) (by show 0<=6;decide) (fun _=>by show 0<=6;decide) (by show 0<=6;decide) r h3
  ·exact a8J (P:=fun r=>(a1w r).length<=6) (by show 0<=6;decide) (by show 0<=6;decide) (by show 0<=6;decide) r h3
  ·obtain⟨m,_,e⟩:=AY.mp h3
   rw[<-e]
   show 0<=6;decide
theorem a4z(D:D6)(f:Bool):(U4 D f).km (D.n0,D.own)=some (D.n1,at6 D):=if_pos (.inl rfl)
theorem a5p(D:D6)(f:Bool):(U4 D f).km (D.n1,D.there)=some (D.n1,at6 D):=if_pos (.inr rfl)
theorem a8F(D:D6)(f:Bool):b5k (ps6 D f) (U4 D f):=by
 refine⟨rfl,fun x k e=>?_⟩
 have e':(if x=(D.n0,D.own)\/x=(D.n1,D.there)then some (D.n1,at6 D)else none)=some k:=e
 have hb:Mk (Y4 (R9 (ps6 D f))) (B2 (R9 (ps6 D f))) (D.n1,D.there) (D.n1,at6 D):= .base (by rw[ml6];simp)
 split at e'
 ·rename_i hx
  cases e'
  rcases hx with z | z
  ·rw[z]
   refine .step (k':=(D.n1,D.there)) ?_ hb
   unfold B2
   rw[bl6,gl6]
   refine AH.mpr ?_
   show _=((D.n0,D.own),(D.n1,a6S [((D.n1,D.given),D.there)] (D.n1,D.given)))
   rw[a4s (by simp) (AH.mpr rfl)]
  ·rw[z];exact hb
 ·cases e'
theorem a8A{N:Nt}{p x:Str}{ts:List (Int×Th)}(h:(N.km (p,x)).isSome=true)(hs:∀d∈ts,d=(1,.num 4)\/d=(1,.num 2)):a5w N p (.say ((1,.nam x)::ts) none)/\a5w N p (.need ((1,.nam x)::ts)):=by
 have nm:∀(k:Int)(ts:List (Int×Th)),(∀d∈ts,d=(1,.num 4)\/d=(1,.num 2))->∀d∈U2 k ts,False:=by
  intro k ts
  induction ts generalizing k with
  | nil=>intro _ d hd;cases hd
  | cons a r ih=>
   intro h d hd
   rcases h a (by simp)with e | e<;>(rw[e]at hd;exact ih _ (fun d hd=>h d (by simp[hd])) d hd)
 have rd:∀d∈U2 1 ((1,.nam x)::ts),d=(1,x):=fun d hd=>by
  have hd':d∈(1,x)::U2 (1+2) ts:=hd
  rcases List.mem_cons.mp hd' with z | z
  ·exact z
  ·exact(nm _ ts hs d z).elim
 have sg:∀d∈((1,Th.nam x)::ts:List (Int×Th)),d.1=1\/d.1= -1:=fun d hd=>by
  rcases List.mem_cons.mp hd with z | z
  ·rw[z];exact .inl rfl
  ·rcases hs d z with e | e<;>(rw[e];exact .inl rfl)
 have nn:∀d∈((1,Th.nam x)::ts:List (Int×Th)),∀y,d.2= .nam y->∃e∈U2 1 ((1,.nam x)::ts),e.2=y:=fun d hd y e=>by
  rcases List.mem_cons.mp hd with z | z
  ·rw[z]at e;cases e;exact⟨(1,x),AL ..,rfl⟩
  ·rcases hs d z with e2 | e2<;>(rw[e2]at e;cases e)
 exact⟨⟨fun d hd=>by rw[rd d hd];exact h,fun o ho=>(by cases ho),sg,nn⟩,⟨fun d hd=>by rw[rd d hd];exact h,fun o ho=>(by cases ho),sg,nn⟩⟩
theorem b1K{N:Nt}{p:Str}{m:Int}:a5w N p (a0N m):=by
 refine⟨fun d hd=>(by cases hd),fun o ho=>(by cases ho),fun d hd=>?_,fun d hd y e=>?_⟩
 ·have hd':d∈[((1:Int),Th.num m)]:=hd
  rw[AH.mp hd'];exact .inl rfl
 ·have hd':d∈[((1:Int),Th.num m)]:=hd
  rw[AH.mp hd']at e;cases e
theorem b1G{N:Nt}{p:Str}{rw:Rw}(h1:rdR rw=[])(h2:b4A rw=none)(h3:sgR rw=[]):a5w N p rw:=⟨fun d hd=>(by rw[h1]at hd;cases hd),fun o ho=>(by rw[h2]at ho;cases ho),fun d hd=>(by rw[h3]at hd;cases hd),fun d hd=>(by rw[h3]at hd;cases hd)⟩
theorem a3l{D:D6}(h:a5E D)(f:Bool):a5H (U4 D f):=by
 have hf:=a2Q h f
 have k0:((U4 D f).km (D.n0,D.own)).isSome=true:=by rw[a4z];rfl
 have k1:((U4 D f).km (D.n1,D.there)).isSome=true:=by rw[a5p];rfl
 have m1:D.n1∈(U4 D f).ps.map (·.1):=by show D.n1∈(ps6 D f).map (·.1);unfold ps6;simp
 have m2:f=true->D.n2∈(U4 D f).ps.map (·.1):=fun e=>by subst e;show D.n2∈(ps6 D true).map (·.1);unfold ps6;simp
 have nb:∀{r:Rw},a4j r=none->∀q,(∃ps,r= .bring q ps)\/(∃wh,r= .ask q wh)->q∈(U4 D f).ps.map (·.1):=by
  intro r he q hq
  rcases hq with⟨_,z⟩ | ⟨_,z⟩<;>(rw[z]at he;cases he)
 have row:∀p rs,(p,rs)∈ps6 D f->∀r∈rs,a5w (U4 D f) p r/\(∀q,(∃ps,r= .bring q ps)\/(∃wh,r= .ask q wh)->q∈(U4 D f).ps.map (·.1))/\a4L r=true:=by
  intro p rs hm
  rcases b3u hm with⟨rfl,rfl⟩ | ⟨rfl,rfl⟩ | ⟨ef,rfl,rfl⟩
  ·refine a8P ⟨b1G rfl rfl rfl,fun q hq=>?_,rfl⟩ ⟨(a8A k0 fun d hd=> .inl (AH.mp hd)).1,nb rfl,rfl⟩ ⟨(a8A k0 fun d hd=> .inr (AH.mp hd)).2,nb rfl,rfl⟩ (fun ef=>⟨?_,fun q hq=>?_,rfl⟩) ⟨(a8A k0 fun d hd=>by cases hd).1,nb rfl,rfl⟩
   ·rcases hq with⟨_,z⟩ | ⟨_,z⟩<;>cases z
    exact m1
   ·refine⟨fun d hd=>?_,fun o ho=>(by cases ho),fun d hd=>(by cases hd),fun d hd=>(by cases hd)⟩
    have hd':d∈[((3:Int),D.own)]:=hd
    rw[AH.mp hd'];exact k0
   ·rcases hq with⟨_,z⟩ | ⟨_,z⟩<;>cases z
    exact m2 ef
  ·refine a8J ⟨b1K,nb rfl,rfl⟩ ⟨⟨fun d hd=>(by cases hd),fun o ho=>(by cases ho;exact k1),fun d hd=>(by cases hd),fun d hd=>(by cases hd)⟩,nb rfl,rfl⟩ ⟨b1G rfl rfl rfl,nb rfl,rfl⟩
  ·intro r hr
   obtain⟨m,_,e⟩:=AY.mp hr
   rw[<-e]
   exact⟨b1K,nb rfl,rfl⟩
 refine⟨hf.nd,fun p rs hm r hr=>(row p rs hm r hr).1,fun p rs hm r hr q hq=>(row p rs hm r hr).2.1 q hq,fun p rs hm r hr=>(row p rs hm r hr).2.2,?_,hf.hi⟩
 show((ps6 D f).map fun x=>x.2.length).sum<=900
 have:=h.few
 unfold ps6
 cases f with
 | true=>simp[a3c,a6O,a3A];omega
 | false=>simp[a3c,a6O]
noncomputable def a3Q (D:D6):List Dd:=D.ms.mapIdx fun i m=>(("say":Str),m,D.n2,i)
noncomputable def B5 (D:D6) (v:Int):List Dd:=if D.sw=true then [(("say":Str),8,D.n1,0),(("take":Str),v,D.n1,1)]else [(("take":Str),v,D.n1,0),(("say":Str),8,D.n1,1)]
noncomputable def a2k (D:D6) (f:Bool):List Dd:=if f=true then a3Q D else []
noncomputable def b0m (D:D6) (f:Bool) (root:Nat) (v:Int):List Dd×Option Ft:=
 if root=2 then(a2k D f,none)else if root=1 then(B5 D v,none)else
  if v+2<=0 then(B5 D v++[(("say":Str),v+4,D.n0,1)],some (("need":Str),D.n0,2,0))
  else(B5 D v++[(("say":Str),v+4,D.n0,1)]++(if v > 0 then a2k D f else [])++[(("say":Str),v,D.n0,(a0s D f).length - 1)],none)
theorem b1w(D:D6)(f:Bool)(v:Int):b0m D f 0 v=if v+2<=0 then(B5 D v++[(("say":Str),v+4,D.n0,1)],some (("need":Str),D.n0,2,0))
  else(B5 D v++[(("say":Str),v+4,D.n0,1)]++(if v > 0 then a2k D f else [])++[(("say":Str),v,D.n0,(a0s D f).length - 1)],none):=rfl
noncomputable def nm6 (D:D6):Nat->Str
 | 0=>D.n0
 | 1=>D.n1
 | _=>D.n2
theorem a3D{N:Nt}{ns:List Int}{go:Str->GS->GS}{S:GS}{p:Str}{j:Nat}{m:Int}(hf:S.ft=none):W6 N ns go S (p,j,a0N m)={S with tr:=S.tr++[(("say":Str),m,p,j)]}:=by
 rw[D5 (x:=(p,j,a0N m)) hf rfl rfl rfl]
 show{S with tr:=S.tr++[(("say":Str),0+1*m,p,j)]}=_
 rw[Int.zero_add,Int.one_mul]
theorem a5Z{N:Nt}{ns:List Int}{go:Str->GS->GS}{p:Str}:∀(ms:List Int)(k:Nat)(S:GS),S.ft=none->
  ((ms.map a0N).mapIdx fun i r=>((p,k+i,r):Wx)).foldl (W6 N ns go) S={S with tr:=S.tr++ms.mapIdx fun i m=>(("say":Str),m,p,k+i)}
 | [],k,S,_=>by simp
 | m::ms,k,S,hf=>by
  rw[List.map_cons,List.mapIdx_cons,List.foldl_cons,List.mapIdx_cons]
  rw[show(p,k+0,a0N m)=((p,k,a0N m):Wx)from rfl,a3D hf]
  have e1:((ms.map a0N).mapIdx fun i r=>((p,k+(i+1),r):Wx))=(ms.map a0N).mapIdx fun i r=>((p,(k+1)+i,r):Wx):=by
   congr 1;funext i r;rw[show k+(i+1)=k+1+i by omega]
  have e2:(ms.mapIdx fun i m=>(("say":Str),m,p,k+(i+1)))=ms.mapIdx fun i m=>((("say":Str),m,p,(k+1)+i):Dd):=by
   congr 1;funext i m;rw[show k+(i+1)=k+1+i by omega]
  rw[e1,e2]
  refine(a5Z ms (k+1) {S with tr:=S.tr++[(("say":Str),m,p,k)]} hf).trans ?_
  simp
theorem a7i{D:D6}(h:a5E D){ns:List Int}{d:Nat}{S:GS}(hf:S.ft=none):O8 (U4 D true) ns (d+1) D.n2 S={S with bg:=S.bg++[D.n2],tr:=S.tr++a3Q D}:=by
 have hN:=a3l h true
 show(W5 D.n2 (a0z (U4 D true) D.n2)).foldl _ _=_
 rw[a1p (N:=U4 D true) (rs:=a0d D) hN.nd (by show _∈ps6 D true;unfold ps6;simp)]
 have:=a5Z (N:=U4 D true) (ns:=ns) (go:=O8 (U4 D true) ns d) (p:=D.n2) D.ms 0 {S with bg:=S.bg++[D.n2]} hf
 simp only[Nat.zero_add]at this
 exact this
noncomputable def a7k (D:D6):List Key:=kN (D.n1,at6 D)
theorem lk0(D:D6)(f:Bool)(gv:List (List Key×V)):lk (U4 D f) gv D.n0 D.own=Y7 gv (a7k D):=by unfold lk;rw[a4z];rfl
theorem a5P{D:D6}{f:Bool}{ns:List Int}{go:Str->GS->GS}{S:GS}{j:Nat}(hf:S.ft=none):W6 (U4 D f) ns go S (D.n1,j,.take D.there)={S with tk:=if S.tk=ns.length then S.tk else S.tk+1,gv:=O2 S.gv (a7k D) (.int (ns.getD S.tk 0)),tr:=S.tr++[(("take":Str),ns.getD S.tk 0,D.n1,j)]}:=by
 rw[D5 (x:=(D.n1,j,.take D.there)) hf rfl rfl rfl]
 show(match(U4 D f).km (D.n1,D.there)with
  | some q=>{S with tk:=if S.tk=ns.length then S.tk else S.tk+1,gv:=O2 S.gv (kN q) (.int (ns.getD S.tk 0)),tr:=S.tr++[(("take":Str),ns.getD S.tk 0,D.n1,j)]}
  | none=>S)=_
 rw[a5p]
 rfl
theorem a6i{N:Nt}{ns:List Int}{go:Str->GS->GS}{S:GS}{p o g:Str}{j:Nat}(hf:S.ft=none):W6 N ns go S (p,j,.give o g)=S:=by
 rw[D5 (x:=(p,j,.give o g)) hf rfl rfl rfl]
 rfl
theorem a6c{D:D6}(h:a5E D){f:Bool}{ns:List Int}{d:Nat}{S:GS}(hf:S.ft=none):O8 (U4 D f) ns (d+1) D.n1 S={S with bg:=S.bg++[D.n1],tk:=if S.tk=ns.length then S.tk else S.tk+1,gv:=O2 S.gv (a7k D) (.int (ns.getD S.tk 0)),tr:=S.tr++B5 D (ns.getD S.tk 0)}:=by
 have hN:=a3l h f
 show(W5 D.n1 (a0z (U4 D f) D.n1)).foldl _ _=_
 rw[a1p (N:=U4 D f) (rs:=a1A D) hN.nd (by show _∈ps6 D f;unfold ps6;simp)]
 unfold a1A B5
 by_cases hs:D.sw=true
 ·rw[if_pos hs,if_pos hs]
  show W6 (U4 D f) ns (O8 (U4 D f) ns d) (W6 (U4 D f) ns (O8 (U4 D f) ns d) (W6 (U4 D f) ns (O8 (U4 D f) ns d) {S with bg:=S.bg++[D.n1]} (D.n1,0,a0N 8)) (D.n1,1,.take D.there)) (D.n1,2,.give D.there D.given)=_
  rw[a3D (S:={S with bg:=S.bg++[D.n1]}) hf,a5P (S:={S with bg:=S.bg++[D.n1],tr:=S.tr++[(("say":Str),8,D.n1,0)]}) hf,a6i (by exact hf)]
  simp
 ·rw[if_neg hs,if_neg hs]
  show W6 (U4 D f) ns (O8 (U4 D f) ns d) (W6 (U4 D f) ns (O8 (U4 D f) ns d) (W6 (U4 D f) ns (O8 (U4 D f) ns d) {S with bg:=S.bg++[D.n1]} (D.n1,0,.take D.there)) (D.n1,1,a0N 8)) (D.n1,2,.give D.there D.given)=_
  rw[a5P (S:={S with bg:=S.bg++[D.n1]}) hf,a3D (by exact hf),a6i (by exact hf)]
  simp
theorem a3J{N:Nt}{ns:List Int}{go:Str->GS->GS}{S:GS}{p x:Str}{j:Nat}{v:Int}{ts:List (Int×Th)}{r:Int}(hf:S.ft=none)(h:lk N S.gv p x=some (.int v))(hn:U2 1 ((1,.nam x)::ts)=[(1,x)])(hs:a0y N S.gv p ((1,.nam x)::ts)=r):W6 N ns go S (p,j,.say ((1,.nam x)::ts) none)={S with tr:=S.tr++[(("say":Str),r,p,j)]}:=by
 have he:F6 N S.gv p (.say ((1,.nam x)::ts) none)=none:=by
  show((U2 1 ((1,.nam x)::ts)).find? fun d=>!(lk N S.gv p d.2).isSome).map (·.1)=none
  rw[hn,List.find?_cons_of_neg (by simp[h])];rfl
 rw[D5 (x:=(p,j,.say ((1,.nam x)::ts) none)) hf rfl he rfl]
 show{S with tr:=S.tr++[(("say":Str),a0y N S.gv p ((1,.nam x)::ts),p,j)]}=_
 rw[hs]
theorem a8g{N:Nt}{ns:List Int}{go:Str->GS->GS}{S:GS}{p x:Str}{j:Nat}{v:Int}(hf:S.ft=none)(h:lk N S.gv p x=some (.int v)):W6 N ns go S (p,j,.need [(1,.nam x),(1,.num 2)])=if v+2<=0 then{S with ft:=some ("need",p,j,0)}else S:=by
 have he:F6 N S.gv p (.need [(1,.nam x),(1,.num 2)])=none:=by
  show(([((1:Int),x)]:List (Int×Str)).find? fun d=>!(lk N S.gv p d.2).isSome).map (·.1)=none
  rw[List.find?_cons_of_neg (by simp[h])];rfl
 rw[D5 (x:=(p,j,.need [(1,.nam x),(1,.num 2)])) hf rfl he rfl]
 show(if 0+1*ivl (lk N S.gv p x)+1*2<=0 then _ else _)=_
 rw[h]
 show(if 0+1*v+1*2<=0 then _ else _)=_
 rw[show 0+1*v+1*2=v+2 by omega]
theorem a9x{N:Nt}{ns:List Int}{go:Str->GS->GS}{S:GS}{p x q:Str}{j:Nat}{v:Int}(hf:S.ft=none)(h:lk N S.gv p x=some (.int v)):W6 N ns go S (p,j,.ask q (some x))=if v > 0 then(if q∈S.bg then S else go q S)else S:=by
 have ho:a1D N S.gv p (.ask q (some x))=decide (v<=0):=by
  show((lk N S.gv p x).isSome && decide (ivl (lk N S.gv p x)<=0))=_
  rw[h];rfl
 by_cases hv:v > 0
 ·rw[if_pos hv]
  refine a0Z (x:=(p,j,.ask q (some x))) hf (by show a1D N S.gv p (.ask q (some x))=false;rw[ho];simp;omega) ?_ rfl
  show(([((3:Int),x)]:List (Int×Str)).find? fun d=>!(lk N S.gv p d.2).isSome).map (·.1)=none
  rw[List.find?_cons_of_neg (by simp[h])];rfl
 ·rw[if_neg hv]
  exact a1M (x:=(p,j,.ask q (some x))) hf (by show a1D N S.gv p (.ask q (some x))=true;rw[ho];simp;omega)
theorem a7d{N:Nt}{ns:List Int}{go:Str->GS->GS}{S:GS}{p q:Str}{ps:List (Str×Str)}{j:Nat}(hf:S.ft=none):W6 N ns go S (p,j,.bring q ps)=if q∈S.bg then S else go q S:=a0Z (x:=(p,j,.bring q ps)) hf rfl rfl rfl
theorem b3v{N:Nt}{gv:List (List Key×V)}{p x:Str}{v:Int}(h:lk N gv p x=some (.int v)):a0y N gv p [(1,.nam x)]=v:=by
 show 0+1*ivl (lk N gv p x)=v
 rw[h]
 show 0+1*v=v
 omega
theorem b4w{N:Nt}{gv:List (List Key×V)}{p x:Str}{v:Int}(h:lk N gv p x=some (.int v)):a0y N gv p [(1,.nam x),(1,.num 4)]=v+4:=by
 show 0+1*ivl (lk N gv p x)+1*4=v+4
 rw[h]
 show 0+1*v+1*4=v+4
 omega
theorem b4O{D:D6}(h:a5E D){f:Bool}{ns:List Int}{root:Nat}(hr:root<=2)(h2:root=2->f=true):(O8 (U4 D f) ns 24 (nm6 D root) s0).tr=(b0m D f root (ns.getD 0 0)).1/\(O8 (U4 D f) ns 24 (nm6 D root) s0).ft=(b0m D f root (ns.getD 0 0)).2:=by
 match root,hr,h2 with
 | 2,_,h2=>
  have:=h2 rfl
  subst this
  show(O8 (U4 D true) ns (23+1) D.n2 s0).tr=_/\(O8 (U4 D true) ns (23+1) D.n2 s0).ft=_
  rw[a7i h rfl]
  exact⟨rfl,rfl⟩
 | 1,_,_=>
  show(O8 (U4 D f) ns (23+1) D.n1 s0).tr=_/\(O8 (U4 D f) ns (23+1) D.n1 s0).ft=_
  rw[a6c h rfl]
  exact⟨rfl,rfl⟩
 | 0,_,_=>
  show(O8 (U4 D f) ns (23+1) D.n0 s0).tr=_/\(O8 (U4 D f) ns (23+1) D.n0 s0).ft=_
  have hN:=a3l h f
  have e0:O8 (U4 D f) ns (23+1) D.n0 s0=(W5 D.n0 (a0s D f)).foldl (W6 (U4 D f) ns (O8 (U4 D f) ns 23)) {s0 with bg:=[D.n0]}:=by
   show(W5 D.n0 (a0z (U4 D f) D.n0)).foldl _ _=_
   rw[a1p (N:=U4 D f) (rs:=a0s D f) hN.nd (by show _∈ps6 D f;unfold ps6;simp)]
   rfl
  rw[e0]
  generalize hv:ns.getD 0 0=v
  have hb:W6 (U4 D f) ns (O8 (U4 D f) ns 23) {s0 with bg:=[D.n0]} (D.n0,0,.bring D.n1 [(D.given,D.own)])={s0 with bg:=[D.n0,D.n1],tk:=if 0=ns.length then 0 else 1,gv:=O2 [] (a7k D) (.int v),tr:=B5 D v}:=by
   rw[a7d rfl,if_neg (by simp;exact fun z=>h.h01 z.symm),a6c (d:=22) h rfl]
   show(⟨_,_,O2 [] (a7k D) (.int (ns.getD 0 0)),_,[]++B5 D (ns.getD 0 0),_⟩:GS)=_
   rw[hv]
   rfl
  generalize hS1:({s0 with bg:=[D.n0,D.n1],tk:=if 0=ns.length then 0 else 1,gv:=O2 [] (a7k D) (.int v),tr:=B5 D v}:GS)=S1 at hb
  have hf1:S1.ft=none:=by rw[<-hS1];rfl
  have ht1:S1.tr=B5 D v:=by rw[<-hS1]
  have hb1:S1.bg=[D.n0,D.n1]:=by rw[<-hS1]
  have hg1:∀S:GS,S.gv=S1.gv->lk (U4 D f) S.gv D.n0 D.own=some (.int v):=fun S e=>by
   rw[lk0,e,<-hS1]
   show Y7 (O2 [] (a7k D) (.int v)) (a7k D)=_
   rw[a0p,if_pos rfl]
  have rest:∀S2:GS,S2.ft=none->S2.gv=S1.gv->S2.bg=[D.n0,D.n1]->((if f=true then [((D.n0,3,.ask D.n2 (some D.own)):Wx),(D.n0,4,.say [(1,.nam D.own)] none)]else [(D.n0,3,.say [(1,.nam D.own)] none)]).foldl (W6 (U4 D f) ns (O8 (U4 D f) ns 23)) S2).tr=S2.tr++(if v > 0 then a2k D f else [])++[(("say":Str),v,D.n0,(a0s D f).length - 1)]/\((if f=true then [((D.n0,3,.ask D.n2 (some D.own)):Wx),(D.n0,4,.say [(1,.nam D.own)] none)]else [(D.n0,3,.say [(1,.nam D.own)] none)]).foldl (W6 (U4 D f) ns (O8 (U4 D f) ns 23)) S2).ft=none:=by
   intro S2 f2 g2 b2
   rw[a3c]
   cases f with
   | false=>
    show(W6 (U4 D false) ns (O8 (U4 D false) ns 23) S2 (D.n0,3,.say [(1,.nam D.own)] none)).tr=_/\_
    have e:=a3J (N:=U4 D false) (ns:=ns) (go:=O8 (U4 D false) ns 23) (p:=D.n0) (j:=3) (ts:=[]) f2 (hg1 S2 g2) rfl (b3v (hg1 S2 g2))
    refine⟨by rw[e];show _=S2.tr++(if v > 0 then []else [])++_;simp,?_⟩
    show(W6 (U4 D false) ns (O8 (U4 D false) ns 23) S2 (D.n0,3,.say [(1,.nam D.own)] none)).ft=none
    rw[e];exact f2
   | true=>
    have e1:=a9x (N:=U4 D true) (ns:=ns) (go:=O8 (U4 D true) ns 23) (p:=D.n0) (q:=D.n2) (j:=3) f2 (hg1 S2 g2)
    have e3:∃S3,W6 (U4 D true) ns (O8 (U4 D true) ns 23) S2 (D.n0,3,.ask D.n2 (some D.own))=S3/\S3.ft=none/\S3.gv=S1.gv/\S3.tr=S2.tr++(if v > 0 then a3Q D else []):=by
     by_cases hv0:v > 0
     ·rw[e1,if_pos hv0,if_neg (by rw[b2];simp;exact⟨fun z=>h.h02 z.symm,fun z=>h.h12 z.symm⟩),a7i (d:=22) h f2,if_pos hv0]
      exact⟨_,rfl,f2,g2,rfl⟩
     ·rw[e1,if_neg hv0,if_neg hv0]
      exact⟨_,rfl,f2,g2,by simp⟩
    obtain⟨S3,k1,k2,k3,k4⟩:=e3
    have e4:=a3J (N:=U4 D true) (ns:=ns) (go:=O8 (U4 D true) ns 23) (p:=D.n0) (j:=4) (ts:=[]) k2 (hg1 S3 k3) rfl (b3v (hg1 S3 k3))
    refine⟨?_,?_⟩
    ·show(W6 (U4 D true) ns (O8 (U4 D true) ns 23) (W6 (U4 D true) ns (O8 (U4 D true) ns 23) S2 (D.n0,3,.ask D.n2 (some D.own))) (D.n0,4,.say [(1,.nam D.own)] none)).tr=_
     rw[k1,e4]
     show S3.tr++_=_
     rw[k4];rfl
    ·show(W6 (U4 D true) ns (O8 (U4 D true) ns 23) (W6 (U4 D true) ns (O8 (U4 D true) ns 23) S2 (D.n0,3,.ask D.n2 (some D.own))) (D.n0,4,.say [(1,.nam D.own)] none)).ft=_
     rw[k1,e4];exact k2
  have e1:(W5 D.n0 (a0s D f)).foldl (W6 (U4 D f) ns (O8 (U4 D f) ns 23)) {s0 with bg:=[D.n0]}=(if f=true then [((D.n0,3,.ask D.n2 (some D.own)):Wx),(D.n0,4,.say [(1,.nam D.own)] none)]else [(D.n0,3,.say [(1,.nam D.own)] none)]).foldl (W6 (U4 D f) ns (O8 (U4 D f) ns 23)) (W6 (U4 D f) ns (O8 (U4 D f) ns 23) (W6 (U4 D f) ns (O8 (U4 D f) ns 23) (W6 (U4 D f) ns (O8 (U4 D f) ns 23) {s0 with bg:=[D.n0]} (D.n0,0,.bring D.n1 [(D.given,D.own)])) (D.n0,1,.say [(1,.nam D.own),(1,.num 4)] none)) (D.n0,2,.need [(1,.nam D.own),(1,.num 2)])):=by
   unfold a0s
   cases f<;>rfl
  rw[e1,hb,a3J (v:=v) (r:=v+4) hf1 (hg1 S1 rfl) rfl (b4w (hg1 S1 rfl)),a8g (S:={S1 with tr:=S1.tr++[(("say":Str),v+4,D.n0,1)]}) (v:=v) hf1 (hg1 {S1 with tr:=S1.tr++[(("say":Str),v+4,D.n0,1)]} rfl)]
  rw[b1w]
  by_cases hn:v+2<=0
  ·rw[if_pos hn,if_pos hn,a2r (by simp)]
   exact⟨by show S1.tr++_=_;rw[ht1],rfl⟩
  ·rw[if_neg hn,if_neg hn]
   obtain⟨r1,r2⟩:=rest {S1 with tr:=S1.tr++[(("say":Str),v+4,D.n0,1)]} hf1 rfl hb1
   refine⟨?_,r2⟩
   rw[r1]
   show S1.tr++_++_++_=_
   rw[ht1]
noncomputable def b0q (CG:Addr):Sp:=fun vs H Q _=>∃(g w n dx:Addr),vs=[.ref g,.ref w,.ref n]/\H g=some (.ins CG dx [])/\∀(A:GA)(H':Hp),KpG g H H'->(H A.b=none/\H A.l=none/\H A.gv=none/\H A.wt=none/\H A.tr=none)->A.w=w->H' g=some (.ins CG dx (gF A 0 .non))->H' A.b=some (.dK [])->H' A.wt=some (.lst [])->H' A.tr=some (.lst [])->A.wt≠A.tr->Q .non H'
theorem a8j(T:Tc K mg CP CG):ICl P w K mg base 1 "Going" CG ["self","walk","numbers"] (b0q CG):=by
 refine ICl.of T.i_Going T.g_Going a1t (fun vs H Q E h=>?_) (fun _ _ _ _ _ _ us hl=>len3 us hl (fun _ _ _=>rfl)) (fun fa cdv A outer s H vs Q E hr h=>?_)
 ·obtain⟨g,w,n,dx,rfl,_⟩:=h
  rfl
 ·obtain⟨g,w,n,dx,rfl,hg,q⟩:=h
  refine⟨_,(I0 (F0 (pv 0) (pv 1) rfl)
   (I0 (F0 (pv 0) (pv 2) rfl)
   (I0 (F0 (pv 0) G9 rfl)
   (I0 (F0 (pv 0) a3h rfl)
   (I0 (F0 (pv 0) a3h rfl)
   (I0 (F0 (pv 0) a2d rfl)
   (I0 (F0 (pv 0) (O4 G8) rfl)
   (I0 (F0 (pv 0) (O4 G8) rfl)
   (J1 (F0 (pv 0) a1q rfl)))))))))),?_⟩
  refine⟨_,rfl,_,rfl,g,CG,dx,_,rfl,hg,T.c_Going,T.nG_walk,(by show 0 < 1000;decide),?_⟩
  refine⟨_,rfl,_,rfl,g,CG,dx,_,rfl,G7,T.c_Going,T.nG_numbers,B7 (Y5 _ _ _ 0 (AD _)) (by decide),?_⟩
  refine⟨_,rfl,g,CG,dx,_,rfl,G7,T.c_Going,T.nG_taken,B7 (Y5 _ _ _ 1 (Y5 _ _ _ 0 (AD _))) (by decide),?_⟩
  have k3:KpG g H (upd (upd (upd H g (.ins CG dx (J8 "walk" (.ref w) []))) g (.ins CG dx (J8 "numbers" (.ref n) (J8 "walk" (.ref w) [])))) g (.ins CG dx (J8 "taken" (.int 0) (J8 "numbers" (.ref n) (J8 "walk" (.ref w) []))))):=((KpG.refl g H).self.self).self
  have g3:upd (upd (upd H g (.ins CG dx (J8 "walk" (.ref w) []))) g (.ins CG dx (J8 "numbers" (.ref n) (J8 "walk" (.ref w) [])))) g (.ins CG dx (J8 "taken" (.int 0) (J8 "numbers" (.ref n) (J8 "walk" (.ref w) [])))) g=some (.ins CG dx (J8 "taken" (.int 0) (J8 "numbers" (.ref n) (J8 "walk" (.ref w) [])))):=G7
  generalize upd (upd (upd H g (.ins CG dx (J8 "walk" (.ref w) []))) g (.ins CG dx (J8 "numbers" (.ref n) (J8 "walk" (.ref w) [])))) g (.ins CG dx (J8 "taken" (.int 0) (J8 "numbers" (.ref n) (J8 "walk" (.ref w) []))))=H3 at k3 g3⊢
  have l3:(J8 "taken" (.int 0) (J8 "numbers" (.ref n) (J8 "walk" (.ref w) []))).length<=3:=Y5 _ _ _ 2 (Y5 _ _ _ 1 (Y5 _ _ _ 0 (AD _)))
  have fr:∀{H':Hp}{b:Addr},KpG g H H'->H' g≠none->H' b=none->H b=none:=fun{H' b}k hg' hb=>by
   cases e:H b with
   | none=>rfl
   | some o=>
    by_cases z:b=g
    ·subst z;exact absurd hb hg'
    ·rw[k b o e z]at hb;cases hb
  intro b gb
  have nb:g≠b:=J3 g3 gb
  have fb:=fr k3 (by rw[g3];intro z;cases z) gb
  refine⟨_,rfl,g,CG,dx,_,rfl,by rw[J0 nb];exact g3,T.c_Going,T.nG_begun,B7 l3 (by decide),?_⟩
  generalize hf3:J8 "taken" (.int 0) (J8 "numbers" (.ref n) (J8 "walk" (.ref w) []))=f3 at l3 g3⊢
  have l4:=Y5 "begun" (.ref b) _ 3 l3
  have k4:=((k3.new (o:= .dK []) gb).self (o:= .ins CG dx (J8 "begun" (.ref b) f3)))
  have g4:=G7 (H:=upd H3 b (.dK [])) (a:=g) (o:= .ins CG dx (J8 "begun" (.ref b) f3))
  have b4:upd (upd H3 b (.dK [])) g (.ins CG dx (J8 "begun" (.ref b) f3)) b=some (.dK []):=by rw[J0 nb.symm,G7]
  generalize upd (upd H3 b (.dK [])) g (.ins CG dx (J8 "begun" (.ref b) f3))=H4 at k4 g4 b4⊢
  generalize hf4:J8 "begun" (.ref b) f3=f4 at l4 g4⊢
  intro l gl
  have nl:g≠l:=J3 g4 gl
  have fl:=fr k4 (by rw[g4];intro z;cases z) gl
  refine⟨_,rfl,g,CG,dx,_,rfl,by rw[J0 nl];exact g4,T.c_Going,T.nG_loaded,B7 l4 (by decide),?_⟩
  have l5:=Y5 "loaded" (.ref l) _ 4 l4
  have nbl:b≠l:=J3 b4 gl
  have k5:=((k4.new (o:= .dK []) gl).self (o:= .ins CG dx (J8 "loaded" (.ref l) f4)))
  have g5:=G7 (H:=upd H4 l (.dK [])) (a:=g) (o:= .ins CG dx (J8 "loaded" (.ref l) f4))
  have b5:upd (upd H4 l (.dK [])) g (.ins CG dx (J8 "loaded" (.ref l) f4)) b=some (.dK []):=by rw[J0 nb.symm,J0 nbl];exact b4
  have c5:upd (upd H4 l (.dK [])) g (.ins CG dx (J8 "loaded" (.ref l) f4)) l=some (.dK []):=by rw[J0 nl.symm,G7]
  generalize upd (upd H4 l (.dK [])) g (.ins CG dx (J8 "loaded" (.ref l) f4))=H5 at k5 g5 b5 c5⊢
  generalize hf5:J8 "loaded" (.ref l) f4=f5 at l5 g5⊢
  intro v gv
  have nv:g≠v:=J3 g5 gv
  have fv:=fr k5 (by rw[g5];intro z;cases z) gv
  refine⟨_,rfl,g,CG,dx,_,rfl,by rw[J0 nv];exact g5,T.c_Going,T.nG_given,B7 l5 (by decide),?_⟩
  have l6:=Y5 "given" (.ref v) _ 5 l5
  have nbv:b≠v:=J3 b5 gv
  have nlv:l≠v:=J3 c5 gv
  have k6:=((k5.new (o:= .dT []) gv).self (o:= .ins CG dx (J8 "given" (.ref v) f5)))
  have g6:=G7 (H:=upd H5 v (.dT [])) (a:=g) (o:= .ins CG dx (J8 "given" (.ref v) f5))
  have b6:upd (upd H5 v (.dT [])) g (.ins CG dx (J8 "given" (.ref v) f5)) b=some (.dK []):=by rw[J0 nb.symm,J0 nbv];exact b5
  have c6:upd (upd H5 v (.dT [])) g (.ins CG dx (J8 "given" (.ref v) f5)) l=some (.dK []):=by rw[J0 nl.symm,J0 nlv];exact c5
  have v6:upd (upd H5 v (.dT [])) g (.ins CG dx (J8 "given" (.ref v) f5)) v=some (.dT []):=by rw[J0 nv.symm,G7]
  generalize upd (upd H5 v (.dT [])) g (.ins CG dx (J8 "given" (.ref v) f5))=H6 at k6 g6 b6 c6 v6⊢
  generalize hf6:J8 "given" (.ref v) f5=f6 at l6 g6⊢
  refine⟨a1r,fun wt gw=>?_⟩
  have nw:g≠wt:=J3 g6 gw
  have fw:=fr k6 (by rw[g6];intro z;cases z) gw
  refine⟨_,rfl,g,CG,dx,_,rfl,by rw[J0 nw];exact g6,T.c_Going,T.nG_waiting,B7 l6 (by decide),?_⟩
  have l7:=Y5 "waiting" (.ref wt) _ 6 l6
  have nbw:b≠wt:=J3 b6 gw
  have nlw:l≠wt:=J3 c6 gw
  have nvw:v≠wt:=J3 v6 gw
  have k7:=((k6.new (o:= .lst []) gw).self (o:= .ins CG dx (J8 "waiting" (.ref wt) f6)))
  have g7:=G7 (H:=upd H6 wt (.lst [])) (a:=g) (o:= .ins CG dx (J8 "waiting" (.ref wt) f6))
  have b7:upd (upd H6 wt (.lst [])) g (.ins CG dx (J8 "waiting" (.ref wt) f6)) b=some (.dK []):=by rw[J0 nb.symm,J0 nbw];exact b6
  have c7:upd (upd H6 wt (.lst [])) g (.ins CG dx (J8 "waiting" (.ref wt) f6)) l=some (.dK []):=by rw[J0 nl.symm,J0 nlw];exact c6
  have v7:upd (upd H6 wt (.lst [])) g (.ins CG dx (J8 "waiting" (.ref wt) f6)) v=some (.dT []):=by rw[J0 nv.symm,J0 nvw];exact v6
  have w7:upd (upd H6 wt (.lst [])) g (.ins CG dx (J8 "waiting" (.ref wt) f6)) wt=some (.lst []):=by rw[J0 nw.symm,G7]
  generalize upd (upd H6 wt (.lst [])) g (.ins CG dx (J8 "waiting" (.ref wt) f6))=H7 at k7 g7 b7 c7 v7 w7⊢
  generalize hf7:J8 "waiting" (.ref wt) f6=f7 at l7 g7⊢
  refine⟨a1r,fun tr gt=>?_⟩
  have nt':g≠tr:=J3 g7 gt
  have ft:=fr k7 (by rw[g7];intro z;cases z) gt
  refine⟨_,rfl,g,CG,dx,_,rfl,by rw[J0 nt'];exact g7,T.c_Going,T.nG_trace,B7 l7 (by decide),?_⟩
  have l8:=Y5 "trace" (.ref tr) _ 7 l7
  refine⟨_,rfl,g,CG,dx,_,rfl,G7,T.c_Going,T.nG_fault,B7 l8 (by decide),?_⟩
  have nbt:b≠tr:=J3 b7 gt
  have nlt:l≠tr:=J3 c7 gt
  have nvt:v≠tr:=J3 v7 gt
  have nwt:wt≠tr:=J3 w7 gt
  have hfin:J8 "fault" .non (J8 "trace" (.ref tr) f7)=gF ⟨w,n,b,l,v,wt,tr⟩ 0 .non:=by
   rw[<-hf7,<-hf6,<-hf5,<-hf4,<-hf3]
   exact b3o ⟨w,n,b,l,v,wt,tr⟩
  have k9:=((k7.new (o:= .lst []) gt).self (o:= .ins CG dx (J8 "trace" (.ref tr) f7))).self (o:= .ins CG dx (J8 "fault" .non (J8 "trace" (.ref tr) f7)))
  have g9:=G7 (H:=upd (upd H7 tr (.lst [])) g (.ins CG dx (J8 "trace" (.ref tr) f7))) (a:=g) (o:= .ins CG dx (J8 "fault" .non (J8 "trace" (.ref tr) f7)))
  have at9:∀{a:Addr}{o:HO},a≠g->a≠tr->H7 a=some o->upd (upd (upd H7 tr (.lst [])) g (.ins CG dx (J8 "trace" (.ref tr) f7))) g (.ins CG dx (J8 "fault" .non (J8 "trace" (.ref tr) f7))) a=some o:=fun{a o}h1 h2 e=>by rw[J0 h1,J0 h1,J0 h2];exact e
  have b9:=at9 nb.symm nbt b7
  have c9:=at9 nl.symm nlt c7
  have v9:=at9 nv.symm nvt v7
  have w9:=at9 nw.symm nwt w7
  have t9:upd (upd (upd H7 tr (.lst [])) g (.ins CG dx (J8 "trace" (.ref tr) f7))) g (.ins CG dx (J8 "fault" .non (J8 "trace" (.ref tr) f7))) tr=some (.lst []):=by rw[J0 nt'.symm,J0 nt'.symm,G7]
  generalize upd (upd (upd H7 tr (.lst [])) g (.ins CG dx (J8 "trace" (.ref tr) f7))) g (.ins CG dx (J8 "fault" .non (J8 "trace" (.ref tr) f7)))=H9 at k9 g9 b9 c9 v9 w9 t9⊢
  rw[hfin]at g9
  exact q ⟨w,n,b,l,v,wt,tr⟩ H9 k9 ⟨fb,fl,fv,fw,ft⟩ rfl g9 b9 w9 t9 nwt
noncomputable def a5r:Sp:=fun vs H Q _=>∃(w:Addr)(p:Str),vs=[.ref w,.str p]/\∀(t:Addr)(H':Hp),J4 H H'->H' t=some (.tup [])->Q (.ref t) H'
theorem a4d(T:Tw K mg CP CG CW):MCl P w K mg base 1 CW "rows_of" ["self","part"] a5r:=by
 refine MCl.of T.w_rows_of a4k (fun vs H Q E h=>?_) (fun _ _ _ _ _ _ us hl=>len2 us hl (fun _ _=>rfl)) (fun fa cdv A outer s H vs Q E hr h=>?_)
 ·obtain⟨w,p,rfl,_⟩:=h
  rfl
 ·obtain⟨w,p,rfl,q⟩:=h
  refine⟨_,(J1 (R3 (J5 G8))),?_⟩
  exact⟨a1r,fun t gt=>q t _ ((J4.refl H).new gt) G7⟩
theorem a2T(T:Tw K mg CP CG CW):MCl P w K mg base 1 CW "loads_of" ["self","part"] a5r:=by
 refine MCl.of T.w_loads_of a1K (fun vs H Q E h=>?_) (fun _ _ _ _ _ _ us hl=>len2 us hl (fun _ _=>rfl)) (fun fa cdv A outer s H vs Q E hr h=>?_)
 ·obtain⟨w,p,rfl,_⟩:=h
  rfl
 ·obtain⟨w,p,rfl,q⟩:=h
  refine⟨_,(J1 (R3 (J5 G8))),?_⟩
  exact⟨a1r,fun t gt=>q t _ ((J4.refl H).new gt) G7⟩
theorem a2Y(T:Tw K mg CP CG CW):MCl P w K mg base 1 CW "ahead_of" ["self","root"] a5r:=by
 refine MCl.of T.w_ahead_of a1N (fun vs H Q E h=>?_) (fun _ _ _ _ _ _ us hl=>len2 us hl (fun _ _=>rfl)) (fun fa cdv A outer s H vs Q E hr h=>?_)
 ·obtain⟨w,p,rfl,_⟩:=h
  rfl
 ·obtain⟨w,p,rfl,q⟩:=h
  refine⟨_,(J1 (R3 (J5 G8))),?_⟩
  exact⟨a1r,fun t gt=>q t _ ((J4.refl H).new gt) G7⟩
noncomputable def b4n:Sp:=fun vs H Q _=>∃(w:Addr)(p x:Str),vs=[.ref w,.str p,.str x]/\Q (.str x) H
theorem a8b(T:Tw K mg CP CG CW):MCl P w K mg base 1 CW "key_of" ["self","part","name"] b4n:=by
 refine MCl.of T.w_key_of a4M (fun vs H Q E h=>?_) (fun _ _ _ _ _ _ us hl=>len3 us hl (fun _ _ _=>rfl)) (fun fa cdv A outer s H vs Q E hr h=>?_)
 ·obtain⟨w,p,x,rfl,_⟩:=h
  rfl
 ·obtain⟨w,p,x,rfl,q⟩:=h
  refine⟨_,(J1 (R3 (pv 2))),?_⟩
  exact⟨_,rfl,q⟩
noncomputable def b1D (CG CW:Addr):Sp:=fun vs H Q _=>∃(g dx dw:Addr)(A:GA)(p:Str),vs=[.ref g,.str p]/\H g=some (.ins CG dx (gF A 0 .non))/\H A.w=some (.ins CW dw [])/\H A.b=some (.dK [])/\∀H',(∀a o,H a=some o->a≠A.b->H' a=some o)->Q .non H'
theorem a9B(T:Tw K mg CP CG CW):MCl P w K mg base 2 CG "begin" ["self","part"] (b1D CG CW):=by
 have C_rows_of:=a4d (P:=P) (w:=w) (base:=base) T
 refine MCl.of T.m_begin O0 (fun vs H Q E h=>?_) (fun _ _ _ _ _ _ us hl=>len2 us hl (fun _ _=>rfl)) (fun fa cdv A outer s H vs Q E hr h=>?_)
 ·obtain⟨g,dx,dw,A,p,rfl,_⟩:=h
  rfl
 ·obtain⟨g,dx,dw,A,p,rfl,hg,hw,hb,q⟩:=h
  have hu:=a0O hr
  refine⟨_,(I0 (a1x hu (W3 (pv 0) rfl) (pv 1) a0P rfl)
   (J1 (F7 AK rfl (b1x (by rfl) T.n_reversed (D0 C_rows_of T.c_Walk hr (W3 (pv 0) rfl) (G0 (pv 1) G8))) (M2 rfl (R7 (R5 (i:=2) O0.nd rfl (Or.inl rfl)) (R7 (R5 (i:=3) O0.nd rfl (Or.inl rfl)) (R7 (R5 (i:=4) O0.nd rfl (Or.inl rfl)) F3))))
    (J1 (Y0 (a2F PySem.F.plainAttrs_list PySem.F.slot_list_append PySem.F.type_list_append D8 (W3 (pv 0) rfl) (G0 (J5 (G0 (pv 1) (G0 (J5 (G0 (pv 2) (G0 (pv 3) G8))) (G0 (pv 4) G8)))) G8))))))),?_⟩
  refine⟨_,rfl,g,CG,dx,_,_,rfl,hg,T.c_Going,T.nG_begun,a5s,_,rfl,A.b,_,rfl,a3F.k (k:=Sum.inr p) hb (U5 (by show 0<=1000;decide)),?_⟩
  have nb:g≠A.b:=E9 hg hb (by intro z;cases z)
  have nw:A.w≠A.b:=E9 hw hb (by intro z;cases z)
  refine⟨_,rfl,g,CG,dx,_,_,rfl,by rw[J0 nb];exact hg,T.c_Going,T.nG_walk,a1y,A.w,dw,_,rfl,by rw[J0 nw];exact hw,rfl,_,rfl,A.w,p,rfl,fun t H2 s2 ht=>?_⟩
  refine⟨t,[],rfl,SqT.of ht,a8C (K:=K) (a:=t) (xs:=[]) (fun i σ H3=>H3=H2) rfl (fun i σ H3 _ e=>by rw[e];exact SqT.of ht) (fun i x σ H3 e _=>by simp at e) (fun σ H3 e=>?_)⟩
  subst e
  exact q _ fun a o e ne=>s2 _ _ (by rw[J0 ne];exact e)
noncomputable def b2t (CG:Addr):Sp:=fun vs H Q _=>∃(g dx:Addr)(A:GA),vs=[.ref g]/\H g=some (.ins CG dx (gF A 0 .non))/\H A.wt=some (.lst [])/\Q .non H
theorem b0b(T:Tw K mg CP CG CW):MCl P w K mg base 7 CG "go_on" ["self"] (b2t CG):=by
 have C_do_row:=a5Y (P:=P) (w:=w) (base:=base) T.toTc
 refine MCl.of T.m_go_on a0t (fun vs H Q E h=>?_) (fun _ _ _ _ _ _ us hl=>len1 us hl (fun _=>rfl)) (fun fa cdv A outer s H vs Q E hr h=>?_)
 ·obtain⟨g,dx,A,rfl,_⟩:=h
  rfl
 ·obtain⟨g,dx,A,rfl,hg,hwt,q⟩:=h
  refine⟨_,(J1 (a5c AK (PW.pt (a6U (a5l (W3 (pv 0) rfl) (fun _=>rfl)) (a4p (a1n (a4u (W3 (pv 0) rfl))))))
    (I0 (U1 (i:=1) a0t.nd rfl (Or.inl rfl) (b1j PySem.F.plainAttrs_list PySem.F.slot_list_pop PySem.F.type_list_pop b1Z (W3 (pv 0) rfl)))
    (J1 (Y0 (D0 C_do_row T.c_Going hr (pv 0) (G0 (J7 J9 (pv 1) G9 (fun _ _=>rfl)) (G0 (J7 J9 (pv 1) G9 (fun _ _=>rfl)) (G0 (J7 J9 (pv 1) G9 (fun _ _=>rfl)) G8))))))))),?_⟩
  refine a5e (fun σ H2=>H2=H/\∃v1:Option V,σ=[some (.ref g),v1]) (fun _ _=>0) ⟨rfl,_,rfl⟩ ?_ ?_
  ·rintro σ H2 ⟨rfl,v1,rfl⟩
   refine⟨_,rfl,g,CG,dx,_,_,rfl,hg,T.c_Going,T.nG_waiting,a1U,_,.inl ⟨_,SqL.of hwt,rfl⟩,?_⟩
   refine O7 ?_
   show if false=true then _ else _
   refine O7 ?_
   exact q
  ·rintro σ H2 Q1 Q2 hQ ⟨v,e,a,C,dx,fs,v',ex,h1,c1,n1,l1,b,hb,hq⟩
   refine⟨v,e,a,C,dx,fs,v',ex,h1,c1,n1,l1,b,hb,?_⟩
   cases b with
   | false=>exact O7 (hQ _ _ (by simpa using hq))
   | true=>
    have hq':=hq
    rw[if_pos rfl]at hq'
    obtain⟨v,e,a,C,dx,fs,v',ex,h1,c1,n1,l1,b,hb,hq2⟩:=hq'
    exact a0I ⟨v,e,a,C,dx,fs,v',ex,h1,c1,n1,l1,b,hb,hQ _ _ hq2⟩
noncomputable def b4Q (CW:Addr):Sp:=fun vs H Q _=>∃(w n dw:Addr)(root:Str),vs=[.ref w,.str root,.ref n]/\H w=some (.ins CW dw [])/\∀(p t:Addr)(H':Hp),J4 H H'->H' p=some (.tup [.ref t,.non])->H' t=some (.tup [])->Q (.ref p) H'
theorem b3y(T:Tw K mg CP CG CW):MCl P w K mg base 8 CW "go" ["self","root","numbers"] (b4Q CW):=by
 have C_Going:=a8j (P:=P) (w:=w) (base:=base) T.toTc
 have C_load:=a6F (P:=P) (w:=w) (base:=base) T.toTc
 have C_loads_of:=a2T (P:=P) (w:=w) (base:=base) T
 have C_ahead_of:=a2Y (P:=P) (w:=w) (base:=base) T
 have C_begin:=a9B (P:=P) (w:=w) (base:=base) T
 have C_go_on:=b0b (P:=P) (w:=w) (base:=base) T
 refine MCl.of T.w_go a1P (fun vs H Q E h=>?_) (fun _ _ _ _ _ _ us hl=>len3 us hl (fun _ _ _=>rfl)) (fun fa cdv A outer s H vs Q E hr h=>?_)
 ·obtain⟨w,n,dw,root,rfl,_⟩:=h
  rfl
 ·obtain⟨w,n,dw,root,rfl,hw,q⟩:=h
  refine⟨_,(I0 (U1 (i:=3) a1P.nd rfl (Or.inl rfl) (a9b C_Going hr (by rfl) (G0 (pv 0) (G0 (pv 2) G8))))
   (I0 (Y0 (D0 C_load T.c_Going hr (pv 3) (G0 (D0 C_loads_of T.c_Walk hr (pv 0) (G0 (pv 1) G8)) G8)))
   (I0 (Y0 (D0 C_load T.c_Going hr (pv 3) (G0 (D0 C_ahead_of T.c_Walk hr (pv 0) (G0 (pv 1) G8)) G8)))
   (I0 (Y0 (D0 C_begin T.c_Going hr (pv 3) (G0 (pv 1) G8)))
   (I0 (Y0 (b0R C_go_on T.c_Going hr (pv 3)))
   (J1 (R3 (J5 (G0 (W8 U7 (by rfl) T.n_tuple boot_tuple (G0 (W3 (pv 3) rfl) G8)) (G0 (W3 (pv 3) rfl) G8)))))))))),?_⟩
  refine⟨_,rfl,_,rfl,fun g dx ng ndx ne=>?_⟩
  have sA:J4 H (upd (upd H dx (.own g)) g (.ins CG dx [])):=fun b o e=>by
   rw[J0 (J3 e ng),J0 (J3 e ndx)]
   exact e
  have hgA:upd (upd H dx (.own g)) g (.ins CG dx []) g=some (.ins CG dx []):=G7
  generalize upd (upd H dx (.own g)) g (.ins CG dx [])=HA at sA hgA⊢
  refine⟨g,w,n,dx,rfl,hgA,fun A H1 kA fA ew hg1 hb1 hwt1 htr1 nwt=>⟨rfl,?_⟩⟩
  obtain⟨fb,fl,fv,fw,ft⟩:=fA
  have s1:J4 H H1:=fun b o e=>kA b o (sA b o e) (J3 e ng)
  have hw1:=s1 _ _ hw
  refine⟨_,rfl,g,dx,_,rfl,hg1,a3r,_,rfl,w,dw,_,rfl,hw1,rfl,_,rfl,w,root,rfl,fun t2 H2 s2 ht2=>?_⟩
  refine⟨g,t2,rfl,ht2,?_⟩
  refine⟨_,rfl,g,dx,_,rfl,s2 _ _ hg1,a3r,_,rfl,w,dw,_,rfl,s2 _ _ hw1,rfl,_,rfl,w,root,rfl,fun t3 H3 s3 ht3=>?_⟩
  refine⟨g,t3,rfl,ht3,?_⟩
  have s13:=s2.trans s3
  have hg3:=s13 _ _ hg1
  have hb3:=s13 _ _ hb1
  refine⟨_,rfl,g,dx,_,rfl,hg3,a3p,_,rfl,g,dx,dw,A,root,rfl,hg3,(by rw[ew];exact s13 _ _ hw1),hb3,fun H4 k4=>?_⟩
  have hg4:=k4 _ _ hg3 (E9 hg3 hb3 (by intro z;cases z))
  have hwt4:=k4 _ _ (s13 _ _ hwt1) (E9 (s13 _ _ hwt1) hb3 (by intro z;cases z))
  have htr4:=k4 _ _ (s13 _ _ htr1) (E9 (s13 _ _ htr1) hb3 (by intro z;cases z))
  have sH4:J4 H H4:=fun b o e=>k4 _ _ (s13 _ _ (s1 _ _ e)) (J3 e (sA.free fb))
  refine⟨_,rfl,g,dx,_,rfl,hg4,a7u,g,dx,A,rfl,hg4,hwt4,?_⟩
  refine⟨_,rfl,g,CG,dx,_,_,rfl,hg4,T.c_Going,T.nG_trace,a2S,A.tr,_,rfl,.inl ⟨SqL.of htr4,fun t gt=>?_⟩⟩
  have s6:J4 H4 (upd H4 t (.tup [])):=(J4.refl H4).new gt
  have ht6:upd H4 t (.tup []) t=some (.tup []):=G7
  generalize upd H4 t (.tup [])=H6 at s6 ht6⊢
  refine⟨_,rfl,g,CG,dx,_,_,rfl,s6 _ _ hg4,T.c_Going,T.nG_fault,a5t,E1,fun p gp=>?_⟩
  exact q p t _ (sH4.trans (s6.new gp)) G7 (J2 ht6 gp)
theorem a7j(T:Txt K mg):L2.Cl P w K mg base 1 "_law_whole" ["_law_found"] (fun vs H Q _=>∃i:Int,vs=[.int i]/\Q (.bl true) H):=by
 refine Cl.of T.d_law_whole a6r (fun vs H Q E h=>?_) (fun _ _ _ _ _ _ us hl=>len1 us hl (fun _=>rfl)) (fun fa cdv A outer s H vs Q E hr h=>?_)
 ·obtain⟨c,rfl,_⟩:=h
  rfl
 ·obtain⟨c,rfl,q⟩:=h
  refine⟨_,(J1 (R3 (a8r (Y1 E3 (by rfl) T.n_isinstance PyProof.Rows.boot_isinstance (G0 (pv 0) (G0 (a0E (v:= .ty "int") (by rfl) T.n_int boot_int rfl) G8))) (a7Q (b3Q (Y1 E3 (by rfl) T.n_isinstance PyProof.Rows.boot_isinstance (G0 (pv 0) (G0 (a0E (v:= .ty "bool") (by rfl) T.n_bool boot_bool rfl) G8)))))))),?_⟩
  refine⟨_,rfl,_,_,_,_,rfl,.int c,a0q _ _,_,rfl,a0I ?_⟩
  exact⟨_,rfl,_,_,_,_,rfl,.int c,a6E _,_,rfl,q⟩
noncomputable def b1H:Sp:=fun vs H Q _=>∃c:Int,vs=[.int c]/\∀i:Int,Q (.int i) H
theorem a9v(T:Txt K mg):L2.Cl P w K mg base 1 "_law_number" ["_law_cell"] b1H:=by
 refine Cl.of T.d_law_number a5G (fun vs H Q E h=>?_) (fun _ _ _ _ _ _ us hl=>len1 us hl (fun _=>rfl)) (fun fa cdv A outer s H vs Q E hr h=>?_)
 ·obtain⟨c,rfl,_⟩:=h
  rfl
 ·obtain⟨c,rfl,q⟩:=h
  refine⟨_,(I0 (W1 (U0 D4 (U6 a0M (pv 0) G9) G9 (U8 _))
    (J1 (R3 (U6 a3x (U6 a0M (U6 a0X (pv 0) G9) G9) G9))) R8)
   (J1 (R3 (U6 a4G (U6 a3x (U6 a0M (U6 a0X (pv 0) G9) (U6 a3x (U6 a8i G9 (U6 a7Z G9 G9)) G9)) (U6 a7Z G9 G9)) G9)))),?_⟩
  refine⟨_,rfl,_,_,rfl,rfl,(by show(0:Int) < 2;decide),rfl,_,rfl,b0d (fun _=>?_) (fun _=>?_)⟩
  ·exact⟨_,rfl,_,_,rfl,rfl,⟨by decide,by decide⟩,_,_,rfl,rfl,(by show(0:Int) < 5;decide),_,_,rfl,rfl,q _⟩
  ·exact⟨_,rfl,_,_,rfl,rfl,⟨by decide,by decide⟩,_,_,rfl,rfl,⟨by decide,by decide,by decide⟩,_,_,rfl,rfl,.inl ⟨by decide,by decide⟩,_,_,rfl,rfl,_,_,rfl,rfl,(by show(0:Int) < 2*10 ^ (60:Int).toNat - 1;decide),_,_,rfl,rfl,⟨by decide,by decide,by decide⟩,_,_,rfl,rfl,_,_,rfl,rfl,q _⟩
noncomputable def b1n:Str:="abcdefgh"
noncomputable def bases:List Str:=["","w","take","go7","walks"]
theorem b1f:∀k:Nat,k < 8->atI b1n.cps.toList (k:Int)=some (97+k):=by decide +kernel
theorem b2d:∀y∈bases,∀a∈List.range (y.length+1),(slP y none (some ((a:Nat):Int))).length<=10/\(slP y (some ((a:Nat):Int)) none).length<=10/\y.length<=10:=by decide +kernel
noncomputable def nmF (y:Str) (a:Int) (c:Nat):Str:=slP y none (some a)++(⟨#[c]⟩:Str)++slP y (some a) none
theorem b2K{y:Str}{a:Int}{c c':Nat}(h:nmF y a c=nmF y a c'):c=c':=by
 unfold nmF at h
 generalize slP y none (some a)=u at h
 generalize slP y (some a) none=v at h
 have h1:=congrArg (fun z:Str=>z.cps.toList) h
 have e:∀z:Nat,((u++(⟨#[z]⟩:Str)++v):Str).cps.toList=u.cps.toList++([z]++v.cps.toList):=fun z=>by
  show((u.cps++ #[z])++v.cps).toList=_
  rw[Array.toList_append,Array.toList_append,List.append_assoc]
 have h2:u.cps.toList++([c]++v.cps.toList)=u.cps.toList++([c']++v.cps.toList):=by rw[<-e,<-e];exact h1
 have h3:=List.append_cancel_left h2
 exact(List.cons.inj h3).1
theorem b0B:∀y∈bases,∀a∈List.range (y.length+1),∀k∈List.range 8,a1C (nmF y ((a:Nat):Int) (97+k)):=by decide +kernel
noncomputable def a7z (f:Int):Str:=bases.getD (f % 5).toNat ""
noncomputable def M4 (f:Int) (k:Nat):Str:=nmF (a7z f) (f/5 % (((a7z f).length:Int)+1)) (97+k)
theorem a4F{f:Int}{k k':Nat}(h:M4 f k=M4 f k'):k=k':=by
 have:=b2K h
 omega
theorem a7p(f:Int):a7z f∈bases:=by
 have:∀i:Nat,i < 5->bases.getD i "" ∈bases:=by decide +kernel
 exact this _ (by omega)
theorem a6n(f:Int){k:Nat}(h:k < 8):a1C (M4 f k):=by
 unfold M4
 have hy:=a7p f
 generalize a7z f=y at hy
 have h0:0<=f/5 % ((y.length:Int)+1):=Int.emod_nonneg _ (by omega)
 have h1:f/5 % ((y.length:Int)+1) < (y.length:Int)+1:=Int.emod_lt_of_pos _ (by omega)
 have:=b0B y hy (f/5 % ((y.length:Int)+1)).toNat (by rw[List.mem_range];omega) k (List.mem_range.mpr h)
 rw[show(((f/5 % ((y.length:Int)+1)).toNat:Nat):Int)=f/5 % ((y.length:Int)+1)by omega]at this
 exact this
noncomputable def b2w:Sp:=fun vs H Q _=>∃f z:Int,vs=[.int f,.int z]/\0<=z/\z < 8/\∀H':Hp,J4 H H'->Q (.str (M4 f z.toNat)) H'
theorem b1b(T:Txt K mg):L2.Cl P w K mg base 1 "_law_name" ["_law_form","_law_k"] b2w:=by
 refine Cl.of T.d_law_name a2w (fun vs H Q E h=>?_) (fun _ _ _ _ _ _ us hl=>len2 us hl (fun _ _=>rfl)) (fun fa cdv A outer s H vs Q E hr h=>?_)
 ·obtain⟨f,k,rfl,_⟩:=h
  rfl
 ·obtain⟨f,z,rfl,hz0,hz1,q⟩:=h
  obtain⟨k,rfl⟩:∃k:Nat,z=(k:Int):=⟨z.toNat,by omega⟩
  have ey:atI (bases.map V.str) (f % 5)=some (.str (a7z f)):=a6G V.str bases "" (by omega) (by show f % 5 < 5;omega)
  have hy:=a7p f
  have ec:atI b1n.cps.toList (k:Int)=some (97+k):=b1f k (by omega)
  have hq:∀H':Hp,J4 H H'->Q (.str (nmF (a7z f) (f/5 % (((a7z f).length:Int)+1)) (97+k))) H':=q
  clear q
  generalize a7z f=y at ey hy hq
  refine⟨_,(I0 (U1 (i:=2) a2w.nd rfl (Or.inl rfl) (J7 W9 (O4 (b2g (.cons (.cons (.cons (.cons (.cons .nil))))))) (U6 a0M (pv 0) G9) (fun _ _=>rfl)))
   (I0 (U1 (i:=3) a2w.nd rfl (Or.inl rfl) (U6 a0M (U6 a0X (pv 0) G9) (U6 a4G (Y1 a6m (by rfl) T.n_len PySem.boot_len (G0 (pv 2) G8)) G9)))
   (J1 (R3 (U6 a5h (U6 a5h (a2s a8R (pv 2) a4o (a2y (pv 3))) (J7 b3X R4 (pv 1) (fun _ _=>rfl))) (a2s a8R (pv 2) (a2y (pv 3)) a4o)))))),?_⟩
  refine⟨(by show 5<=sizeLine;decide),fun l gl=>?_⟩
  refine⟨_,rfl,_,_,rfl,rfl,(by show(0:Int) < 5;decide),l,_,_,_,rfl,rfl,SqL.of G7,ey,?_⟩
  have s1:=(J4.refl H).new (o:= .lst (bases.map V.str)) gl
  obtain⟨a,ha,hae⟩:∃a:Nat,a∈List.range (y.length+1)/\f/5 % ((y.length:Int)+1)=(a:Int):=by
   have h0:0<=f/5 % ((y.length:Int)+1):=Int.emod_nonneg _ (by omega)
   have h1:f/5 % ((y.length:Int)+1) < (y.length:Int)+1:=Int.emod_lt_of_pos _ (by omega)
   exact⟨(f/5 % ((y.length:Int)+1)).toNat,by rw[List.mem_range];omega,by omega⟩
  obtain⟨h2,h3,h4⟩:=b2d y hy a ha
  have hsz:sizeLine=16777216:=sizeLine_eq
  rw[hae]at hq
  refine⟨_,rfl,_,_,rfl,rfl,⟨by decide,by decide⟩,_,rfl,_,rfl,(by omega),_,_,rfl,rfl,_,_,rfl,rfl,(by show(0:Int) < (y.length:Int)+1;omega),?_⟩
  dsimp only
  rw[hae]
  refine⟨_,rfl,_,rfl,_,rfl,y,rfl,(by omega),?_⟩
  refine⟨_,rfl,b1n,_,97+k,rfl,rfl,(by show 8<=sizeLine;decide),ec,?_⟩
  refine⟨_,_,rfl,rfl,(by show _+1<=sizeLine;omega),?_⟩
  refine⟨_,rfl,_,rfl,_,rfl,y,rfl,(by omega),?_⟩
  refine⟨_,_,rfl,rfl,(by rw[Str.length_append];show(_+1)+_<=sizeLine;omega),?_⟩
  exact hq _ s1
theorem a8V{H:Hp}{n:Int}{t1 t r:Addr}(h1:H t1=some (.tup [.int 1,.int n]))(ht:H t=some (.tup [.ref t1]))(hr:H r=some (.tup [.str "say",.ref t,.non]))(hn:0<=n/\n < 10 ^ 60):O5 H r (a0N n):=
 ⟨t,hr,⟨⟨[.ref t1],ht,.cons ⟨t1,rfl,h1,hn⟩ .nil⟩,(by show 1<=1;decide),(by show 1<=6;decide)⟩⟩
theorem b0t{H:Hp}{p g o:Str}{t1 t r:Addr}(h1:H t1=some (.tup [.str g,.str o]))(ht:H t=some (.tup [.ref t1]))(hr:H r=some (.tup [.str "bring",.str p,.ref t]))(hg:a1C g)(ho:a1C o):O5 H r (.bring p [(g,o)]):=
 ⟨t,hr,⟨⟨[.ref t1],ht,.cons ⟨t1,rfl,h1,hg,ho⟩ .nil⟩,(by show 1<=6;decide)⟩⟩
theorem a9l{H:Hp}{x:Str}{n:Int}{t1 t2 t:Addr}(h1:H t1=some (.tup [.int 1,.str x]))(h2:H t2=some (.tup [.int 1,.int n]))(ht:H t=some (.tup [.ref t1,.ref t2]))(hx:a1C x)(hn:0<=n/\n < 10 ^ 60):E7 H t [(1,.nam x),(1,.num n)]:=
 ⟨⟨[.ref t1,.ref t2],ht,.cons ⟨t1,rfl,h1,hx⟩ (.cons ⟨t2,rfl,h2,hn⟩ .nil)⟩,(by show 1<=2;decide),(by show 2<=6;decide)⟩
theorem b2p{H:Hp}{x:Str}{t1 t:Addr}(h1:H t1=some (.tup [.int 1,.str x]))(ht:H t=some (.tup [.ref t1]))(hx:a1C x):E7 H t [(1,.nam x)]:=
 ⟨⟨[.ref t1],ht,.cons ⟨t1,rfl,h1,hx⟩ .nil⟩,(by show 1<=1;decide),(by show 1<=6;decide)⟩
noncomputable def PsL (H:Hp) (x:Addr) (ps:List Pt):Prop:=∃us,H x=some (.lst us)/\Paired (a1E H) us ps
noncomputable def b1Y (K:W.Frag):Sp:=fun vs H Q _=>∃(a:Addr)(ns:List Int),vs=[.ref a]/\SqL K H a (ns.map V.int)/\∀(x:Addr)(D:D6)(H':Hp),J4 H H'->PsL H' x (ps6 D true)->a5E D->Q (.ref x) H'
theorem b1e(ns:List Int):∃ms:List Int,a5J (ns.map V.int) (some 5) (some 45)=ms.map V.int/\ms.length<=40:=by
 refine⟨(ns.drop (min 5 (ns.map V.int).length)).take (min 45 (ns.map V.int).length - min 5 (ns.map V.int).length),?_,by rw[AR];omega⟩
 unfold a5J
 rw[show(some (5:Int))=some ((5:Nat):Int)from rfl,show(some (45:Int))=some ((45:Nat):Int)from rfl,HT.a9g,HT.a9g,List.map_take,List.map_drop]
theorem a2Z{t:TT}{B R:TS}{D:a1T}{σ:L2.St}{H:Hp}(C:Bool->Hp->Prop)(J:L2.St->Hp->Prop)(ht:∀Q:Bool->Hp->Prop,(∀b H1,C b H1->Q b H1)->t σ H Q)(h1:∀H1,C true H1->∀D':a1T,(∀σ' H',J σ' H'->D'.nx σ' H')->B D' σ H1)(h2:∀H1,C false H1->J σ H1)(hR:∀σ' H',J σ' H'->R D σ' H'):a6C (b4K t B b1y) R D σ H:=by
 refine ht _ fun b H1 hc=>?_
 cases b with
 | true=>exact a0I (h1 H1 hc _ fun σ' H' j=>hR σ' H' j)
 | false=>exact O7 (hR σ H1 (h2 H1 hc))
theorem b3O{X R:TS}{D:a1T}{r:VK}{b k:L2.St->Hp->Prop}{i:Nat}{v:V}{σ:L2.St}{H:Hp}(h:a6C X R D (σ.set i (some v)) H):a3T i v σ H (a1T.nx ⟨a6C X R D,r,b,k⟩):=h
theorem a7r{K:W.Frag}{a:Addr}{xs:List V}{g:TG}{tt:TT}{te:TE}{Q:Hp->Prop}{σ:L2.St}{H:Hp}{D:Addr}(Pv:Nat->L2.St->Hp->Prop)(h0:Pv 0 σ (upd H D (.lst [])))
  (hl:∀i σ2 H2,Pv i σ2 H2->SqL K H2 a xs)
  (hs:∀i x σ2 H2,xs[i]?=some x->Pv i σ2 H2->g x σ2 H2 fun σ4 H4=>tt σ4 H4 fun b H5=>
   if b=true then te σ4 H5 fun y H6=>∃ys,H6 D=some (.lst ys)/\ys.length < sizeLine/\Pv (i+1) σ4 (upd H6 D (.lst (ys++[y])))else Pv (i+1) σ4 H5)
  (hd:∀σ2 H2,Pv xs.length σ2 H2->Q H2):
  ∃W:Nat->Nat->L2.St->Hp->Prop,(∃m,W 0 m σ (upd H D (.lst [])))/\∀i m σ2 H2,W i m σ2 H2->
   ((Itl K a).stop i H2/\Q H2)\/((Itl K a).go i H2/\∃N:L2.St->Hp->Prop,(∀σ' H',N σ' H'->∃m',m' < m/\W (i+1) m' σ' H')/\∀x H3,(Itl K a).yld i H2 x H3->g x σ2 H3 fun σ4 H4=>tt σ4 H4 fun b H5=>
    if b=true then te σ4 H5 fun y H6=>∃ys,H6 D=some (.lst ys)/\ys.length < sizeLine/\N σ4 (upd H6 D (.lst (ys++[y])))else N σ4 H5):=by
 refine a2V xs.length Pv h0 (fun i σ2 H2 hi p=>?_) fun σ2 H2 p=>⟨⟨xs,hl _ _ _ p,AD _⟩,hd _ _ p⟩
 have e:=AW hi
 refine⟨⟨xs,_,hl _ _ _ p,e⟩,fun x H3 hy=>?_⟩
 obtain⟨rfl,hx⟩:=hy
 exact hs i x σ2 H3 (hx xs (hl _ _ _ p)) p
noncomputable def a2N (H:Hp) (v:V) (rw:Rw):Prop:=∃r,v= .ref r/\O5 H r rw
theorem a2N.mono{H H':Hp}{v:V}{rw:Rw}(h:a2N H v rw)(s:J4 H H'):a2N H' v rw:=by
 obtain⟨r,e,h1⟩:=h
 exact⟨r,e,h1.mono s.tups⟩
theorem b0n(T:Txt K mg):L2.Cl P w K mg base 2 "_law_parts" ["_law_script"] (b1Y K):=by
 have C_law_cell_at:=a9h (P:=P) (w:=w) (base:=base) T
 have C_law_name:=b1b (P:=P) (w:=w) (base:=base) T
 refine Cl.of T.d_law_parts Z7 (fun vs H Q E h=>?_) (fun _ _ _ _ _ _ us hl=>len1 us hl (fun _=>rfl)) (fun fa cdv A outer s H vs Q E hr h=>?_)
 ·obtain⟨a,ns,rfl,_⟩:=h
  rfl
 ·obtain⟨a,ns,rfl,hS,q⟩:=h
  refine⟨_,(@I0 _ _ _ _ _ (@U1 _ _ (1) _ _ _ _ Z7.nd rfl (Or.inl rfl) (@W2 _ _ _ _ _ _ _ _ _ _ _ C_law_cell_at hr (by rfl) (@G0 _ _ _ _ _ (@pv _ 0 _ _ (by rfl) (by first | exact Or.inl rfl | exact Or.inr (Or.inl rfl) | exact Or.inr (Or.inr rfl)) (by decide) (by decide)) (@G0 _ _ _ _ _ (@G9 _ _ _ _) (@G8 _) (by rfl)) (by rfl)) (by decide) (by decide) (by rfl) (by rfl)) (by rfl) (by first | exact .inl rfl | exact .inr rfl | assumption)) (@I0 _ _ _ _ _ (@U1 _ _ (2) _ _ _ _ Z7.nd rfl (Or.inl rfl) (@W2 _ _ _ _ _ _ _ _ _ _ _ C_law_name hr (by rfl) (@G0 _ _ _ _ _ (@U6 _ _ _ _ _ _ _ _ (@a0X _) (@pv _ 1 _ _ (by rfl) (by first | exact Or.inl rfl | exact Or.inr (Or.inl rfl) | exact Or.inr (Or.inr rfl)) (by decide) (by decide)) (@G9 _ _ _ _)) (@G0 _ _ _ _ _ (@U6 _ _ _ _ _ _ _ _ (@a0M _) (@W2 _ _ _ _ _ _ _ _ _ _ _ C_law_cell_at hr (by rfl) (@G0 _ _ _ _ _ (@pv _ 0 _ _ (by rfl) (by first | exact Or.inl rfl | exact Or.inr (Or.inl rfl) | exact Or.inr (Or.inr rfl)) (by decide) (by decide)) (@G0 _ _ _ _ _ (@G9 _ _ _ _) (@G8 _) (by rfl)) (by rfl)) (by decide) (by decide) (by rfl) (by rfl)) (@G9 _ _ _ _)) (@G8 _) (by rfl)) (by rfl)) (by decide) (by decide) (by rfl) (by rfl)) (by rfl) (by first | exact .inl rfl | exact .inr rfl | assumption)) (@I0 _ _ _ _ _ (@U1 _ _ (3) _ _ _ _ Z7.nd rfl (Or.inl rfl) (@W2 _ _ _ _ _ _ _ _ _ _ _ C_law_name hr (by rfl) (@G0 _ _ _ _ _ (@U6 _ _ _ _ _ _ _ _ (@a0X _) (@pv _ 1 _ _ (by rfl) (by first | exact Or.inl rfl | exact Or.inr (Or.inl rfl) | exact Or.inr (Or.inr rfl)) (by decide) (by decide)) (@G9 _ _ _ _)) (@G0 _ _ _ _ _ (@U6 _ _ _ _ _ _ _ _ (@a0M _) (@U6 _ _ _ _ _ _ _ _ (@a0X _) (@W2 _ _ _ _ _ _ _ _ _ _ _ C_law_cell_at hr (by rfl) (@G0 _ _ _ _ _ (@pv _ 0 _ _ (by rfl) (by first | exact Or.inl rfl | exact Or.inr (Or.inl rfl) | exact Or.inr (Or.inr rfl)) (by decide) (by decide)) (@G0 _ _ _ _ _ (@G9 _ _ _ _) (@G8 _) (by rfl)) (by rfl)) (by decide) (by decide) (by rfl) (by rfl)) (@G9 _ _ _ _)) (@G9 _ _ _ _)) (@G8 _) (by rfl)) (by rfl)) (by decide) (by decide) (by rfl) (by rfl)) (by rfl) (by first | exact .inl rfl | exact .inr rfl | assumption)) (@I0 _ _ _ _ _ (@U1 _ _ (4) _ _ _ _ Z7.nd rfl (Or.inl rfl) (@W2 _ _ _ _ _ _ _ _ _ _ _ C_law_name hr (by rfl) (@G0 _ _ _ _ _ (@U6 _ _ _ _ _ _ _ _ (@a0X _) (@pv _ 1 _ _ (by rfl) (by first | exact Or.inl rfl | exact Or.inr (Or.inl rfl) | exact Or.inr (Or.inr rfl)) (by decide) (by decide)) (@G9 _ _ _ _)) (@G0 _ _ _ _ _ (@U6 _ _ _ _ _ _ _ _ (@a0M _) (@U6 _ _ _ _ _ _ _ _ (@a0X _) (@W2 _ _ _ _ _ _ _ _ _ _ _ C_law_cell_at hr (by rfl) (@G0 _ _ _ _ _ (@pv _ 0 _ _ (by rfl) (by first | exact Or.inl rfl | exact Or.inr (Or.inl rfl) | exact Or.inr (Or.inr rfl)) (by decide) (by decide)) (@G0 _ _ _ _ _ (@G9 _ _ _ _) (@G8 _) (by rfl)) (by rfl)) (by decide) (by decide) (by rfl) (by rfl)) (@G9 _ _ _ _)) (@G9 _ _ _ _)) (@G8 _) (by rfl)) (by rfl)) (by decide) (by decide) (by rfl) (by rfl)) (by rfl) (by first | exact .inl rfl | exact .inr rfl | assumption)) (@I0 _ _ _ _ _ (@U1 _ _ (5) _ _ _ _ Z7.nd rfl (Or.inl rfl) (@O4 _ _ _ _ (@G0 _ _ _ _ _ (@J5 _ _ _ _ _ (@G0 _ _ _ _ _ (@R4 _ _ _ _) (@G0 _ _ _ _ _ (@W2 _ _ _ _ _ _ _ _ _ _ _ C_law_name hr (by rfl) (@G0 _ _ _ _ _ (@pv _ 1 _ _ (by rfl) (by first | exact Or.inl rfl | exact Or.inr (Or.inl rfl) | exact Or.inr (Or.inr rfl)) (by decide) (by decide)) (@G0 _ _ _ _ _ (@G9 _ _ _ _) (@G8 _) (by rfl)) (by rfl)) (by decide) (by decide) (by rfl) (by rfl)) (@G0 _ _ _ _ _ (@J5 _ _ _ _ _ (@G0 _ _ _ _ _ (@J5 _ _ _ _ _ (@G0 _ _ _ _ _ (@pv _ 4 _ _ (by rfl) (by first | exact Or.inl rfl | exact Or.inr (Or.inl rfl) | exact Or.inr (Or.inr rfl)) (by decide) (by decide)) (@G0 _ _ _ _ _ (@pv _ 2 _ _ (by rfl) (by first | exact Or.inl rfl | exact Or.inr (Or.inl rfl) | exact Or.inr (Or.inr rfl)) (by decide) (by decide)) (@G8 _) (by rfl)) (by rfl))) (@G8 _) (by rfl))) (@G8 _) (by rfl)) (by rfl)) (by rfl))) (@G0 _ _ _ _ _ (@J5 _ _ _ _ _ (@G0 _ _ _ _ _ (@R4 _ _ _ _) (@G0 _ _ _ _ _ (@J5 _ _ _ _ _ (@G0 _ _ _ _ _ (@J5 _ _ _ _ _ (@G0 _ _ _ _ _ (@G9 _ _ _ _) (@G0 _ _ _ _ _ (@pv _ 2 _ _ (by rfl) (by first | exact Or.inl rfl | exact Or.inr (Or.inl rfl) | exact Or.inr (Or.inr rfl)) (by decide) (by decide)) (@G8 _) (by rfl)) (by rfl))) (@G0 _ _ _ _ _ (@J5 _ _ _ _ _ (@G0 _ _ _ _ _ (@G9 _ _ _ _) (@G0 _ _ _ _ _ (@G9 _ _ _ _) (@G8 _) (by rfl)) (by rfl))) (@G8 _) (by rfl)) (by rfl))) (@G0 _ _ _ _ _ (@a1q _ _ _) (@G8 _) (by rfl)) (by rfl)) (by rfl))) (@G8 _) (by rfl)) (by rfl))) (by rfl) (by first | exact .inl rfl | exact .inr rfl | assumption)) (@I0 _ _ _ _ _ (@U1 _ _ (5) _ _ _ _ Z7.nd rfl (Or.inl rfl) (@U6 _ _ _ _ _ _ _ _ (@a4C _) (@pv _ 5 _ _ (by rfl) (by first | exact Or.inl rfl | exact Or.inr (Or.inl rfl) | exact Or.inr (Or.inr rfl)) (by decide) (by decide)) (@O4 _ _ _ _ (@G0 _ _ _ _ _ (@J5 _ _ _ _ _ (@G0 _ _ _ _ _ (@R4 _ _ _ _) (@G0 _ _ _ _ _ (@J5 _ _ _ _ _ (@G0 _ _ _ _ _ (@J5 _ _ _ _ _ (@G0 _ _ _ _ _ (@G9 _ _ _ _) (@G0 _ _ _ _ _ (@pv _ 2 _ _ (by rfl) (by first | exact Or.inl rfl | exact Or.inr (Or.inl rfl) | exact Or.inr (Or.inr rfl)) (by decide) (by decide)) (@G8 _) (by rfl)) (by rfl))) (@G0 _ _ _ _ _ (@J5 _ _ _ _ _ (@G0 _ _ _ _ _ (@G9 _ _ _ _) (@G0 _ _ _ _ _ (@G9 _ _ _ _) (@G8 _) (by rfl)) (by rfl))) (@G8 _) (by rfl)) (by rfl))) (@G8 _) (by rfl)) (by rfl))) (@G0 _ _ _ _ _ (@J5 _ _ _ _ _ (@G0 _ _ _ _ _ (@R4 _ _ _ _) (@G0 _ _ _ _ _ (@W2 _ _ _ _ _ _ _ _ _ _ _ C_law_name hr (by rfl) (@G0 _ _ _ _ _ (@pv _ 1 _ _ (by rfl) (by first | exact Or.inl rfl | exact Or.inr (Or.inl rfl) | exact Or.inr (Or.inr rfl)) (by decide) (by decide)) (@G0 _ _ _ _ _ (@G9 _ _ _ _) (@G8 _) (by rfl)) (by rfl)) (by decide) (by decide) (by rfl) (by rfl)) (@G0 _ _ _ _ _ (@pv _ 2 _ _ (by rfl) (by first | exact Or.inl rfl | exact Or.inr (Or.inl rfl) | exact Or.inr (Or.inr rfl)) (by decide) (by decide)) (@G8 _) (by rfl)) (by rfl)) (by rfl))) (@G0 _ _ _ _ _ (@J5 _ _ _ _ _ (@G0 _ _ _ _ _ (@R4 _ _ _ _) (@G0 _ _ _ _ _ (@J5 _ _ _ _ _ (@G0 _ _ _ _ _ (@J5 _ _ _ _ _ (@G0 _ _ _ _ _ (@G9 _ _ _ _) (@G0 _ _ _ _ _ (@pv _ 2 _ _ (by rfl) (by first | exact Or.inl rfl | exact Or.inr (Or.inl rfl) | exact Or.inr (Or.inr rfl)) (by decide) (by decide)) (@G8 _) (by rfl)) (by rfl))) (@G8 _) (by rfl))) (@G0 _ _ _ _ _ (@a1q _ _ _) (@G8 _) (by rfl)) (by rfl)) (by rfl))) (@G8 _) (by rfl)) (by rfl)) (by rfl)))) (by rfl) (by first | exact .inl rfl | exact .inr rfl | assumption)) (@I0 _ _ _ _ _ (@U1 _ _ (6) _ _ _ _ Z7.nd rfl (Or.inl rfl) (@O4 _ _ _ _ (@G0 _ _ _ _ _ (@J5 _ _ _ _ _ (@G0 _ _ _ _ _ (@R4 _ _ _ _) (@G0 _ _ _ _ _ (@pv _ 3 _ _ (by rfl) (by first | exact Or.inl rfl | exact Or.inr (Or.inl rfl) | exact Or.inr (Or.inr rfl)) (by decide) (by decide)) (@G8 _) (by rfl)) (by rfl))) (@G0 _ _ _ _ _ (@J5 _ _ _ _ _ (@G0 _ _ _ _ _ (@R4 _ _ _ _) (@G0 _ _ _ _ _ (@J5 _ _ _ _ _ (@G0 _ _ _ _ _ (@J5 _ _ _ _ _ (@G0 _ _ _ _ _ (@G9 _ _ _ _) (@G0 _ _ _ _ _ (@G9 _ _ _ _) (@G8 _) (by rfl)) (by rfl))) (@G8 _) (by rfl))) (@G0 _ _ _ _ _ (@a1q _ _ _) (@G8 _) (by rfl)) (by rfl)) (by rfl))) (@G0 _ _ _ _ _ (@J5 _ _ _ _ _ (@G0 _ _ _ _ _ (@R4 _ _ _ _) (@G0 _ _ _ _ _ (@pv _ 3 _ _ (by rfl) (by first | exact Or.inl rfl | exact Or.inr (Or.inl rfl) | exact Or.inr (Or.inr rfl)) (by decide) (by decide)) (@G0 _ _ _ _ _ (@pv _ 4 _ _ (by rfl) (by first | exact Or.inl rfl | exact Or.inr (Or.inl rfl) | exact Or.inr (Or.inr rfl)) (by decide) (by decide)) (@G8 _) (by rfl)) (by rfl)) (by rfl))) (@G8 _) (by rfl)) (by rfl)) (by rfl))) (by rfl) (by first | exact .inl rfl | exact .inr rfl | assumption)) (@I0 _ _ _ _ _ (@W1 _ _ _ _ _ _ _ _ (@U0 _ _ _ _ _ _ _ _ (@D4 _) (@U6 _ _ _ _ _ _ _ _ (@a0M _) (@W2 _ _ _ _ _ _ _ _ _ _ _ C_law_cell_at hr (by rfl) (@G0 _ _ _ _ _ (@pv _ 0 _ _ (by rfl) (by first | exact Or.inl rfl | exact Or.inr (Or.inl rfl) | exact Or.inr (Or.inr rfl)) (by decide) (by decide)) (@G0 _ _ _ _ _ (@G9 _ _ _ _) (@G8 _) (by rfl)) (by rfl)) (by decide) (by decide) (by rfl) (by rfl)) (@G9 _ _ _ _)) (@G9 _ _ _ _) (U8 _)) (@J1 _ _ _ (@U1 _ _ (6) _ _ _ _ Z7.nd rfl (Or.inl rfl) (@O4 _ _ _ _ (@G0 _ _ _ _ _ (@J7 _ _ _ _ _ _ _ W9 (@pv _ 6 _ _ (by rfl) (by first | exact Or.inl rfl | exact Or.inr (Or.inl rfl) | exact Or.inr (Or.inr rfl)) (by decide) (by decide)) (@G9 _ _ _ _) (fun _ _=>rfl)) (@G0 _ _ _ _ _ (@J7 _ _ _ _ _ _ _ W9 (@pv _ 6 _ _ (by rfl) (by first | exact Or.inl rfl | exact Or.inr (Or.inl rfl) | exact Or.inr (Or.inr rfl)) (by decide) (by decide)) (@G9 _ _ _ _) (fun _ _=>rfl)) (@G0 _ _ _ _ _ (@J7 _ _ _ _ _ _ _ W9 (@pv _ 6 _ _ (by rfl) (by first | exact Or.inl rfl | exact Or.inr (Or.inl rfl) | exact Or.inr (Or.inr rfl)) (by decide) (by decide)) (@G9 _ _ _ _) (fun _ _=>rfl)) (@G8 _) (by rfl)) (by rfl)) (by rfl))) (by rfl) (by first | exact .inl rfl | exact .inr rfl | assumption))) (@R8 _)) (@I0 _ _ _ _ _ (@a7a _ _ _ _ _ _ _ (["_law_cell"]) ([none]) _ _ _ _ (7) _ _ _ (I9 a0g) ["_law_script","_law_form","_law_own","_law_there","_law_given","_law_one","_law_two","_law_three"] ⟨rfl,by decide +kernel,by decide +kernel,by decide +kernel,rfl,by decide +kernel,by decide +kernel⟩ Z7.nd rfl (Or.inl rfl) (@a1O _ _ _ _ (@a2s _ _ _ _ _ _ _ _ _ _ b2n (@pv _ 0 _ _ (by rfl) (by first | exact Or.inl rfl | exact Or.inr (Or.inl rfl) | exact Or.inr (Or.inr rfl)) (by decide) (by decide)) (@a2y _ _ _ (@G9 _ _ _ _)) (@a2y _ _ _ (@G9 _ _ _ _)))) (fun _ _ _ _ _ _=>(@R5 _ _ (0) _ (show(["_law_cell"]:List Str).Nodup by decide +kernel) rfl (Or.inl rfl) (by first | exact .inl rfl | exact .inr rfl | assumption))) (fun _ _ _ _ _ _=>@a3t _) (fun _ _ _ _ _ _=>(@J5 _ _ _ _ _ (@G0 _ _ _ _ _ (@R4 _ _ _ _) (@G0 _ _ _ _ _ (@J5 _ _ _ _ _ (@G0 _ _ _ _ _ (@J5 _ _ _ _ _ (@G0 _ _ _ _ _ (@G9 _ _ _ _) (@G0 _ _ _ _ _ (@U6 _ _ _ _ _ _ _ _ (@a0M _) (@pv _ 0 _ _ (by rfl) (by first | exact Or.inl rfl | exact Or.inr (Or.inl rfl) | exact Or.inr (Or.inr rfl)) (by decide) (by decide)) (@U6 _ _ _ _ _ _ _ _ (@a7Z _) (@G9 _ _ _ _) (@G9 _ _ _ _))) (@G8 _) (by rfl)) (by rfl))) (@G8 _) (by rfl))) (@G0 _ _ _ _ _ (@a1q _ _ _) (@G8 _) (by rfl)) (by rfl)) (by rfl)))) (by rfl) (by rfl) (by rfl) (by rfl) (by intro _;rfl) (by first | exact .inl rfl | exact .inr rfl | assumption)) (@J1 _ _ _ (@R3 _ _ _ _ (@O4 _ _ _ _ (@G0 _ _ _ _ _ (@J5 _ _ _ _ _ (@G0 _ _ _ _ _ (@W2 _ _ _ _ _ _ _ _ _ _ _ C_law_name hr (by rfl) (@G0 _ _ _ _ _ (@pv _ 1 _ _ (by rfl) (by first | exact Or.inl rfl | exact Or.inr (Or.inl rfl) | exact Or.inr (Or.inr rfl)) (by decide) (by decide)) (@G0 _ _ _ _ _ (@G9 _ _ _ _) (@G8 _) (by rfl)) (by rfl)) (by decide) (by decide) (by rfl) (by rfl)) (@G0 _ _ _ _ _ (@W8 _ _ _ _ _ _ _ _ _ (@U7 _) (by rfl) T.n_tuple boot_tuple (@G0 _ _ _ _ _ (@pv _ 5 _ _ (by rfl) (by first | exact Or.inl rfl | exact Or.inr (Or.inl rfl) | exact Or.inr (Or.inr rfl)) (by decide) (by decide)) (@G8 _) (by rfl)) (by decide) (by decide) (by rfl) (by rfl)) (@G8 _) (by rfl)) (by rfl))) (@G0 _ _ _ _ _ (@J5 _ _ _ _ _ (@G0 _ _ _ _ _ (@W2 _ _ _ _ _ _ _ _ _ _ _ C_law_name hr (by rfl) (@G0 _ _ _ _ _ (@pv _ 1 _ _ (by rfl) (by first | exact Or.inl rfl | exact Or.inr (Or.inl rfl) | exact Or.inr (Or.inr rfl)) (by decide) (by decide)) (@G0 _ _ _ _ _ (@G9 _ _ _ _) (@G8 _) (by rfl)) (by rfl)) (by decide) (by decide) (by rfl) (by rfl)) (@G0 _ _ _ _ _ (@W8 _ _ _ _ _ _ _ _ _ (@U7 _) (by rfl) T.n_tuple boot_tuple (@G0 _ _ _ _ _ (@pv _ 6 _ _ (by rfl) (by first | exact Or.inl rfl | exact Or.inr (Or.inl rfl) | exact Or.inr (Or.inr rfl)) (by decide) (by decide)) (@G8 _) (by rfl)) (by decide) (by decide) (by rfl) (by rfl)) (@G8 _) (by rfl)) (by rfl))) (@G0 _ _ _ _ _ (@J5 _ _ _ _ _ (@G0 _ _ _ _ _ (@W2 _ _ _ _ _ _ _ _ _ _ _ C_law_name hr (by rfl) (@G0 _ _ _ _ _ (@pv _ 1 _ _ (by rfl) (by first | exact Or.inl rfl | exact Or.inr (Or.inl rfl) | exact Or.inr (Or.inr rfl)) (by decide) (by decide)) (@G0 _ _ _ _ _ (@G9 _ _ _ _) (@G8 _) (by rfl)) (by rfl)) (by decide) (by decide) (by rfl) (by rfl)) (@G0 _ _ _ _ _ (@W8 _ _ _ _ _ _ _ _ _ (@U7 _) (by rfl) T.n_tuple boot_tuple (@G0 _ _ _ _ _ (@pv _ 7 _ _ (by rfl) (by first | exact Or.inl rfl | exact Or.inr (Or.inl rfl) | exact Or.inr (Or.inr rfl)) (by decide) (by decide)) (@G8 _) (by rfl)) (by decide) (by decide) (by rfl) (by rfl)) (@G8 _) (by rfl)) (by rfl))) (@G8 _) (by rfl)) (by rfl)) (by rfl)))))))))))))),?_⟩
  refine⟨_,rfl,a,ns,0,rfl,hS,by decide,fun f=>?_⟩
  refine⟨_,rfl,_,_,rfl,rfl,⟨by decide,by decide⟩,_,rfl,a,ns,1,rfl,hS,by decide,fun c1=>⟨_,_,rfl,rfl,(by show(0:Int) < 8;decide),f/7,c1 % 8,rfl,by omega,by omega,fun H1 s1=>?_⟩⟩
  have hown:=a6n (f/7) (k:=(c1 % 8).toNat) (by omega)
  generalize M4 (f/7) (c1 % 8).toNat=own at hown⊢
  refine⟨_,rfl,_,_,rfl,rfl,⟨by decide,by decide⟩,_,rfl,a,ns,1,rfl,s1.seq hS,by decide,fun c2=>⟨_,_,rfl,rfl,⟨by decide,by decide⟩,_,_,rfl,rfl,(by show(0:Int) < 8;decide),f/7,c2/8 % 8,rfl,by omega,by omega,fun H2 s2=>?_⟩⟩
  have hthe:=a6n (f/7) (k:=(c2/8 % 8).toNat) (by omega)
  generalize M4 (f/7) (c2/8 % 8).toNat=there at hthe⊢
  have sH2:=s1.trans s2
  refine⟨_,rfl,_,_,rfl,rfl,⟨by decide,by decide⟩,_,rfl,a,ns,1,rfl,sH2.seq hS,by decide,fun c3=>⟨_,_,rfl,rfl,⟨by decide,by decide⟩,_,_,rfl,rfl,(by show(0:Int) < 8;decide),f/7,c3/64 % 8,rfl,by omega,by omega,fun H3 s3=>?_⟩⟩
  have hgiv:=a6n (f/7) (k:=(c3/64 % 8).toNat) (by omega)
  generalize M4 (f/7) (c3/64 % 8).toNat=given at hgiv⊢
  have sH3:=sH2.trans s3
  refine⟨_,rfl,f,1,rfl,by decide,by decide,fun H4 s4=>⟨_,rfl,_,rfl,E1,fun t1 g1=>⟨a3y,fun t2 g2=>⟨a2b,fun t3 g3=>?_⟩⟩⟩⟩
  obtain⟨H5,e5,s5,r5⟩:∃H5,upd (upd (upd H4 t1 (.tup [.str given,.str own])) t2 (.tup [.ref t1])) t3 (.tup [.str "bring",.str (M4 f (1:Int).toNat),.ref t2])=H5/\J4 H4 H5/\O5 H5 t3 (.bring (M4 f 1) [(given,own)]):=
   ⟨_,rfl,(((J4.refl H4).new g1).new g2).new g3,b0t (J2 (J2 G7 g2) g3) (J2 G7 g3) G7 hgiv hown⟩
  rw[e5]
  refine⟨_,rfl,E1,fun t4 g4=>⟨E1,fun t5 g5=>⟨E1,fun t6 g6=>⟨a2b,fun t7 g7=>?_⟩⟩⟩⟩
  obtain⟨H6,e6,s6,r6⟩:∃H6,upd (upd (upd (upd H5 t4 (.tup [.int 1,.str own])) t5 (.tup [.int 1,.int 4])) t6 (.tup [.ref t4,.ref t5])) t7 (.tup [.str "say",.ref t6,.non])=H6/\J4 H5 H6/\O5 H6 t7 (.say [(1,.nam own),(1,.num 4)] none):=
   ⟨_,rfl,((((J4.refl H5).new g4).new g5).new g6).new g7,t6,G7,a9l (J2 (J2 (J2 G7 g5) g6) g7) (J2 (J2 G7 g6) g7) (J2 G7 g7) hown (by decide)⟩
  rw[e6]
  refine⟨E1,fun l1 gl1=>?_⟩
  obtain⟨H7,e7,s7,h7⟩:∃H7,upd H6 l1 (.lst [.ref t3,.ref t7])=H7/\J4 H6 H7/\H7 l1=some (.lst [.ref t3,.ref t7]):=⟨_,rfl,(J4.refl H6).new gl1,G7⟩
  rw[e7]
  have r5:=r5.mono (s6.trans s7).tups
  have r6:=r6.mono s7.tups
  refine⟨_,rfl,_,rfl,E1,fun u1 k1=>⟨E1,fun u2 k2=>⟨E1,fun u3 k3=>⟨E1,fun u4 k4=>?_⟩⟩⟩⟩
  obtain⟨H8,e8,s8,r8⟩:∃H8,upd (upd (upd (upd H7 u1 (.tup [.int 1,.str own])) u2 (.tup [.int 1,.int 2])) u3 (.tup [.ref u1,.ref u2])) u4 (.tup [.str "need",.ref u3])=H8/\J4 H7 H8/\O5 H8 u4 (.need [(1,.nam own),(1,.num 2)]):=
   ⟨_,rfl,((((J4.refl H7).new k1).new k2).new k3).new k4,u3,G7,a9l (J2 (J2 (J2 G7 k2) k3) k4) (J2 (J2 G7 k3) k4) (J2 G7 k4) hown (by decide)⟩
  rw[e8]
  refine⟨_,rfl,f,2,rfl,by decide,by decide,fun H9 s9=>⟨_,rfl,a2b,fun u5 k5=>?_⟩⟩
  obtain⟨H10,e10,s10,r10⟩:∃H10,upd H9 u5 (.tup [.str "ask",.str (M4 f (2:Int).toNat),.str own])=H10/\J4 H9 H10/\O5 H10 u5 (.ask (M4 f 2) (some own)):=⟨_,rfl,(J4.refl H9).new k5,G7⟩
  rw[e10]
  refine⟨_,rfl,E1,fun u6 k6=>⟨a3y,fun u7 k7=>⟨a2b,fun u8 k8=>?_⟩⟩⟩
  obtain⟨H11,e11,s11,r11⟩:∃H11,upd (upd (upd H10 u6 (.tup [.int 1,.str own])) u7 (.tup [.ref u6])) u8 (.tup [.str "say",.ref u7,.non])=H11/\J4 H10 H11/\O5 H11 u8 (.say [(1,.nam own)] none):=
   ⟨_,rfl,(((J4.refl H10).new k6).new k7).new k8,u7,G7,b2p (J2 (J2 G7 k7) k8) (J2 G7 k8) hown⟩
  rw[e11]
  have s811:=(s9.trans s10).trans s11
  refine⟨a2b,fun l2 gl2=>⟨l1,l2,_,_,rfl,rfl,J2 ((s8.trans s811) _ _ h7) gl2,G7,(by show 2+3<=sizeLine;decide),fun l3 gl3=>?_⟩⟩
  obtain⟨H12,e12,s12,h12⟩:∃H12,upd (upd H11 l2 (.lst [.ref u4,.ref u5,.ref u8])) l3 (.lst ([.ref t3,.ref t7]++[.ref u4,.ref u5,.ref u8]))=H12/\J4 H11 H12/\H12 l3=some (.lst [.ref t3,.ref t7,.ref u4,.ref u5,.ref u8]):=⟨_,rfl,((J4.refl H11).new gl2).new gl3,G7⟩
  rw[e12]
  have hone:Paired (a2N H12) [.ref t3,.ref t7,.ref u4,.ref u5,.ref u8] (a0s ⟨M4 f 0,M4 f 1,M4 f 2,own,there,given,false,[]⟩ true):=
   .cons ⟨t3,rfl,r5.mono ((s8.trans s811).trans s12).tups⟩ (.cons ⟨t7,rfl,r6.mono ((s8.trans s811).trans s12).tups⟩ (.cons ⟨u4,rfl,r8.mono (s811.trans s12).tups⟩ (.cons ⟨u5,rfl,r10.mono (s11.trans s12).tups⟩ (.cons ⟨u8,rfl,r11.mono s12.tups⟩ .nil))))
  have sH12:J4 H H12:=(((((((sH3.trans s4).trans s5).trans s6).trans s7).trans s8).trans s811).trans s12)
  clear e5 e6 e7 e8 e10 e11 e12 r5 r6 r8 r10 r11
  refine⟨_,rfl,E1,fun v1 j1=>⟨E1,fun v2 j2=>⟨a3y,fun v3 j3=>⟨a2b,fun v4 j4=>⟨_,rfl,_,rfl,a2b,fun v5 j5=>⟨a2b,fun l4 gl4=>?_⟩⟩⟩⟩⟩⟩
  obtain⟨H13,e13,s13,h13,p1,p2,p3⟩:∃H13,upd (upd (upd (upd (upd (upd H12 v1 (.tup [.str "take",.str there])) v2 (.tup [.int 1,.int 8])) v3 (.tup [.ref v2])) v4 (.tup [.str "say",.ref v3,.non])) v5 (.tup [.str "give",.str there,.str given])) l4 (.lst [.ref v1,.ref v4,.ref v5])=H13/\J4 H12 H13/\H13 l4=some (.lst [.ref v1,.ref v4,.ref v5])/\O5 H13 v1 (.take there)/\O5 H13 v4 (a0N 8)/\O5 H13 v5 (.give there given):=
   ⟨_,rfl,((((((J4.refl H12).new j1).new j2).new j3).new j4).new j5).new gl4,G7,J2 (J2 (J2 (J2 (J2 G7 j2) j3) j4) j5) gl4,a8V (J2 (J2 (J2 (J2 G7 j3) j4) j5) gl4) (J2 (J2 (J2 G7 j4) j5) gl4) (J2 (J2 G7 j5) gl4) (by decide),J2 G7 gl4⟩
  rw[e13]
  clear e13
  have sH13:=sH12.trans s13
  refine b3O ?_
  refine a2Z (fun b H14=>H14=H13) (fun σ H14=>∃(l:Addr)(sw:Bool)(us:List V),σ=[some (.ref a),some (.int f),some (.str own),some (.str there),some (.str given),some (.ref l3),some (.ref l),none]/\J4 H13 H14/\H14 l=some (.lst us)/\Paired (a2N H14) us (a1A ⟨M4 f 0,M4 f 1,M4 f 2,own,there,given,sw,[]⟩)) (fun Q' hQ=>?_) (fun H14 e D' hD'=>?_) (fun H14 e=>?_) ?_
  ·exact⟨_,rfl,a,ns,2,rfl,sH13.seq hS,by decide,fun c4=>⟨_,_,rfl,rfl,(by show(0:Int) < 2;decide),rfl,_,rfl,hQ _ _ rfl⟩⟩
  ·subst e
   refine⟨_,rfl,l4,_,_,_,rfl,rfl,SqL.of h13,J6 (j:=1) rfl,_,rfl,l4,_,_,_,rfl,rfl,SqL.of h13,J6 (j:=0) rfl,_,rfl,l4,_,_,_,rfl,rfl,SqL.of h13,J6 (j:=2) rfl,a2b,fun l5 gl5=>?_⟩
   have s14:J4 H14 (upd H14 l5 (.lst [.ref v4,.ref v1,.ref v5])):=(J4.refl H14).new gl5
   exact hD' _ _ ⟨l5,true,_,rfl,s14,G7,.cons ⟨v4,rfl,p2.mono s14.tups⟩ (.cons ⟨v1,rfl,p1.mono s14.tups⟩ (.cons ⟨v5,rfl,p3.mono s14.tups⟩ .nil))⟩
  ·subst e
   exact⟨l4,false,_,rfl,J4.refl _,h13,.cons ⟨v1,rfl,p1⟩ (.cons ⟨v4,rfl,p2⟩ (.cons ⟨v5,rfl,p3⟩ .nil))⟩
  clear h13 p1 p2 p3
  rintro σ H14 ⟨l5,sw,us,rfl,s14,h14,htwo⟩
  have sH14:=sH13.trans s14
  have h3':=(s13.trans s14) _ _ h12
  have hone:=Paired.mapP hone fun _ _ z=>z.mono (s13.trans s14)
  obtain⟨ms,hms,hml⟩:=b1e ns
  refine⟨_,rfl,_,rfl,_,rfl,a,_,rfl,sH14.seq hS,fun sl gs=>?_⟩
  rw[hms]
  have s15:J4 H14 (upd H14 sl (.lst (ms.map V.int))):=(J4.refl H14).new gs
  have hsl:upd H14 sl (.lst (ms.map V.int)) sl=some (.lst (ms.map V.int)):=G7
  generalize upd H14 sl (.lst (ms.map V.int))=H15 at s15 hsl⊢
  refine⟨sl,rfl,⟨_,SqL.of hsl⟩,fun L gL=>?_⟩
  refine a7r (K:=K) (a:=sl) (xs:=ms.map V.int) (fun i σ H16=>∃(v0:Option V)(ws:List V),σ=[v0]/\J4 H15 H16/\H16 L=some (.lst ws)/\Paired (a2N H16) ws (((ms.map (· % 10 ^ 60)).map a0N).take i)) ⟨_,[],rfl,(J4.refl H15).new gL,G7,by rw[List.take_zero];exact .nil⟩ (fun i σ H16⟨_,_,_,s,_⟩=>SqL.of (s _ _ hsl)) ?_ ?_
  ·rintro i x σ H16 hx ⟨v0,ws,rfl,s16,hL,hws⟩
   rw[List.getElem?_map]at hx
   obtain⟨m,hm,rfl⟩:=Option.map_eq_some_iff.mp hx
   have hwl:ws.length<=40:=by
    have h1:=AF hws
    rw[AR,AI,AI]at h1
    omega
   refine ntG ?_
   refine⟨_,rfl,_,_,rfl,rfl,⟨by decide,by decide,by decide⟩,_,_,rfl,rfl,(by show(0:Int) < 10 ^ (60:Int).toNat;decide),E1,fun t1 g1=>⟨a3y,fun t2 g2=>⟨a2b,fun t3 g3=>?_⟩⟩⟩
   obtain⟨H17,e17,s17,r17⟩:∃H17,upd (upd (upd H16 t1 (.tup [.int 1,.int (m % 10 ^ (60:Int).toNat)])) t2 (.tup [.ref t1])) t3 (.tup [.str "say",.ref t2,.non])=H17/\J4 H16 H17/\O5 H17 t3 (a0N (m % 10 ^ 60)):=
    ⟨_,rfl,(((J4.refl H16).new g1).new g2).new g3,a8V (J2 (J2 G7 g2) g3) (J2 G7 g3) G7 ⟨Int.emod_nonneg _ (by decide),Int.emod_lt_of_pos _ (by decide)⟩⟩
   rw[e17]
   have hL17:=s17 _ _ hL
   refine⟨ws,hL17,U5 (by omega),_,ws++[.ref t3],rfl,(s16.trans s17).put gL,G7,?_⟩
   have T18:U9 H17 (upd H17 L (.lst (ws++[.ref t3]))):=U9.lst hL17
   have hmi:((ms.map (· % 10 ^ 60)).map a0N)[i]?=some (a0N (m % 10 ^ 60)):=by rw[List.getElem?_map,List.getElem?_map,hm];rfl
   rw[U3 hmi]
   exact Paired.snoc (Paired.mapP hws fun _ _⟨r,e,z⟩=>⟨r,e,(z.mono s17.tups).mono T18⟩) ⟨t3,rfl,r17.mono T18⟩
  rintro σ H16 ⟨v0,ws,rfl,s16,hL,hws⟩
  rw[AI,List.take_of_length_le (by rw[AI,AI];exact AD _)]at hws
  have s1416:=s15.trans s16
  have sH16:=sH14.trans s1416
  have h3':=s1416 _ _ h3'
  have h14:=s1416 _ _ h14
  have hone:=Paired.mapP hone fun _ _ z=>z.mono s1416
  have htwo:=Paired.mapP htwo fun _ _ z=>z.mono s1416
  refine⟨_,rfl,f,0,rfl,by decide,by decide,fun G1 q1=>?_⟩
  refine⟨_,rfl,l3,_,rfl,.inl ⟨SqL.of (q1 _ _ h3'),fun o1 x1=>⟨E1,fun w1 y1=>?_⟩⟩⟩
  obtain⟨G2,e2,q2,a2⟩:∃G2,upd (upd G1 o1 (.tup [.ref t3,.ref t7,.ref u4,.ref u5,.ref u8])) w1 (.tup [.str (M4 f (0:Int).toNat),.ref o1])=G2/\J4 G1 G2/\a1E G2 (.ref w1) (M4 f 0,a0s ⟨M4 f 0,M4 f 1,M4 f 2,own,there,given,false,[]⟩ true):=
   ⟨_,rfl,((J4.refl G1).new x1).new y1,w1,o1,_,rfl,G7,J2 G7 y1,Paired.mapP hone fun _ _⟨r,e,z⟩=>⟨r,e,z.mono (q1.trans (((J4.refl G1).new x1).new y1)).tups⟩⟩
  rw[e2]
  refine⟨_,rfl,f,1,rfl,by decide,by decide,fun G3 q3=>?_⟩
  refine⟨_,rfl,l5,_,rfl,.inl ⟨SqL.of (((q1.trans q2).trans q3) _ _ h14),fun o2 x2=>⟨E1,fun w2 y2=>?_⟩⟩⟩
  obtain⟨G4,e4,q4,a4⟩:∃G4,upd (upd G3 o2 (.tup us)) w2 (.tup [.str (M4 f (1:Int).toNat),.ref o2])=G4/\J4 G3 G4/\a1E G4 (.ref w2) (M4 f 1,a1A ⟨M4 f 0,M4 f 1,M4 f 2,own,there,given,sw,[]⟩):=
   ⟨_,rfl,((J4.refl G3).new x2).new y2,w2,o2,_,rfl,G7,J2 G7 y2,Paired.mapP htwo fun _ _⟨r,e,z⟩=>⟨r,e,z.mono (((q1.trans q2).trans q3).trans (((J4.refl G3).new x2).new y2)).tups⟩⟩
  rw[e4]
  refine⟨_,rfl,f,2,rfl,by decide,by decide,fun G5 q5=>?_⟩
  have q15:=(((q1.trans q2).trans q3).trans q4).trans q5
  refine⟨_,rfl,L,_,rfl,.inl ⟨SqL.of (q15 _ _ hL),fun o3 x3=>⟨E1,fun w3 y3=>?_⟩⟩⟩
  obtain⟨G6,e6,q6,a6⟩:∃G6,upd (upd G5 o3 (.tup ws)) w3 (.tup [.str (M4 f (2:Int).toNat),.ref o3])=G6/\J4 G5 G6/\a1E G6 (.ref w3) (M4 f 2,(ms.map (· % 10 ^ 60)).map a0N):=
   ⟨_,rfl,((J4.refl G5).new x3).new y3,w3,o3,_,rfl,G7,J2 G7 y3,Paired.mapP hws fun _ _⟨r,e,z⟩=>⟨r,e,z.mono (q15.trans (((J4.refl G5).new x3).new y3)).tups⟩⟩
  rw[e6]
  refine⟨a2b,fun L2 z2=>?_⟩
  have q7:J4 G6 (upd G6 L2 (.lst [.ref w1,.ref w2,.ref w3])):=(J4.refl G6).new z2
  refine q L2 ⟨M4 f 0,M4 f 1,M4 f 2,own,there,given,sw,ms.map (· % 10 ^ 60)⟩ _ ((sH16.trans (q15.trans q6)).trans q7) ⟨_,G7,.cons (a2.mono ((((q3.trans q4).trans q5).trans q6).trans q7).tups) (.cons (a4.mono ((q5.trans q6).trans q7).tups) (.cons (a6.mono q7.tups) .nil))⟩ ⟨fun z=>?_,fun z=>?_,fun z=>?_,by rw[AI];exact hml,fun m hm=>?_⟩
  ·exact absurd (a4F z) (by decide)
  ·exact absurd (a4F z) (by decide)
  ·exact absurd (a4F z) (by decide)
  ·obtain⟨m',_,e⟩:=AY.mp hm
   rw[<-e]
   exact⟨Int.emod_nonneg _ (by decide),Int.emod_lt_of_pos _ (by decide)⟩
structure P6(H:Hp)(x:Addr)(D:D6)(f:Bool):Prop where
 ex:∃p0 o0 r0 p1 o1 r1 us,H x=some (.lst (.ref p0:: .ref p1::us))/\H p0=some (.tup [.str D.n0,.ref o0])/\H o0=some (.tup r0)/\a1B H r0 (a0s D f)/\H p1=some (.tup [.str D.n1,.ref o1])/\H o1=some (.tup r1)/\a1B H r1 (a1A D)/\
  (f=true->∃p2 o2 r2,us=[.ref p2]/\H p2=some (.tup [.str D.n2,.ref o2])/\H o2=some (.tup r2)/\a1B H r2 (a0d D))/\(f=false->us=[])
theorem P6.of{H:Hp}{x:Addr}{D:D6}{f:Bool}(h:PsL H x (ps6 D f)):P6 H x D f:=by
 obtain⟨us,hx,hp⟩:=h
 unfold ps6 at hp
 cases hp with
 | cons h0 hp=>
 cases hp with
 | cons h1 hp=>
 obtain⟨p0,o0,r0,rfl,a1,a2,a3⟩:=h0
 obtain⟨p1,o1,r1,rfl,b1,b2,b3⟩:=h1
 refine⟨p0,o0,r0,p1,o1,r1,_,hx,a1,a2,a3,b1,b2,b3,fun e=>?_,fun e=>?_⟩
 ·subst e
  cases hp with
  | cons h2 hp=>
  cases hp
  obtain⟨p2,o2,r2,rfl,c1,c2,c3⟩:=h2
  exact⟨p2,o2,r2,rfl,c1,c2,c3⟩
 ·subst e
  cases hp
  rfl
theorem PsL.mono{H H':Hp}{x:Addr}{ps:List Pt}(h:PsL H x ps)(s:J4 H H'):PsL H' x ps:=by
 obtain⟨us,h1,h2⟩:=h
 exact⟨us,s _ _ h1,Paired.mapP h2 fun _ _ z=>z.mono s.tups⟩
theorem a2R{H:Hp}{r:Addr}{m:Int}(h:O5 H r (a0N m)):∃t t1,H r=some (.tup [.str "say",.ref t,.non])/\H t=some (.tup [.ref t1])/\H t1=some (.tup [.int 1,.int m]):=by
 obtain⟨t,h1,⟨⟨vs,h2,h3⟩,_⟩⟩:=h
 cases h3 with
 | cons h4 h5=>
 cases h5
 obtain⟨t1,rfl,h6,_⟩:=h4
 exact⟨t,t1,h1,h2,h6⟩
theorem b4P{X R:TS}{D:a1T}{r:VK}{b k:L2.St->Hp->Prop}{σ:L2.St}{H:Hp}(h:a6C X R D σ H):b1y ⟨a6C X R D,r,b,k⟩ σ H:=h
theorem a7I{α β:Type}{F:α->β->Prop}{a c:List α}{b d:List β}(h:Paired F a b)(k:Paired F c d):Paired F (a++c) (b++d):=by
 induction h with
 | nil=>exact k
 | cons x _ ih=>exact .cons x ih
noncomputable def b3M:Sp:=fun vs H Q _=>∃(x:Addr)(root:Nat)(v:Int)(D:D6)(f:Bool),vs=[.ref x,.int (root:Int),.int v]/\PsL H x (ps6 D f)/\D.ms.length<=40/\root<=2/\∀(p t:Addr)(us:List V)(fv:V)(H':Hp),J4 H H'->H' p=some (.tup [.ref t,fv])->H' t=some (.tup us)->Paired (a2M H') us (b0m D f root v).1->a5C H' fv (b0m D f root v).2->Q (.ref p) H'
theorem b2v(T:Txt K mg):L2.Cl P w K mg base 1 "_law_due" ["_law_parts_here","_law_root","_law_value"] b3M:=by
 refine Cl.of T.d_law_due B3 (fun vs H Q E h=>?_) (fun _ _ _ _ _ _ us hl=>len3 us hl (fun _ _ _=>rfl)) (fun fa cdv A outer s H vs Q E hr h=>?_)
 ·obtain⟨x,root,v,D,f,rfl,_⟩:=h
  rfl
 ·obtain⟨x,root,v,D,f,rfl,hP,hfew,hroot,q⟩:=h
  obtain⟨xs,hx,hxs⟩:=id hP
  obtain⟨p0,o0,r0,p1,o1,r1,us,hx',a1,a2,a3,b1,b2,b3,c3,c4⟩:=(P6.of hP).ex
  have hpl:(ps6 D f).length<=3:=by unfold ps6;cases f<;>simp
  have hxl:=AF hxs
  refine⟨_,(@I0 _ _ _ _ _ (@U1 _ _ (3) _ _ _ _ B3.nd rfl (Or.inr rfl) (@a6L _ _ _ _ _ _ _ (["_law_name_here","_law_rows"]) ([none,none]) _ _ _ _ (I9 a0A) ["_law_parts_here","_law_root","_law_value","_law_names","_law_third","_law_second","_law_found"] ⟨rfl,by decide +kernel,by decide +kernel,by decide +kernel,rfl,by decide +kernel,by decide +kernel⟩ (@a1O _ _ _ _ (@pv _ 0 _ _ (by rfl) (by first | exact Or.inl rfl | exact Or.inr (Or.inl rfl) | exact Or.inr (Or.inr rfl)) (by decide) (by decide))) (fun _ _ _ _ _ _=>(@a8B _ (K) _ _ _ _ (2) rfl rfl (@R7 _ _ _ _ _ (@R5 _ _ (0) _ (show(["_law_name_here","_law_rows"]:List Str).Nodup by decide +kernel) rfl (Or.inl rfl) (by first | exact .inl rfl | exact .inr rfl | assumption)) (@R7 _ _ _ _ _ (@R5 _ _ (1) _ (show(["_law_name_here","_law_rows"]:List Str).Nodup by decide +kernel) rfl (Or.inl rfl) (by first | exact .inl rfl | exact .inr rfl | assumption)) (@F3 _) (by rfl)) (by rfl)) (by rfl) (by rfl))) (fun _ _ _ _ _ _=>@a3t _) (fun _ _ _ _ _ _=>(@pv _ 0 _ _ (by rfl) (by first | exact Or.inl rfl | exact Or.inr (Or.inl rfl) | exact Or.inr (Or.inr rfl)) (by decide) (by decide))) (by rfl) (by rfl) (by rfl) (by intro _;rfl)) (by rfl) (by first | exact .inl rfl | exact .inr rfl | assumption)) (@I0 _ _ _ _ _ (@U1 _ _ (4) _ _ _ _ B3.nd rfl (Or.inl rfl) (@O4 _ _ _ _ (@G8 _)) (by rfl) (by first | exact .inl rfl | exact .inr rfl | assumption)) (@I0 _ _ _ _ _ (@W1 _ _ _ _ _ _ _ _ (@U0 _ _ _ _ _ _ _ _ (@D4 _) (@Y1 _ _ _ _ _ _ _ _ _ (@O9 _) (by rfl) T.n_len PySem.boot_len (@G0 _ _ _ _ _ (@pv _ 0 _ _ (by rfl) (by first | exact Or.inl rfl | exact Or.inr (Or.inl rfl) | exact Or.inr (Or.inr rfl)) (by decide) (by decide)) (@G8 _) (by rfl)) (by decide) (by decide) (by rfl) (by rfl)) (@G9 _ _ _ _) (U8 _)) (@J1 _ _ _ (@a7a _ _ _ _ _ _ _ (["_law_k","_law_names","_law_parts_here"]) ([none,some 3,some 0]) _ _ _ _ (4) _ _ _ (I9 a0A) ["_law_parts_here","_law_root","_law_value","_law_names","_law_third","_law_second","_law_found"] ⟨rfl,by decide +kernel,by decide +kernel,by decide +kernel,rfl,by decide +kernel,by decide +kernel⟩ B3.nd rfl (Or.inl rfl) (@a3G _ _ _ _ _ _ (by rfl) T.n_range (@G0 _ _ _ _ _ (@Y1 _ _ _ _ _ _ _ _ _ (@O9 _) (by rfl) T.n_len PySem.boot_len (@G0 _ _ _ _ _ (@J7 _ _ _ _ _ _ _ (@J9 _) (@J7 _ _ _ _ _ _ _ W9 (@pv _ 0 _ _ (by rfl) (by first | exact Or.inl rfl | exact Or.inr (Or.inl rfl) | exact Or.inr (Or.inr rfl)) (by decide) (by decide)) (@G9 _ _ _ _) (fun _ _=>rfl)) (@G9 _ _ _ _) (fun _ _=>rfl)) (@G8 _) (by rfl)) (by decide) (by decide) (by rfl) (by rfl)) (@G8 _) (by rfl)) (by rfl)) (fun _ _ _ _ _ _=>(@R5 _ _ (0) _ (show(["_law_k","_law_names","_law_parts_here"]:List Str).Nodup by decide +kernel) rfl (Or.inl rfl) (by first | exact .inl rfl | exact .inr rfl | assumption))) (fun _ _ _ _ _ _=>@a3t _) (fun _ _ _ _ _ _=>(@J5 _ _ _ _ _ (@G0 _ _ _ _ _ (@R4 _ _ _ _) (@G0 _ _ _ _ _ (@J7 _ _ _ _ _ _ _ (@a0U _ (K) rfl) (@J7 _ _ _ _ _ _ _ (@a0U _ (K) rfl) (@J7 _ _ _ _ _ _ _ (@a0U _ (K) rfl) (@J7 _ _ _ _ _ _ _ (@a0U _ (K) rfl) (@J7 _ _ _ _ _ _ _ (@a0U _ (K) rfl) (@J7 _ _ _ _ _ _ _ (@a5f _ (K) rfl) (@pv _ 2 _ _ (by rfl) (by first | exact Or.inl rfl | exact Or.inr (Or.inl rfl) | exact Or.inr (Or.inr rfl)) (by decide) (by decide)) (@G9 _ _ _ _) (fun _ _=>rfl)) (@G9 _ _ _ _) (fun _ _=>rfl)) (@pv _ 0 _ _ (by rfl) (by first | exact Or.inl rfl | exact Or.inr (Or.inl rfl) | exact Or.inr (Or.inr rfl)) (by decide) (by decide)) (fun _ _=>rfl)) (@G9 _ _ _ _) (fun _ _=>rfl)) (@G9 _ _ _ _) (fun _ _=>rfl)) (@G9 _ _ _ _) (fun _ _=>rfl)) (@G0 _ _ _ _ _ (@J7 _ _ _ _ _ _ _ (@a5f _ (K) rfl) (@pv _ 1 _ _ (by rfl) (by first | exact Or.inl rfl | exact Or.inr (Or.inl rfl) | exact Or.inr (Or.inr rfl)) (by decide) (by decide)) (@G9 _ _ _ _) (fun _ _=>rfl)) (@G0 _ _ _ _ _ (@pv _ 0 _ _ (by rfl) (by first | exact Or.inl rfl | exact Or.inr (Or.inl rfl) | exact Or.inr (Or.inr rfl)) (by decide) (by decide)) (@G8 _) (by rfl)) (by rfl)) (by rfl)) (by rfl)))) (by rfl) (by rfl) (by rfl) (by rfl) (by intro _;rfl) (by first | exact .inl rfl | exact .inr rfl | assumption))) (@R8 _)) (@I0 _ _ _ _ _ (@W1 _ _ _ _ _ _ _ _ (@U0 _ _ _ _ _ _ _ _ (@D4 _) (@pv _ 1 _ _ (by rfl) (by first | exact Or.inl rfl | exact Or.inr (Or.inl rfl) | exact Or.inr (Or.inr rfl)) (by decide) (by decide)) (@G9 _ _ _ _) (U8 _)) (@J1 _ _ _ (@R3 _ _ _ _ (@J5 _ _ _ _ _ (@G0 _ _ _ _ _ (@W8 _ _ _ _ _ _ _ _ _ (@U7 _) (by rfl) T.n_tuple boot_tuple (@G0 _ _ _ _ _ (@pv _ 4 _ _ (by rfl) (by first | exact Or.inl rfl | exact Or.inr (Or.inl rfl) | exact Or.inr (Or.inr rfl)) (by decide) (by decide)) (@G8 _) (by rfl)) (by decide) (by decide) (by rfl) (by rfl)) (@G0 _ _ _ _ _ (@a1q _ _ _) (@G8 _) (by rfl)) (by rfl))))) (@R8 _)) (@I0 _ _ _ _ _ (@U1 _ _ (5) _ _ _ _ B3.nd rfl (Or.inl rfl) (@O4 _ _ _ _ (@G0 _ _ _ _ _ (@J5 _ _ _ _ _ (@G0 _ _ _ _ _ (@R4 _ _ _ _) (@G0 _ _ _ _ _ (@pv _ 2 _ _ (by rfl) (by first | exact Or.inl rfl | exact Or.inr (Or.inl rfl) | exact Or.inr (Or.inr rfl)) (by decide) (by decide)) (@G0 _ _ _ _ _ (@J7 _ _ _ _ _ _ _ W9 (@pv _ 3 _ _ (by rfl) (by first | exact Or.inl rfl | exact Or.inr (Or.inl rfl) | exact Or.inr (Or.inr rfl)) (by decide) (by decide)) (@G9 _ _ _ _) (fun _ _=>rfl)) (@G0 _ _ _ _ _ (@G9 _ _ _ _) (@G8 _) (by rfl)) (by rfl)) (by rfl)) (by rfl))) (@G0 _ _ _ _ _ (@J5 _ _ _ _ _ (@G0 _ _ _ _ _ (@R4 _ _ _ _) (@G0 _ _ _ _ _ (@G9 _ _ _ _) (@G0 _ _ _ _ _ (@J7 _ _ _ _ _ _ _ W9 (@pv _ 3 _ _ (by rfl) (by first | exact Or.inl rfl | exact Or.inr (Or.inl rfl) | exact Or.inr (Or.inr rfl)) (by decide) (by decide)) (@G9 _ _ _ _) (fun _ _=>rfl)) (@G0 _ _ _ _ _ (@G9 _ _ _ _) (@G8 _) (by rfl)) (by rfl)) (by rfl)) (by rfl))) (@G8 _) (by rfl)) (by rfl))) (by rfl) (by first | exact .inl rfl | exact .inr rfl | assumption)) (@I0 _ _ _ _ _ (@W1 _ _ _ _ _ _ _ _ (@U0 _ _ _ _ _ _ _ _ (@D4 _) (@J7 _ _ _ _ _ _ _ (@J9 _) (@J7 _ _ _ _ _ _ _ (@J9 _) (@J7 _ _ _ _ _ _ _ (@J9 _) (@J7 _ _ _ _ _ _ _ W9 (@pv _ 0 _ _ (by rfl) (by first | exact Or.inl rfl | exact Or.inr (Or.inl rfl) | exact Or.inr (Or.inr rfl)) (by decide) (by decide)) (@G9 _ _ _ _) (fun _ _=>rfl)) (@G9 _ _ _ _) (fun _ _=>rfl)) (@G9 _ _ _ _) (fun _ _=>rfl)) (@G9 _ _ _ _) (fun _ _=>rfl)) (@R4 _ _ _ _) (U8 _)) (@J1 _ _ _ (@U1 _ _ (5) _ _ _ _ B3.nd rfl (Or.inl rfl) (@O4 _ _ _ _ (@G0 _ _ _ _ _ (@J5 _ _ _ _ _ (@G0 _ _ _ _ _ (@R4 _ _ _ _) (@G0 _ _ _ _ _ (@G9 _ _ _ _) (@G0 _ _ _ _ _ (@J7 _ _ _ _ _ _ _ W9 (@pv _ 3 _ _ (by rfl) (by first | exact Or.inl rfl | exact Or.inr (Or.inl rfl) | exact Or.inr (Or.inr rfl)) (by decide) (by decide)) (@G9 _ _ _ _) (fun _ _=>rfl)) (@G0 _ _ _ _ _ (@G9 _ _ _ _) (@G8 _) (by rfl)) (by rfl)) (by rfl)) (by rfl))) (@G0 _ _ _ _ _ (@J5 _ _ _ _ _ (@G0 _ _ _ _ _ (@R4 _ _ _ _) (@G0 _ _ _ _ _ (@pv _ 2 _ _ (by rfl) (by first | exact Or.inl rfl | exact Or.inr (Or.inl rfl) | exact Or.inr (Or.inr rfl)) (by decide) (by decide)) (@G0 _ _ _ _ _ (@J7 _ _ _ _ _ _ _ W9 (@pv _ 3 _ _ (by rfl) (by first | exact Or.inl rfl | exact Or.inr (Or.inl rfl) | exact Or.inr (Or.inr rfl)) (by decide) (by decide)) (@G9 _ _ _ _) (fun _ _=>rfl)) (@G0 _ _ _ _ _ (@G9 _ _ _ _) (@G8 _) (by rfl)) (by rfl)) (by rfl)) (by rfl))) (@G8 _) (by rfl)) (by rfl))) (by rfl) (by first | exact .inl rfl | exact .inr rfl | assumption))) (@R8 _)) (@I0 _ _ _ _ _ (@W1 _ _ _ _ _ _ _ _ (@U0 _ _ _ _ _ _ _ _ (@D4 _) (@pv _ 1 _ _ (by rfl) (by first | exact Or.inl rfl | exact Or.inr (Or.inl rfl) | exact Or.inr (Or.inr rfl)) (by decide) (by decide)) (@G9 _ _ _ _) (U8 _)) (@J1 _ _ _ (@R3 _ _ _ _ (@J5 _ _ _ _ _ (@G0 _ _ _ _ _ (@W8 _ _ _ _ _ _ _ _ _ (@U7 _) (by rfl) T.n_tuple boot_tuple (@G0 _ _ _ _ _ (@pv _ 5 _ _ (by rfl) (by first | exact Or.inl rfl | exact Or.inr (Or.inl rfl) | exact Or.inr (Or.inr rfl)) (by decide) (by decide)) (@G8 _) (by rfl)) (by decide) (by decide) (by rfl) (by rfl)) (@G0 _ _ _ _ _ (@a1q _ _ _) (@G8 _) (by rfl)) (by rfl))))) (@R8 _)) (@I0 _ _ _ _ _ (@U1 _ _ (6) _ _ _ _ B3.nd rfl (Or.inl rfl) (@U6 _ _ _ _ _ _ _ _ (@a4C _) (@pv _ 5 _ _ (by rfl) (by first | exact Or.inl rfl | exact Or.inr (Or.inl rfl) | exact Or.inr (Or.inr rfl)) (by decide) (by decide)) (@O4 _ _ _ _ (@G0 _ _ _ _ _ (@J5 _ _ _ _ _ (@G0 _ _ _ _ _ (@R4 _ _ _ _) (@G0 _ _ _ _ _ (@U6 _ _ _ _ _ _ _ _ (@a4G _) (@pv _ 2 _ _ (by rfl) (by first | exact Or.inl rfl | exact Or.inr (Or.inl rfl) | exact Or.inr (Or.inr rfl)) (by decide) (by decide)) (@G9 _ _ _ _)) (@G0 _ _ _ _ _ (@J7 _ _ _ _ _ _ _ W9 (@pv _ 3 _ _ (by rfl) (by first | exact Or.inl rfl | exact Or.inr (Or.inl rfl) | exact Or.inr (Or.inr rfl)) (by decide) (by decide)) (@G9 _ _ _ _) (fun _ _=>rfl)) (@G0 _ _ _ _ _ (@G9 _ _ _ _) (@G8 _) (by rfl)) (by rfl)) (by rfl)) (by rfl))) (@G8 _) (by rfl)))) (by rfl) (by first | exact .inl rfl | exact .inr rfl | assumption)) (@I0 _ _ _ _ _ (@W1 _ _ _ _ _ _ _ _ (@U0 _ _ _ _ _ _ _ _ (@b1F _) (@U6 _ _ _ _ _ _ _ _ (@a4G _) (@pv _ 2 _ _ (by rfl) (by first | exact Or.inl rfl | exact Or.inr (Or.inl rfl) | exact Or.inr (Or.inr rfl)) (by decide) (by decide)) (@G9 _ _ _ _)) (@G9 _ _ _ _) (U8 _)) (@J1 _ _ _ (@R3 _ _ _ _ (@J5 _ _ _ _ _ (@G0 _ _ _ _ _ (@W8 _ _ _ _ _ _ _ _ _ (@U7 _) (by rfl) T.n_tuple boot_tuple (@G0 _ _ _ _ _ (@pv _ 6 _ _ (by rfl) (by first | exact Or.inl rfl | exact Or.inr (Or.inl rfl) | exact Or.inr (Or.inr rfl)) (by decide) (by decide)) (@G8 _) (by rfl)) (by decide) (by decide) (by rfl) (by rfl)) (@G0 _ _ _ _ _ (@J5 _ _ _ _ _ (@G0 _ _ _ _ _ (@R4 _ _ _ _) (@G0 _ _ _ _ _ (@J7 _ _ _ _ _ _ _ W9 (@pv _ 3 _ _ (by rfl) (by first | exact Or.inl rfl | exact Or.inr (Or.inl rfl) | exact Or.inr (Or.inr rfl)) (by decide) (by decide)) (@G9 _ _ _ _) (fun _ _=>rfl)) (@G0 _ _ _ _ _ (@G9 _ _ _ _) (@G0 _ _ _ _ _ (@G9 _ _ _ _) (@G8 _) (by rfl)) (by rfl)) (by rfl)) (by rfl))) (@G8 _) (by rfl)) (by rfl))))) (@R8 _)) (@I0 _ _ _ _ _ (@W1 _ _ _ _ _ _ _ _ (@U0 _ _ _ _ _ _ _ _ (@b5h _) (@pv _ 2 _ _ (by rfl) (by first | exact Or.inl rfl | exact Or.inr (Or.inl rfl) | exact Or.inr (Or.inr rfl)) (by decide) (by decide)) (@G9 _ _ _ _) (U8 _)) (@J1 _ _ _ (@U1 _ _ (6) _ _ _ _ B3.nd rfl (Or.inl rfl) (@U6 _ _ _ _ _ _ _ _ (@a4C _) (@pv _ 6 _ _ (by rfl) (by first | exact Or.inl rfl | exact Or.inr (Or.inl rfl) | exact Or.inr (Or.inr rfl)) (by decide) (by decide)) (@pv _ 4 _ _ (by rfl) (by first | exact Or.inl rfl | exact Or.inr (Or.inl rfl) | exact Or.inr (Or.inr rfl)) (by decide) (by decide))) (by rfl) (by first | exact .inl rfl | exact .inr rfl | assumption))) (@R8 _)) (@J1 _ _ _ (@R3 _ _ _ _ (@J5 _ _ _ _ _ (@G0 _ _ _ _ _ (@W8 _ _ _ _ _ _ _ _ _ (@U7 _) (by rfl) T.n_tuple boot_tuple (@G0 _ _ _ _ _ (@U6 _ _ _ _ _ _ _ _ (@a4C _) (@pv _ 6 _ _ (by rfl) (by first | exact Or.inl rfl | exact Or.inr (Or.inl rfl) | exact Or.inr (Or.inr rfl)) (by decide) (by decide)) (@O4 _ _ _ _ (@G0 _ _ _ _ _ (@J5 _ _ _ _ _ (@G0 _ _ _ _ _ (@R4 _ _ _ _) (@G0 _ _ _ _ _ (@pv _ 2 _ _ (by rfl) (by first | exact Or.inl rfl | exact Or.inr (Or.inl rfl) | exact Or.inr (Or.inr rfl)) (by decide) (by decide)) (@G0 _ _ _ _ _ (@J7 _ _ _ _ _ _ _ W9 (@pv _ 3 _ _ (by rfl) (by first | exact Or.inl rfl | exact Or.inr (Or.inl rfl) | exact Or.inr (Or.inr rfl)) (by decide) (by decide)) (@G9 _ _ _ _) (fun _ _=>rfl)) (@G0 _ _ _ _ _ (@U6 _ _ _ _ _ _ _ _ (@a3x _) (@Y1 _ _ _ _ _ _ _ _ _ (@O9 _) (by rfl) T.n_len PySem.boot_len (@G0 _ _ _ _ _ (@J7 _ _ _ _ _ _ _ (@J9 _) (@J7 _ _ _ _ _ _ _ W9 (@pv _ 0 _ _ (by rfl) (by first | exact Or.inl rfl | exact Or.inr (Or.inl rfl) | exact Or.inr (Or.inr rfl)) (by decide) (by decide)) (@G9 _ _ _ _) (fun _ _=>rfl)) (@G9 _ _ _ _) (fun _ _=>rfl)) (@G8 _) (by rfl)) (by decide) (by decide) (by rfl) (by rfl)) (@G9 _ _ _ _)) (@G8 _) (by rfl)) (by rfl)) (by rfl)) (by rfl))) (@G8 _) (by rfl)))) (@G8 _) (by rfl)) (by decide) (by decide) (by rfl) (by rfl)) (@G0 _ _ _ _ _ (@a1q _ _ _) (@G8 _) (by rfl)) (by rfl))))))))))))))),?_⟩
  refine⟨_,rfl,x,rfl,⟨_,SqL.of hx⟩,fun nl gn=>?_⟩
  refine a7r (K:=K) (a:=x) (xs:=xs) (fun i σ H1=>∃(v0 v1:Option V),σ=[v0,v1]/\J4 H H1/\H1 nl=some (.lst (((ps6 D f).take i).map fun p=>V.str p.1))) ⟨_,_,rfl,(J4.refl H).new gn,by rw[G7];rfl⟩ (fun i σ H1⟨_,_,_,s,_⟩=>SqL.of (s _ _ hx)) ?_ ?_
  ·rintro i y σ H1 hy ⟨v0,v1,rfl,s1,hn1⟩
   obtain⟨pt,hpt,t,u,ws,rfl,k1,k2,k3⟩:=Paired.get? hxs hy
   refine⟨t,_,rfl,SqT.of (s1 _ _ k1),rfl,_,_,rfl,_,_,rfl,rfl,?_⟩
   refine ntH ?_
   refine⟨_,rfl,_,hn1,U5 (by rw[AI,AR];omega),_,_,rfl,s1.put gn,?_⟩
   rw[G7,U3 hpt,AV]
   rfl
  rintro σ H1 ⟨v0,v1,rfl,s1,hn1⟩
  rw[hxl,List.take_length]at hn1
  have nm0:atI ((ps6 D f).map fun p=>V.str p.1) 0=some (.str D.n0):=J6 (j:=0) rfl
  have nm1:atI ((ps6 D f).map fun p=>V.str p.1) 1=some (.str D.n1):=J6 (j:=1) rfl
  refine⟨a1r,fun tl gt=>?_⟩
  have s2:J4 H1 (upd H1 tl (.lst [])):=(J4.refl H1).new gt
  have ht2:upd H1 tl (.lst []) tl=some (.lst []):=G7
  generalize upd H1 tl (.lst [])=H2 at s2 ht2⊢
  have sH2:=s1.trans s2
  refine b3O ?_
  refine a2Z (fun b H3=>H3=H2/\b=f) (fun σ H3=>∃(tl:Addr)(ws:List V),σ=[some (.ref x),some (.int (root:Int)),some (.int v),some (.ref nl),some (.ref tl),none,none]/\J4 H2 H3/\H3 tl=some (.lst ws)/\Paired (a2M H3) ws (a2k D f)) (fun Q' hQ=>?_) (fun H3 e D' hD'=>?_) (fun H3 e=>?_) ?_
  ·refine⟨_,rfl,x,_,rfl,.inl (SqL.of (sH2 _ _ hx)),rfl,_,rfl,hQ _ _ ⟨rfl,?_⟩⟩
   rw[hxl]
   unfold ps6
   cases f<;>rfl
  ·obtain⟨rfl,e⟩:=e
   subst e
   obtain⟨p2,o2,r2,rfl,k1,k2,k3⟩:=c3 rfl
   have hxs2:=sH2 _ _ hx'
   have hrl:r2.length=D.ms.length:=by rw[AF k3,a3A]
   refine⟨_,rfl,x,_,_,_,rfl,rfl,SqL.of hxs2,J6 (j:=2) rfl,p2,_,_,_,rfl,rfl,SqT.of (sH2 _ _ k1),J6 (j:=1) rfl,o2,_,rfl,.inr (SqT.of (sH2 _ _ k2)),_,rfl,(by omega),(by omega),fun L gL=>?_⟩
   refine a2V r2.length (fun i σ H4=>∃(v0:Option V)(ws:List V),σ=[v0,some (.ref nl),some (.ref x)]/\J4 H3 H4/\H4 L=some (.lst ws)/\Paired (a2M H4) ws ((a3Q D).take i)) ⟨_,[],rfl,(J4.refl H3).new gL,G7,by rw[List.take_zero];exact .nil⟩ ?_ ?_
   ·rintro i σ H4 hi ⟨v0,ws,rfl,s4,hL,hws⟩
    refine⟨hi,?_⟩
    rintro y H5 ⟨rfl,rfl⟩
    refine ntG ?_
    have hi':i < D.ms.length:=by omega
    have hd:(a3Q D)[i]?=some (("say":Str),D.ms[i],D.n2,i):=by unfold a3Q;rw[List.getElem?_mapIdx,AW hi'];rfl
    obtain⟨r,hr',er,hra⟩:∃r,r2[i]?=some (.ref r)/\True/\O5 H r (a0N D.ms[i]):=by
     obtain⟨rw',e1,r,e2,e3⟩:=Paired.get? k3 (AW hi)
     have:(a0d D)[i]?=some (a0N D.ms[i]):=by unfold a0d;rw[List.getElem?_map,AW hi'];rfl
     rw[this]at e1
     cases e1
     exact⟨r,by rw[AW hi,e2],trivial,e3⟩
    obtain⟨t,t1,m1,m2,m3⟩:=a2R hra
    have sH5:=sH2.trans s4
    have hwl:ws.length<=40:=by have:=AF hws;rw[AR]at this;omega
    refine⟨_,rfl,x,_,_,_,rfl,rfl,SqL.of (sH5 _ _ hx'),J6 (j:=2) rfl,p2,_,_,_,rfl,rfl,SqT.of (sH5 _ _ k1),J6 (j:=1) rfl,_,rfl,o2,_,_,_,rfl,rfl,SqT.of (sH5 _ _ k2),(by rw[Int.zero_add];exact J6 (j:=i) hr'),r,_,_,_,rfl,rfl,SqT.of (sH5 _ _ m1),J6 (j:=1) rfl,t,_,_,_,rfl,rfl,SqT.of (sH5 _ _ m2),J6 (j:=0) rfl,t1,_,_,_,rfl,rfl,SqT.of (sH5 _ _ m3),J6 (j:=1) rfl,_,rfl,nl,_,_,_,rfl,rfl,SqL.of (((s2.trans s4)) _ _ hn1),J6 (j:=2) rfl,_,rfl,(by show 4<=sizeLine;decide),fun t5 g5=>?_⟩
    obtain⟨H6,e6,s6,h6⟩:∃H6,upd H5 t5 (.tup [.str "say",.int D.ms[i],.str D.n2,.int (0+(i:Int))])=H6/\J4 H5 H6/\H6 t5=some (.tup [.str "say",.int D.ms[i],.str D.n2,.int (i:Int)]):=⟨_,rfl,(J4.refl H5).new g5,by rw[G7,Int.zero_add]⟩
    rw[e6]
    have hL6:=s6 _ _ hL
    refine⟨ws,hL6,U5 (by omega),_,ws++[.ref t5],rfl,(s4.trans s6).put gL,G7,?_⟩
    rw[U3 hd]
    have T7:U9 H6 (upd H6 L (.lst (ws++[.ref t5]))):=U9.lst hL6
    exact Paired.snoc (Paired.mapP hws fun _ _ z=>(z.mono s6.tups).mono T7) ⟨t5,rfl,T7 _ _ h6⟩
   ·rintro σ H4 ⟨v0,ws,rfl,s4,hL,hws⟩
    refine⟨(by show(r2.length:Int).toNat<=r2.length;omega),hD' _ _ ⟨L,ws,rfl,s4,hL,?_⟩⟩
    rw[List.take_of_length_le (by unfold a3Q;rw[List.length_mapIdx];omega)]at hws
    exact hws
  ·obtain⟨rfl,e⟩:=e
   subst e
   exact⟨tl,[],rfl,J4.refl _,ht2,.nil⟩
  rintro σ H3 ⟨tl,ws,rfl,s3,htl,hws⟩
  have sH3:=sH2.trans s3
  have hn3:=(s2.trans s3) _ _ hn1
  clear ht2 hn1
  by_cases e2:root=2
  ·subst e2
   refine⟨_,rfl,rfl,_,rfl,a0I ?_⟩
   refine⟨_,rfl,tl,_,rfl,.inl ⟨SqL.of htl,fun t g1=>⟨E1,fun p g2=>?_⟩⟩⟩
   have s4:J4 H3 (upd (upd H3 t (.tup ws)) p (.tup [.ref t,.non])):=((J4.refl H3).new g1).new g2
   exact q p t ws .non _ (sH3.trans s4) G7 (J2 G7 g2) (Paired.mapP hws fun _ _ z=>z.mono s4.tups) rfl
  have ne2:¬((root:Int)=2):=fun z=>e2 (by omega)
  refine⟨_,rfl,rfl,_,rfl,?_⟩
  rw[show decide (V.int (root:Int)=V.int 2)=false by simp[ne2]]
  refine O7 ?_
  refine⟨_,rfl,_,rfl,nl,_,_,_,rfl,rfl,SqL.of hn3,nm1,(by show 4<=sizeLine;decide),fun t1 g1=>⟨_,rfl,nl,_,_,_,rfl,rfl,SqL.of (J2 hn3 g1),nm1,(by show 4<=sizeLine;decide),fun t2 g2=>⟨E1,fun sl gs=>?_⟩⟩⟩
  obtain⟨H4,e4,s4,h4,d1,d2⟩:∃H4,upd (upd (upd H3 t1 (.tup [.str "take",.int v,.str D.n1,.int 0])) t2 (.tup [.str "say",.int 8,.str D.n1,.int 1])) sl (.lst [.ref t1,.ref t2])=H4/\J4 H3 H4/\H4 sl=some (.lst [.ref t1,.ref t2])/\H4 t1=some (.tup [.str "take",.int v,.str D.n1,.int 0])/\H4 t2=some (.tup [.str "say",.int 8,.str D.n1,.int 1]):=
   ⟨_,rfl,(((J4.refl H3).new g1).new g2).new gs,G7,J2 (J2 G7 g2) gs,J2 G7 gs⟩
  rw[e4]
  clear e4
  have hfirst:∃r ws',r1[0]?=some (.ref r)/\H r=some (.tup (.str (if D.sw=true then "say" else "take")::ws')):=by
   unfold a1A at b3
   by_cases hs:D.sw=true
   ·rw[if_pos hs]at b3⊢
    cases b3 with
    | cons z _=>
    obtain⟨r,rfl,hr'⟩:=z
    obtain⟨t,t1,m1,_⟩:=a2R hr'
    exact⟨r,_,rfl,m1⟩
   ·rw[if_neg hs]at b3⊢
    cases b3 with
    | cons z _=>
    obtain⟨r,rfl,hr'⟩:=z
    exact⟨r,_,rfl,hr'⟩
  obtain⟨r,ws',hr0,hrr⟩:=hfirst
  have sH4:=sH3.trans s4
  have hn4:=s4 _ _ hn3
  refine b3O ?_
  refine a2Z (fun b H5=>H5=H4/\b=D.sw) (fun σ H5=>∃(sl:Addr)(u2:List V),σ=[some (.ref x),some (.int (root:Int)),some (.int v),some (.ref nl),some (.ref tl),some (.ref sl),none]/\J4 H4 H5/\H5 sl=some (.lst u2)/\Paired (a2M H5) u2 (B5 D v)) (fun Q' hQ=>?_) (fun H5 e D' hD'=>?_) (fun H5 e=>?_) ?_
  ·refine⟨_,rfl,x,_,_,_,rfl,rfl,SqL.of (sH4 _ _ hx'),J6 (j:=1) rfl,p1,_,_,_,rfl,rfl,SqT.of (sH4 _ _ b1),J6 (j:=1) rfl,o1,_,_,_,rfl,rfl,SqT.of (sH4 _ _ b2),J6 (j:=0) hr0,r,_,_,_,rfl,rfl,SqT.of (sH4 _ _ hrr),J6 (j:=0) rfl,rfl,_,rfl,hQ _ _ ⟨rfl,?_⟩⟩
   cases D.sw<;>rfl
  ·obtain⟨rfl,e⟩:=e
   refine⟨_,rfl,nl,_,_,_,rfl,rfl,SqL.of hn4,nm1,(by show 4<=sizeLine;decide),fun t3 g3=>⟨_,rfl,_,rfl,nl,_,_,_,rfl,rfl,SqL.of (J2 hn4 g3),nm1,(by show 4<=sizeLine;decide),fun t4 g4=>⟨E1,fun sl2 gs2=>?_⟩⟩⟩
   refine hD' _ _ ⟨sl2,_,rfl,(((J4.refl H5).new g3).new g4).new gs2,G7,?_⟩
   unfold B5
   rw[if_pos e.symm]
   exact .cons ⟨t3,rfl,J2 (J2 G7 g4) gs2⟩ (.cons ⟨t4,rfl,J2 G7 gs2⟩ .nil)
  ·obtain⟨rfl,e⟩:=e
   refine⟨sl,_,rfl,J4.refl _,h4,?_⟩
   unfold B5
   rw[if_neg (by rw[<-e];decide)]
   exact .cons ⟨t1,rfl,d1⟩ (.cons ⟨t2,rfl,d2⟩ .nil)
  clear h4 d1 d2
  rintro σ H5 ⟨sl,u2,rfl,s5,hsl,hu2⟩
  have sH5:=sH4.trans s5
  have s35:=s4.trans s5
  have hn5:=s35 _ _ hn3
  have hu2l:u2.length=2:=by rw[AF hu2];unfold B5;split<;>rfl
  by_cases e1:root=1
  ·subst e1
   refine⟨_,rfl,rfl,_,rfl,a0I ?_⟩
   refine⟨_,rfl,sl,_,rfl,.inl ⟨SqL.of hsl,fun t g1=>⟨E1,fun p g2=>?_⟩⟩⟩
   have s6:J4 H5 (upd (upd H5 t (.tup u2)) p (.tup [.ref t,.non])):=((J4.refl H5).new g1).new g2
   exact q p t u2 .non _ (sH5.trans s6) G7 (J2 G7 g2) (Paired.mapP hu2 fun _ _ z=>z.mono s6.tups) rfl
  have ne1:¬((root:Int)=1):=fun z=>e1 (by omega)
  refine⟨_,rfl,rfl,_,rfl,?_⟩
  rw[show decide (V.int (root:Int)=V.int 1)=false by simp[ne1]]
  refine O7 ?_
  obtain rfl:root=0:=by omega
  rw[b1w]at q
  have hws5:=Paired.mapP hws fun _ _ z=>z.mono s35.tups
  have htl5:=s35 _ _ htl
  refine⟨_,rfl,_,rfl,_,_,rfl,rfl,_,rfl,nl,_,_,_,rfl,rfl,SqL.of hn5,nm0,(by show 4<=sizeLine;decide),fun t3 g3=>⟨a3y,fun l3 g4=>⟨sl,l3,_,_,rfl,rfl,J2 (J2 hsl g3) g4,G7,(by show u2.length+1<=sizeLine;rw[hu2l];decide),fun fl g5=>?_⟩⟩⟩
  obtain⟨H6,e6,s6,h6,d3⟩:∃H6,upd (upd (upd H5 t3 (.tup [.str "say",.int (v+4),.str D.n0,.int 1])) l3 (.lst [.ref t3])) fl (.lst (u2++[.ref t3]))=H6/\J4 H5 H6/\H6 fl=some (.lst (u2++[.ref t3]))/\H6 t3=some (.tup [.str "say",.int (v+4),.str D.n0,.int 1]):=
   ⟨_,rfl,(((J4.refl H5).new g3).new g4).new g5,G7,J2 (J2 G7 g4) g5⟩
  rw[e6]
  clear e6
  have sH6:=sH5.trans s6
  have hn6:=s6 _ _ hn5
  have hfd:Paired (a2M H6) (u2++[.ref t3]) (B5 D v++[(("say":Str),v+4,D.n0,1)]):=Paired.snoc (Paired.mapP hu2 fun _ _ z=>z.mono s6.tups) ⟨t3,rfl,d3⟩
  have hfl:(u2++[V.ref t3]).length=3:=by rw[List.length_append,hu2l];rfl
  generalize u2++[V.ref t3]=u3 at h6 hfd hfl
  generalize B5 D v++[(("say":Str),v+4,D.n0,1)]=sd at hfd q
  by_cases hn:v+2<=0
  ·rw[if_pos hn]at q
   refine⟨_,rfl,_,_,rfl,rfl,_,_,rfl,rfl,_,rfl,?_⟩
   rw[decide_eq_true hn]
   refine a0I ?_
   refine⟨_,rfl,fl,_,rfl,.inl ⟨SqL.of h6,fun t g7=>⟨_,rfl,nl,_,_,_,rfl,rfl,SqL.of (J2 hn6 g7),nm0,(by show 4<=sizeLine;decide),fun ft g8=>⟨E1,fun p g9=>?_⟩⟩⟩⟩
   have s7:J4 H6 (upd (upd (upd H6 t (.tup u3)) ft (.tup [.str "need",.str D.n0,.int 2,.int 0])) p (.tup [.ref t,.ref ft])):=(((J4.refl H6).new g7).new g8).new g9
   exact q p t u3 (.ref ft) _ (sH6.trans s7) G7 (J2 (J2 G7 g8) g9) (Paired.mapP hfd fun _ _ z=>z.mono s7.tups) ⟨ft,rfl,J2 G7 g9⟩
  rw[if_neg hn]at q
  refine⟨_,rfl,_,_,rfl,rfl,_,_,rfl,rfl,_,rfl,?_⟩
  rw[AT hn]
  refine O7 ?_
  have hwsl:ws.length<=40:=by
   have h1:=AF hws
   have h2:(a2k D f).length<=40:=by unfold a2k;split;(unfold a3Q;rw[List.length_mapIdx];exact hfew);exact Nat.zero_le _
   omega
  have hws6:=Paired.mapP hws5 fun _ _ z=>z.mono s6.tups
  have htl6:=s6 _ _ htl5
  refine b4P ?_
  refine a2Z (fun b H7=>H7=H6/\b=decide (v > 0)) (fun σ H7=>∃(fl:Addr)(u4:List V),σ=[some (.ref x),some (.int ((0:Nat):Int)),some (.int v),some (.ref nl),some (.ref tl),some (.ref sl),some (.ref fl)]/\J4 H6 H7/\H7 fl=some (.lst u4)/\u4.length<=43/\Paired (a2M H7) u4 (sd++(if v > 0 then a2k D f else []))) (fun Q' hQ=>⟨_,rfl,_,_,rfl,rfl,_,rfl,hQ _ _ ⟨rfl,rfl⟩⟩) (fun H7 e D' hD'=>?_) (fun H7 e=>?_) ?_
  ·obtain⟨rfl,e⟩:=e
   have hv:v > 0:=of_decide_eq_true e.symm
   refine⟨_,rfl,_,rfl,fl,tl,_,_,rfl,rfl,h6,htl6,Nat.le_of_lt (U5 (by omega)),fun f2 g7=>?_⟩
   refine hD' _ _ ⟨f2,_,rfl,(J4.refl H7).new g7,G7,by rw[List.length_append];omega,?_⟩
   rw[if_pos hv]
   have s8:J4 H7 (upd H7 f2 (.lst (u3++ws))):=(J4.refl H7).new g7
   exact a7I (Paired.mapP hfd fun _ _ z=>z.mono s8.tups) (Paired.mapP hws6 fun _ _ z=>z.mono s8.tups)
  ·obtain⟨rfl,e⟩:=e
   have hv:¬v > 0:=of_decide_eq_false e.symm
   exact⟨fl,u3,rfl,J4.refl _,h6,by omega,by rw[if_neg hv,List.append_nil];exact hfd⟩
  rintro σ H7 ⟨fl,u4,rfl,s7,h7,hu4,hfd7⟩
  have sH7:=sH6.trans s7
  have hn7:=s7 _ _ hn6
  refine⟨_,rfl,_,rfl,_,rfl,nl,_,_,_,rfl,rfl,SqL.of hn7,nm0,_,rfl,x,_,_,_,rfl,rfl,SqL.of (sH7 _ _ hx'),J6 (j:=0) rfl,p0,_,_,_,rfl,rfl,SqT.of (sH7 _ _ a1),J6 (j:=1) rfl,o0,_,rfl,.inr (SqT.of (sH7 _ _ a2)),_,_,rfl,rfl,(by show 4<=sizeLine;decide),fun t5 g8=>⟨a3y,fun l5 g9=>⟨fl,l5,_,_,rfl,rfl,J2 (J2 h7 g8) g9,G7,Nat.le_of_lt (U5 (by show u4.length+1<=1000;omega)),fun f3 g10=>?_⟩⟩⟩
  have hone:r0.length=(a0s D f).length:=AF a3
  have hone1:1<=(a0s D f).length:=by rw[a3c];split<;>decide
  have hlast:(r0.length:Int) - 1=(((a0s D f).length - 1:Nat):Int):=by omega
  obtain⟨H8,e8,s8,h8,d5⟩:∃H8,upd (upd (upd H7 t5 (.tup [.str "say",.int v,.str D.n0,.int ((r0.length:Int) - 1)])) l5 (.lst [.ref t5])) f3 (.lst (u4++[.ref t5]))=H8/\J4 H7 H8/\H8 f3=some (.lst (u4++[.ref t5]))/\H8 t5=some (.tup [.str "say",.int v,.str D.n0,.int (((a0s D f).length - 1:Nat):Int)]):=
   ⟨_,rfl,(((J4.refl H7).new g8).new g9).new g10,G7,by rw[J0 (J3 (J2 G7 g9) g10),J0 (J3 G7 g9),G7];show some (HO.tup [_,_,_,V.int ((r0.length:Int) - 1)])=_;rw[hlast]⟩
  rw[e8]
  refine⟨f3,_,rfl,.inl ⟨SqL.of h8,fun t g11=>⟨E1,fun p g12=>?_⟩⟩⟩
  have s9:J4 H8 (upd (upd H8 t (.tup (u4++[.ref t5]))) p (.tup [.ref t,.non])):=((J4.refl H8).new g11).new g12
  exact q p t _ .non _ ((sH7.trans s8).trans s9) G7 (J2 G7 g12) (Paired.snoc (Paired.mapP hfd7 fun _ _ z=>z.mono (s8.trans s9).tups) ⟨t5,rfl,s9 _ _ d5⟩) rfl
noncomputable def b3V (CP:Addr):Sp:=fun vs H Q _=>∃(w x n:Addr)(root:Nat)(ns:List Int)(D:D6)(f:Bool),vs=[.ref w,.ref x,.int (root:Int),.ref n]/\a0C CP H w (U4 D f)/\PsL H x (ps6 D f)/\a5E D/\root<=2/\(root=2->f=true)/\H n=some (.lst (ns.map V.int))/\ns.length<=2/\∀H',J4 H H'->Q (.bl true) H'
theorem b4E{K:W.Frag}{H:Hp}{ds:List Dd}:∀{us ws:List V},Paired (a2M H) us ds->Paired (a2M H) ws ds->Paired (EqD K H 2) us ws:=by
 induction ds with
 | nil=>intro us ws h k;cases h;cases k;exact .nil
 | cons d ds ih=>
  intro us ws h k
  cases h with
  | cons h1 h2=>
  cases k with
  | cons k1 k2=>
  refine .cons ?_ (ih h2 k2)
  obtain⟨t,rfl,ht⟩:=h1
  obtain⟨u,rfl,hu⟩:=k1
  exact .inr ⟨t,u,_,_,rfl,rfl,SqT.of ht,SqT.of hu,.cons (.inl ⟨rfl,rfl⟩) (.cons (.inl ⟨rfl,rfl⟩) (.cons (.inl ⟨rfl,rfl⟩) (.cons (.inl ⟨rfl,rfl⟩) .nil)))⟩
theorem b4T{K:W.Frag}{H:Hp}{o:Option Ft}{v w:V}(h:a5C H v o)(k:a5C H w o):EqD K H 3 v w:=by
 cases o with
 | none=>
  have e1:v= .non:=h
  have e2:w= .non:=k
  rw[e1,e2]
  exact .inl ⟨rfl,rfl⟩
 | some f=>
  obtain⟨t,rfl,ht⟩:=h
  obtain⟨u,rfl,hu⟩:=k
  exact .inr ⟨t,u,_,_,rfl,rfl,SqT.of ht,SqT.of hu,.cons (.inl ⟨rfl,rfl⟩) (.cons (.inl ⟨rfl,rfl⟩) (.cons (.inl ⟨rfl,rfl⟩) (.cons (.inl ⟨rfl,rfl⟩) .nil)))⟩
theorem b2e{H:Hp}{x:Addr}{D:D6}{f:Bool}(h:PsL H x (ps6 D f)){root:Nat}(hr:root<=2)(h2:root=2->f=true):∃us p o,H x=some (.lst us)/\us[root]?=some (.ref p)/\H p=some (.tup [.str (nm6 D root),.ref o]):=by
 obtain⟨p0,o0,r0,p1,o1,r1,us,hx',a1,a2,a3,b1,b2,b3,c3,c4⟩:=(P6.of h).ex
 match root,hr,h2 with
 | 0,_,_=>exact⟨_,p0,o0,hx',rfl,a1⟩
 | 1,_,_=>exact⟨_,p1,o1,hx',rfl,b1⟩
 | 2,_,h2=>
  obtain⟨p2,o2,r2,rfl,k1,_⟩:=c3 (h2 rfl)
  exact⟨_,p2,o2,hx',rfl,k1⟩
theorem b4C{X R:TS}{D:a1T}{r:VK}{b k:L2.St->Hp->Prop}{σ:L2.St}{H:Hp}(h:a6C X R D σ H):a1T.nx ⟨a6C X R D,r,b,k⟩ σ H:=h
theorem b2m(T:Tc K mg CP CG):L2.Cl P w K mg base 9 "_law_gone" ["_law_walk","_law_parts_here","_law_root","_law_numbers"] (b3V CP):=by
 have C_go:=b5m (P:=P) (w:=w) (base:=base) T
 have C_law_whole:=a7j (P:=P) (w:=w) (base:=base) T.toTxt
 have C_law_due:=b2v (P:=P) (w:=w) (base:=base) T.toTxt
 refine Cl.of T.d_law_gone a1z (fun vs H Q E h=>?_) (fun _ _ _ _ _ _ us hl=>len4 us hl (fun _ _ _ _=>rfl)) (fun fa cdv A outer s H vs Q E hr h=>?_)
 ·obtain⟨w,x,n,root,ns,D,f,rfl,_⟩:=h
  rfl
 ·obtain⟨w,x,n,root,ns,D,f,rfl,hW,hP,hD,hroot,hr2,hn,hnl,q⟩:=h
  have hu4:=Nat.lt_of_le_of_lt (Nat.add_le_add_left (by decide:1+3<=64) _) hr.units
  obtain⟨dw,rd,md,kvr,kvm,h1,_⟩:=hW.ex
  obtain⟨us,p,o,hx,hp,hpp⟩:=b2e hP hroot hr2
  refine⟨_,(@I0 _ _ _ _ _ (@U1 _ _ (4) _ _ _ _ a1z.nd rfl (Or.inl rfl) (@D0 _ _ _ _ _ _ _ _ _ _ _ _ _ _ _ C_go T.c_PartsWalk hr (@pv _ 0 _ _ (by rfl) (by first | exact Or.inl rfl | exact Or.inr (Or.inl rfl) | exact Or.inr (Or.inr rfl)) (by decide) (by decide)) (@G0 _ _ _ _ _ (@J7 _ _ _ _ _ _ _ (@J9 _) (@J7 _ _ _ _ _ _ _ W9 (@pv _ 1 _ _ (by rfl) (by first | exact Or.inl rfl | exact Or.inr (Or.inl rfl) | exact Or.inr (Or.inr rfl)) (by decide) (by decide)) (@pv _ 2 _ _ (by rfl) (by first | exact Or.inl rfl | exact Or.inr (Or.inl rfl) | exact Or.inr (Or.inr rfl)) (by decide) (by decide)) (fun _ _=>rfl)) (@G9 _ _ _ _) (fun _ _=>rfl)) (@G0 _ _ _ _ _ (@W8 _ _ _ _ _ _ _ _ _ (@U7 _) (by rfl) T.n_tuple boot_tuple (@G0 _ _ _ _ _ (@pv _ 3 _ _ (by rfl) (by first | exact Or.inl rfl | exact Or.inr (Or.inl rfl) | exact Or.inr (Or.inr rfl)) (by decide) (by decide)) (@G8 _) (by rfl)) (by decide) (by decide) (by rfl) (by rfl)) (@G8 _) (by rfl)) (by rfl)) (by decide) (by rfl) (by rfl) (by rfl)) (by rfl) (by first | exact .inl rfl | exact .inr rfl | assumption)) (@I0 _ _ _ _ _ (@U1 _ _ (5) _ _ _ _ a1z.nd rfl (Or.inl rfl) (@J7 _ _ _ _ _ _ _ W9 (@U6 _ _ _ _ _ _ _ _ (@a4C _) (@pv _ 3 _ _ (by rfl) (by first | exact Or.inl rfl | exact Or.inr (Or.inl rfl) | exact Or.inr (Or.inr rfl)) (by decide) (by decide)) (@O4 _ _ _ _ (@G0 _ _ _ _ _ (@G9 _ _ _ _) (@G8 _) (by rfl)))) (@G9 _ _ _ _) (fun _ _=>rfl)) (by rfl) (by first | exact .inl rfl | exact .inr rfl | assumption)) (@I0 _ _ _ _ _ (@W1 _ _ _ _ _ _ _ _ (PW.pt (@a0Q _ _ _ _ _ _ _ (@a0f _ _ _ _ (@D9 _ _ _ (@Y1 _ _ _ _ _ _ _ _ _ (@E3 _) (by rfl) T.n_isinstance PyProof.Rows.boot_isinstance (@G0 _ _ _ _ _ (@pv _ 4 _ _ (by rfl) (by first | exact Or.inl rfl | exact Or.inr (Or.inl rfl) | exact Or.inr (Or.inr rfl)) (by decide) (by decide)) (@G0 _ _ _ _ _ (@a0E _ _ (.ty "tuple") _ _ (by rfl) T.n_tuple boot_tuple rfl (by decide) (by decide)) (@G8 _) (by rfl)) (by rfl)) (by decide) (by decide) (by rfl) (by rfl)) (by intro _;rfl))) (@a0Q _ _ _ _ _ _ _ (@U0 _ _ _ _ _ _ _ _ (@b1q _) (@Y1 _ _ _ _ _ _ _ _ _ (@O9 _) (by rfl) T.n_len PySem.boot_len (@G0 _ _ _ _ _ (@pv _ 4 _ _ (by rfl) (by first | exact Or.inl rfl | exact Or.inr (Or.inl rfl) | exact Or.inr (Or.inr rfl)) (by decide) (by decide)) (@G8 _) (by rfl)) (by decide) (by decide) (by rfl) (by rfl)) (@G9 _ _ _ _) (U8 _)) (@a1k _ _ _ _ (@a0f _ _ _ _ (@D9 _ _ _ (@Y1 _ _ _ _ _ _ _ _ _ (@E3 _) (by rfl) T.n_isinstance PyProof.Rows.boot_isinstance (@G0 _ _ _ _ _ (@J7 _ _ _ _ _ _ _ (@J9 _) (@pv _ 4 _ _ (by rfl) (by first | exact Or.inl rfl | exact Or.inr (Or.inl rfl) | exact Or.inr (Or.inr rfl)) (by decide) (by decide)) (@G9 _ _ _ _) (fun _ _=>rfl)) (@G0 _ _ _ _ _ (@a0E _ _ (.ty "tuple") _ _ (by rfl) T.n_tuple boot_tuple rfl (by decide) (by decide)) (@G8 _) (by rfl)) (by rfl)) (by decide) (by decide) (by rfl) (by rfl)) (by intro _;rfl))))))) (@J1 _ _ _ (@R3 _ _ _ _ (@a0P _ _ _ _))) (@R8 _)) (@I0 _ _ _ _ _ (@F7 _ _ _ _ _ _ _ _ AK rfl (@a1l _ _ _ _ (@J7 _ _ _ _ _ _ _ (@J9 _) (@pv _ 4 _ _ (by rfl) (by first | exact Or.inl rfl | exact Or.inr (Or.inl rfl) | exact Or.inr (Or.inr rfl)) (by decide) (by decide)) (@G9 _ _ _ _) (fun _ _=>rfl))) (@R5 _ _ (6) _ a1z.nd rfl (Or.inl rfl) (by first | exact .inl rfl | exact .inr rfl | assumption)) (@J1 _ _ _ (@W1 _ _ _ _ _ _ _ _ (PW.pt (@a0Q _ _ _ _ _ _ _ (@a0f _ _ _ _ (@D9 _ _ _ (@Y1 _ _ _ _ _ _ _ _ _ (@E3 _) (by rfl) T.n_isinstance PyProof.Rows.boot_isinstance (@G0 _ _ _ _ _ (@pv _ 6 _ _ (by rfl) (by first | exact Or.inl rfl | exact Or.inr (Or.inl rfl) | exact Or.inr (Or.inr rfl)) (by decide) (by decide)) (@G0 _ _ _ _ _ (@a0E _ _ (.ty "tuple") _ _ (by rfl) T.n_tuple boot_tuple rfl (by decide) (by decide)) (@G8 _) (by rfl)) (by rfl)) (by decide) (by decide) (by rfl) (by rfl)) (by intro _;rfl))) (@a0Q _ _ _ _ _ _ _ (@U0 _ _ _ _ _ _ _ _ (@b1q _) (@Y1 _ _ _ _ _ _ _ _ _ (@O9 _) (by rfl) T.n_len PySem.boot_len (@G0 _ _ _ _ _ (@pv _ 6 _ _ (by rfl) (by first | exact Or.inl rfl | exact Or.inr (Or.inl rfl) | exact Or.inr (Or.inr rfl)) (by decide) (by decide)) (@G8 _) (by rfl)) (by decide) (by decide) (by rfl) (by rfl)) (@G9 _ _ _ _) (U8 _)) (@a0Q _ _ _ _ _ _ _ (@a0f _ _ _ _ (@D9 _ _ _ (@W2 _ _ _ _ _ _ _ _ _ _ _ C_law_whole hr (by rfl) (@G0 _ _ _ _ _ (@J7 _ _ _ _ _ _ _ (@J9 _) (@pv _ 6 _ _ (by rfl) (by first | exact Or.inl rfl | exact Or.inr (Or.inl rfl) | exact Or.inr (Or.inr rfl)) (by decide) (by decide)) (@G9 _ _ _ _) (fun _ _=>rfl)) (@G8 _) (by rfl)) (by decide) (by decide) (by rfl) (by rfl)) (by intro _;rfl))) (@a1k _ _ _ _ (@a0f _ _ _ _ (@D9 _ _ _ (@W2 _ _ _ _ _ _ _ _ _ _ _ C_law_whole hr (by rfl) (@G0 _ _ _ _ _ (@J7 _ _ _ _ _ _ _ (@J9 _) (@pv _ 6 _ _ (by rfl) (by first | exact Or.inl rfl | exact Or.inr (Or.inl rfl) | exact Or.inr (Or.inr rfl)) (by decide) (by decide)) (@G9 _ _ _ _) (fun _ _=>rfl)) (@G8 _) (by rfl)) (by decide) (by decide) (by rfl) (by rfl)) (by intro _;rfl)))))))) (@J1 _ _ _ (@R3 _ _ _ _ (@a0P _ _ _ _))) (@R8 _))) (by intro _;rfl)) (@I0 _ _ _ _ _ (@W1 _ _ _ _ _ _ _ _ (PW.pt (@a6U _ _ _ _ _ _ _ (@a1n _ _ _ _ _ _ (@a8U _ _ _ _ _ (@J7 _ _ _ _ _ _ _ (@J9 _) (@pv _ 4 _ _ (by rfl) (by first | exact Or.inl rfl | exact Or.inr (Or.inl rfl) | exact Or.inr (Or.inr rfl)) (by decide) (by decide)) (@G9 _ _ _ _) (fun _ _=>rfl))) (by first | exact a4Y _ (by decide) (by decide) | rfl)) (@a4p _ _ _ _ (PW.pt (@a0Q _ _ _ _ _ _ _ (@a0f _ _ _ _ (@D9 _ _ _ (@Y1 _ _ _ _ _ _ _ _ _ (@E3 _) (by rfl) T.n_isinstance PyProof.Rows.boot_isinstance (@G0 _ _ _ _ _ (@J7 _ _ _ _ _ _ _ (@J9 _) (@pv _ 4 _ _ (by rfl) (by first | exact Or.inl rfl | exact Or.inr (Or.inl rfl) | exact Or.inr (Or.inr rfl)) (by decide) (by decide)) (@G9 _ _ _ _) (fun _ _=>rfl)) (@G0 _ _ _ _ _ (@a0E _ _ (.ty "tuple") _ _ (by rfl) T.n_tuple boot_tuple rfl (by decide) (by decide)) (@G8 _) (by rfl)) (by rfl)) (by decide) (by decide) (by rfl) (by rfl)) (by intro _;rfl))) (@a1k _ _ _ _ (@a0f _ _ _ _ (@D9 _ _ _ (@W2 _ _ _ _ _ _ _ _ _ _ _ C_law_whole hr (by rfl) (@G0 _ _ _ _ _ (@J7 _ _ _ _ _ _ _ (@J9 _) (@J7 _ _ _ _ _ _ _ (@J9 _) (@pv _ 4 _ _ (by rfl) (by first | exact Or.inl rfl | exact Or.inr (Or.inl rfl) | exact Or.inr (Or.inr rfl)) (by decide) (by decide)) (@G9 _ _ _ _) (fun _ _=>rfl)) (@G9 _ _ _ _) (fun _ _=>rfl)) (@G8 _) (by rfl)) (by decide) (by decide) (by rfl) (by rfl)) (by intro _;rfl))))))))) (@J1 _ _ _ (@R3 _ _ _ _ (@a0P _ _ _ _))) (@R8 _)) (@J1 _ _ _ (@R3 _ _ _ _ (@a8E _ _ _ _ _ _ _ _ (@b4h _ 3 hu4) (@pv _ 4 _ _ (by rfl) (by first | exact Or.inl rfl | exact Or.inr (Or.inl rfl) | exact Or.inr (Or.inr rfl)) (by decide) (by decide)) (@W2 _ _ _ _ _ _ _ _ _ _ _ C_law_due hr (by rfl) (@G0 _ _ _ _ _ (@pv _ 1 _ _ (by rfl) (by first | exact Or.inl rfl | exact Or.inr (Or.inl rfl) | exact Or.inr (Or.inr rfl)) (by decide) (by decide)) (@G0 _ _ _ _ _ (@pv _ 2 _ _ (by rfl) (by first | exact Or.inl rfl | exact Or.inr (Or.inl rfl) | exact Or.inr (Or.inr rfl)) (by decide) (by decide)) (@G0 _ _ _ _ _ (@pv _ 5 _ _ (by rfl) (by first | exact Or.inl rfl | exact Or.inr (Or.inl rfl) | exact Or.inr (Or.inr rfl)) (by decide) (by decide)) (@G8 _) (by rfl)) (by rfl)) (by rfl)) (by decide) (by decide) (by rfl) (by rfl)) (U8 _))))))))),?_⟩
  refine⟨_,rfl,w,dw,_,rfl,h1,b4R,_,rfl,_,rfl,x,_,_,_,rfl,rfl,SqL.of hx,J6 (j:=root) hp,p,_,_,_,rfl,rfl,SqT.of hpp,J6 (j:=0) rfl,_,rfl,n,_,rfl,.inl ⟨SqL.of hn,fun nt gn=>?_⟩⟩
  have s1:J4 H (upd H nt (.tup (ns.map V.int))):=(J4.refl H).new gn
  have hnt:upd H nt (.tup (ns.map V.int)) nt=some (.tup (ns.map V.int)):=G7
  generalize upd H nt (.tup (ns.map V.int))=H1 at s1 hnt⊢
  have hm:nm6 D root∈(U4 D f).ps.map (·.1):=by
   show nm6 D root∈(ps6 D f).map (·.1)
   match root,hroot,hr2 with
   | 0,_,_=>unfold ps6;simp[nm6]
   | 1,_,_=>unfold ps6;simp[nm6]
   | 2,_,h2=>rw[h2 rfl];unfold ps6;simp[nm6]
  refine⟨w,nt,U4 D f,ns,nm6 D root,rfl,Z3 hW s1,hnt,a3l hD f,hm,fun fp ft vs fv S' H2 s2 hfp hft hvs hfv hst hend=>?_⟩
  obtain⟨etr,eft⟩:=b5O (a3l hD f) hm hst hend
  obtain⟨e1,e2⟩:=b4O hD (f:=f) (ns:=ns) hroot hr2
  rw[etr,e1]at hvs
  rw[eft,e2]at hfv
  have sH2:=s1.trans s2
  have hn2:=sH2 _ _ hn
  have hv0:atI (ns.map V.int++[.int 0]) 0=some (.int (ns.getD 0 0)):=by
   cases ns with
   | nil=>exact J6 (j:=0) rfl
   | cons c r=>exact J6 (j:=0) rfl
  generalize ns.getD 0 0=v at hvs hfv hv0
  refine⟨_,rfl,a3y,fun l1 g1=>⟨n,l1,_,_,rfl,rfl,J2 hn2 g1,G7,Nat.le_of_lt (U5 (by rw[AI];show ns.length+1<=1000;omega)),fun l2 g2=>⟨l2,_,_,_,rfl,rfl,SqL.of G7,hv0,?_⟩⟩⟩
  obtain⟨H3,e3,s3⟩:∃H3,upd (upd H2 l1 (.lst [.int 0])) l2 (.lst (ns.map V.int++[.int 0]))=H3/\J4 H2 H3:=⟨_,rfl,((J4.refl H2).new g1).new g2⟩
  rw[e3]
  clear e3
  have hfp3:=s3 _ _ hfp
  have hft3:=s3 _ _ hft
  have hvs3:=Paired.mapP hvs fun _ _ z=>z.mono s3.tups
  have hfv3:=hfv.mono s3.tups
  have sH3:=sH2.trans s3
  refine⟨_,rfl,_,_,_,_,rfl,.tup hfp3,a0q _ _,_,rfl,O7 ?_⟩
  refine⟨_,rfl,fp,_,rfl,.inr (SqT.of hfp3),rfl,_,rfl,a8O rfl ?_⟩
  refine⟨_,rfl,fp,_,_,_,rfl,rfl,SqT.of hfp3,J6 (j:=0) rfl,_,_,_,_,rfl,.tup hft3,a0q _ _,_,rfl,O7 ?_⟩
  refine⟨_,rfl,fp,_,_,_,rfl,rfl,SqT.of hfp3,J6 (j:=0) rfl,ft,rfl,⟨_,SqT.of hft3⟩,a0n (K:=K) (a:=ft) (xs:=vs) (fun i σ H4=>H4=H3/\∃v6:Option V,σ=[some (.ref w),some (.ref x),some (.int (root:Int)),some (.ref n),some (.ref fp),some (.int v),v6]) ⟨rfl,_,rfl⟩ (fun i σ H4 _⟨e,_⟩=>by rw[e];exact SqT.of hft3) ?_ ?_⟩
  ·rintro i y σ H4 hy ⟨rfl,v6,rfl⟩
   obtain⟨d,_,t,rfl,ht⟩:=Paired.get? hvs3 hy
   refine⟨_,rfl,_,_,_,_,rfl,.tup ht,a0q _ _,_,rfl,O7 ?_⟩
   refine⟨_,rfl,t,_,rfl,.inr (SqT.of ht),rfl,_,rfl,a8O rfl ?_⟩
   refine⟨_,rfl,t,_,_,_,rfl,rfl,SqT.of ht,J6 (j:=1) rfl,_,rfl,_,rfl,O7 ?_⟩
   refine⟨_,rfl,t,_,_,_,rfl,rfl,SqT.of ht,J6 (j:=3) rfl,_,rfl,_,rfl,O7 ?_⟩
   exact⟨rfl,_,rfl⟩
  rintro σ H4 ⟨rfl,v6,rfl⟩
  refine b4C ?_
  refine a2Z (fun b H5=>H5=H4/\b=false) (fun σ H5=>H5=H4/\σ=[some (.ref w),some (.ref x),some (.int (root:Int)),some (.ref n),some (.ref fp),some (.int v),v6]) (fun Q' hQ=>?_) (fun H5 e D' hD'=>(by cases e.2)) (fun H5 e=>⟨e.1,rfl⟩) ?_
  ·refine⟨_,rfl,fp,_,_,_,rfl,rfl,SqT.of hfp3,J6 (j:=1) rfl,_,rfl,?_⟩
   cases hft':(b0m D f root v).2 with
   | none=>
    rw[hft']at hfv3
    have e:fv= .non:=hfv3
    subst e
    exact O7 (hQ _ _ ⟨rfl,rfl⟩)
   | some g=>
    rw[hft']at hfv3
    obtain⟨t,rfl,ht⟩:=hfv3
    refine a0I ?_
    refine⟨_,rfl,fp,_,_,_,rfl,rfl,SqT.of hfp3,J6 (j:=1) rfl,_,_,_,_,rfl,.tup ht,a0q _ _,_,rfl,O7 ?_⟩
    exact⟨_,rfl,fp,_,_,_,rfl,rfl,SqT.of hfp3,J6 (j:=1) rfl,t,_,_,_,rfl,rfl,SqT.of ht,J6 (j:=2) rfl,_,rfl,_,rfl,hQ _ _ ⟨rfl,rfl⟩⟩
  rintro σ H5 ⟨rfl,rfl⟩
  refine⟨_,rfl,_,rfl,_,rfl,_,rfl,x,root,v,D,f,rfl,hP.mono sH3,hD.few,hroot,fun p2 t2 us2 fv2 H6 s6 hp2 ht2 hus2 hfv2=>?_⟩
  refine⟨fp,p2,_,_,rfl,rfl,SqT.of (s6 _ _ hfp3),SqT.of hp2,.cons (.inr ⟨ft,t2,vs,us2,rfl,rfl,SqT.of (s6 _ _ hft3),SqT.of ht2,b4E (Paired.mapP hvs3 fun _ _ z=>z.mono s6.tups) hus2⟩) (.cons (b4T (hfv3.mono s6.tups) hfv2) .nil),?_⟩
  exact q _ (sH3.trans s6)
theorem a9a{K:W.Frag}{H:Hp}(n:Nat)(o:Option Str):EqD K H (n+1) (a9P o) (a9P o):=by
 cases o with
 | none=>exact .inl ⟨rfl,rfl⟩
 | some x=>exact .inl ⟨rfl,rfl⟩
theorem b0K(th:Th):a1b (thV th)=true:=by cases th<;>rfl
theorem a3L{K:W.Frag}{H:Hp}{t u:Addr}{ts:List (Int×Th)}(h:E7 H t ts)(k:E7 H u ts):EqD K H 2 (.ref t) (.ref u):=by
 obtain⟨vs,h1,h2⟩:=h.ex
 obtain⟨ws,k1,k2⟩:=k.ex
 clear h k
 refine .inr ⟨t,u,vs,ws,rfl,rfl,SqT.of h1,SqT.of k1,?_⟩
 clear h1 k1
 induction h2 generalizing ws with
 | nil=>cases k2;exact .nil
 | cons a _ ih=>
  cases k2 with
  | cons b k3=>
  refine .cons ?_ (ih _ k3)
  obtain⟨p,rfl,hp,_⟩:=a
  obtain⟨q,rfl,hq,_⟩:=b
  refine .inr ⟨p,q,_,_,rfl,rfl,SqT.of hp,SqT.of hq,.cons ⟨rfl,rfl⟩ (.cons ⟨rfl,?_⟩ .nil)⟩
  exact b0K _
theorem a9W{K:W.Frag}{H:Hp}{t u:Addr}{ps:List (Str×Str)}(h:a1R H t ps)(k:a1R H u ps):EqD K H 2 (.ref t) (.ref u):=by
 obtain⟨vs,h1,h2⟩:=h.ex
 obtain⟨ws,k1,k2⟩:=k.ex
 clear h k
 refine .inr ⟨t,u,vs,ws,rfl,rfl,SqT.of h1,SqT.of k1,?_⟩
 clear h1 k1
 induction h2 generalizing ws with
 | nil=>cases k2;exact .nil
 | cons a _ ih=>
  cases k2 with
  | cons b k3=>
  refine .cons ?_ (ih _ k3)
  obtain⟨p,rfl,hp,_⟩:=a
  obtain⟨q,rfl,hq,_⟩:=b
  exact .inr ⟨p,q,_,_,rfl,rfl,SqT.of hp,SqT.of hq,.cons ⟨rfl,rfl⟩ (.cons ⟨rfl,rfl⟩ .nil)⟩
theorem b2E{K:W.Frag}{H:Hp}{r u:Addr}{rw:Rw}(h:O5 H r rw)(k:O5 H u rw):EqD K H 3 (.ref r) (.ref u):=by
 have st:∀x:Str,EqD K H 2 (.str x) (.str x):=fun x=> .inl ⟨rfl,rfl⟩
 cases rw with
 | bring p ps=>
  obtain⟨t,h1,h2⟩:=h
  obtain⟨v,k1,k2⟩:=k
  exact .inr ⟨r,u,_,_,rfl,rfl,SqT.of h1,SqT.of k1,.cons (st _) (.cons (st _) (.cons (a9W h2 k2) .nil))⟩
 | give o g=>exact .inr ⟨r,u,_,_,rfl,rfl,SqT.of h,SqT.of k,.cons (st _) (.cons (st _) (.cons (st _) .nil))⟩
 | set o ts=>
  obtain⟨t,h1,h2⟩:=h
  obtain⟨v,k1,k2⟩:=k
  exact .inr ⟨r,u,_,_,rfl,rfl,SqT.of h1,SqT.of k1,.cons (st _) (.cons (st _) (.cons (a3L h2 k2) .nil))⟩
 | take o=>exact .inr ⟨r,u,_,_,rfl,rfl,SqT.of h,SqT.of k,.cons (st _) (.cons (st _) .nil)⟩
 | say ts wh=>
  obtain⟨t,h1,h2⟩:=h
  obtain⟨v,k1,k2⟩:=k
  exact .inr ⟨r,u,_,_,rfl,rfl,SqT.of h1,SqT.of k1,.cons (st _) (.cons (a3L h2 k2) (.cons (a9a 1 wh) .nil))⟩
 | need ts=>
  obtain⟨t,h1,h2⟩:=h
  obtain⟨v,k1,k2⟩:=k
  exact .inr ⟨r,u,_,_,rfl,rfl,SqT.of h1,SqT.of k1,.cons (st _) (.cons (a3L h2 k2) .nil)⟩
 | ask p wh=>exact .inr ⟨r,u,_,_,rfl,rfl,SqT.of h,SqT.of k,.cons (st _) (.cons (st _) (.cons (a9a 1 wh) .nil))⟩
 | part p=>exact .inr ⟨r,u,_,_,rfl,rfl,SqT.of h,SqT.of k,.cons (st _) (.cons (st _) .nil)⟩
 | doo p=>exact .inr ⟨r,u,_,_,rfl,rfl,SqT.of h,SqT.of k,.cons (st _) (.cons (st _) .nil)⟩
theorem b3G{K:W.Frag}{H:Hp}{xs:List Wx}:∀{us ws:List V},Paired (a3X H) us xs->Paired (a3X H) ws xs->Paired (EqD K H 4) us ws:=by
 induction xs with
 | nil=>intro us ws h k;cases h;cases k;exact .nil
 | cons d ds ih=>
  intro us ws h k
  cases h with
  | cons h1 h2=>
  cases k with
  | cons k1 k2=>
  refine .cons ?_ (ih h2 k2)
  obtain⟨t,r,rfl,ht,hr⟩:=h1
  obtain⟨u,v,rfl,hu,hv⟩:=k1
  exact .inr ⟨t,u,_,_,rfl,rfl,SqT.of ht,SqT.of hu,.cons (.inl ⟨rfl,rfl⟩) (.cons (.inl ⟨rfl,rfl⟩) (.cons (b2E hr hv) .nil))⟩
theorem a9X{H:Hp}{D:D6}{r1:List V}(h:a1B H r1 (a1A D)):(∀i,i < 3->∃r ws kd,r1[i]?=some (.ref r)/\H r=some (.tup (.str kd::ws))/\(kd="take" ↔i=at6 D))/\∃r,r1[at6 D]?=some (.ref r)/\H r=some (.tup [.str "take",.str D.there]):=by
 unfold a1A at h
 unfold at6
 by_cases hs:D.sw=true
 ·rw[if_pos hs]at h⊢
  cases h with
  | cons z0 h=>
  cases h with
  | cons z1 h=>
  cases h with
  | cons z2 h=>
  obtain⟨r0,rfl,a0⟩:=z0
  obtain⟨r1,rfl,a1⟩:=z1
  obtain⟨r2,rfl,a2⟩:=z2
  obtain⟨_,_,a0',_⟩:=a2R a0
  refine⟨fun i hi=>?_,r1,rfl,a1⟩
  match i,hi with
  | 0,_=>exact⟨r0,_,_,rfl,a0',by decide⟩
  | 1,_=>exact⟨r1,_,_,rfl,a1,by decide⟩
  | 2,_=>exact⟨r2,_,_,rfl,a2,by decide⟩
 ·rw[if_neg hs]at h⊢
  cases h with
  | cons z0 h=>
  cases h with
  | cons z1 h=>
  cases h with
  | cons z2 h=>
  obtain⟨r0,rfl,a0⟩:=z0
  obtain⟨r1,rfl,a1⟩:=z1
  obtain⟨r2,rfl,a2⟩:=z2
  obtain⟨_,_,a1',_⟩:=a2R a1
  refine⟨fun i hi=>?_,r0,rfl,a0⟩
  match i,hi with
  | 0,_=>exact⟨r0,_,_,rfl,a0,by decide⟩
  | 1,_=>exact⟨r1,_,_,rfl,a1',by decide⟩
  | 2,_=>exact⟨r2,_,_,rfl,a2,by decide⟩
noncomputable def b2O (CP:Addr):Sp:=fun vs H Q _=>∃(w x:Addr)(D:D6)(f:Bool),vs=[.ref w,.ref x]/\a0C CP H w (U4 D f)/\PsL H x (ps6 D f)/\a5E D/\∀H',J4 H H'->Q (.bl true) H'
theorem b1p(T:Tw K mg CP CG CW):L2.Cl P w K mg base 2 "_law_told" ["_law_walk","_law_parts_here"] (b2O CP):=by
 have C_rows_of:=a5o (P:=P) (w:=w) (base:=base) T.toTc
 have C_loads_of:=a2u (P:=P) (w:=w) (base:=base) T.toTc
 have C_ahead_of:=a3Z (P:=P) (w:=w) (base:=base) T.toTc
 have C_key_of:=a1J (P:=P) (w:=w) (base:=base) T.toTc
 have C_law_whole:=a7j (P:=P) (w:=w) (base:=base) T.toTxt
 refine Cl.of T.d_law_told O1 (fun vs H Q E h=>?_) (fun _ _ _ _ _ _ us hl=>len2 us hl (fun _ _=>rfl)) (fun fa cdv A outer s H vs Q E hr h=>?_)
 ·obtain⟨w,x,D,f,rfl,_⟩:=h
  rfl
 ·obtain⟨w,x,D,f,rfl,hW,hP,hD,q⟩:=h
  have hu0:=Nat.lt_of_succ_lt (a0O hr)
  have hu6:=Nat.lt_of_le_of_lt (Nat.add_le_add_left (by decide:1+4<=64) _) hr.units
  obtain⟨dw,rd,md,kvr,kvm,h1,_⟩:=hW.ex
  obtain⟨xs,hx,hxs⟩:=id hP
  have hfit:=a2Q hD f
  refine⟨_,(@I0 _ _ _ _ _ (@F7 _ _ _ _ _ _ _ _ AK rfl (@a1O _ _ _ _ (@pv _ 1 _ _ (by rfl) (by first | exact Or.inl rfl | exact Or.inr (Or.inl rfl) | exact Or.inr (Or.inr rfl)) (by decide) (by decide))) (@M2 _ _ _ _ _ _ rfl (@R7 _ _ _ _ _ (@R5 _ _ (2) _ O1.nd rfl (Or.inr rfl) (by first | exact .inl rfl | exact .inr rfl | assumption)) (@R7 _ _ _ _ _ (@R5 _ _ (3) _ O1.nd rfl (Or.inr rfl) (by first | exact .inl rfl | exact .inr rfl | assumption)) (@F3 _) (by rfl)) (by rfl)) (by rfl) (by rfl)) (@I0 _ _ _ _ _ (@U1 _ _ (4) _ _ _ _ O1.nd rfl (Or.inl rfl) (@D0 _ _ _ _ _ _ _ _ _ _ _ _ _ _ _ C_rows_of T.c_PartsWalk hr (@pv _ 0 _ _ (by rfl) (by first | exact Or.inl rfl | exact Or.inr (Or.inl rfl) | exact Or.inr (Or.inr rfl)) (by decide) (by decide)) (@G0 _ _ _ _ _ (@pv _ 2 _ _ (by rfl) (by first | exact Or.inl rfl | exact Or.inr (Or.inl rfl) | exact Or.inr (Or.inr rfl)) (by decide) (by decide)) (@G8 _) (by rfl)) (by decide) (by rfl) (by rfl) (by rfl)) (by rfl) (by first | exact .inl rfl | exact .inr rfl | assumption)) (@I0 _ _ _ _ _ (@a7a _ _ _ _ _ _ _ (["_law_k","_law_name_here","_law_rows"]) ([none,some 2,some 3]) _ _ _ _ (5) _ _ _ (I9 a0e) ["_law_walk","_law_parts_here","_law_name_here","_law_rows","_law_found","_law_due_here","_law_spot","_law_at","_law_brought","_law_part"] ⟨rfl,by decide +kernel,by decide +kernel,by decide +kernel,rfl,by decide +kernel,by decide +kernel⟩ O1.nd rfl (Or.inl rfl) (@a3G _ _ _ _ _ _ (by rfl) T.n_range (@G0 _ _ _ _ _ (@Y1 _ _ _ _ _ _ _ _ _ (@O9 _) (by rfl) T.n_len PySem.boot_len (@G0 _ _ _ _ _ (@pv _ 3 _ _ (by rfl) (by first | exact Or.inl rfl | exact Or.inr (Or.inl rfl) | exact Or.inr (Or.inr rfl)) (by decide) (by decide)) (@G8 _) (by rfl)) (by decide) (by decide) (by rfl) (by rfl)) (@G8 _) (by rfl)) (by rfl)) (fun _ _ _ _ _ _=>(@R5 _ _ (0) _ (show(["_law_k","_law_name_here","_law_rows"]:List Str).Nodup by decide +kernel) rfl (Or.inl rfl) (by first | exact .inl rfl | exact .inr rfl | assumption))) (fun _ _ _ _ _ _=>@a3t _) (fun _ _ _ _ _ _=>(@J5 _ _ _ _ _ (@G0 _ _ _ _ _ (@pv _ 1 _ _ (by rfl) (by first | exact Or.inl rfl | exact Or.inr (Or.inl rfl) | exact Or.inr (Or.inr rfl)) (by decide) (by decide)) (@G0 _ _ _ _ _ (@pv _ 0 _ _ (by rfl) (by first | exact Or.inl rfl | exact Or.inr (Or.inl rfl) | exact Or.inr (Or.inr rfl)) (by decide) (by decide)) (@G0 _ _ _ _ _ (@J7 _ _ _ _ _ _ _ (@a0U _ (K) rfl) (@pv _ 2 _ _ (by rfl) (by first | exact Or.inl rfl | exact Or.inr (Or.inl rfl) | exact Or.inr (Or.inr rfl)) (by decide) (by decide)) (@pv _ 0 _ _ (by rfl) (by first | exact Or.inl rfl | exact Or.inr (Or.inl rfl) | exact Or.inr (Or.inr rfl)) (by decide) (by decide)) (fun _ _=>rfl)) (@G8 _) (by rfl)) (by rfl)) (by rfl)))) (by rfl) (by rfl) (by rfl) (by rfl) (by intro _;rfl) (by first | exact .inl rfl | exact .inr rfl | assumption)) (@I0 _ _ _ _ _ (@W1 _ _ _ _ _ _ _ _ (PW.pt (@a0Q _ _ _ _ _ _ _ (@a0f _ _ _ _ (@D9 _ _ _ (@Y1 _ _ _ _ _ _ _ _ _ (@E3 _) (by rfl) T.n_isinstance PyProof.Rows.boot_isinstance (@G0 _ _ _ _ _ (@pv _ 4 _ _ (by rfl) (by first | exact Or.inl rfl | exact Or.inr (Or.inl rfl) | exact Or.inr (Or.inr rfl)) (by decide) (by decide)) (@G0 _ _ _ _ _ (@a0E _ _ (.ty "tuple") _ _ (by rfl) T.n_tuple boot_tuple rfl (by decide) (by decide)) (@G8 _) (by rfl)) (by rfl)) (by decide) (by decide) (by rfl) (by rfl)) (by intro _;rfl))) (@a1k _ _ _ _ (@U0 _ _ _ _ _ _ _ _ (@b3g _ 4 hu6) (@W8 _ _ _ _ _ _ _ _ _ (@a7b _) (by rfl) T.n_list boot_list (@G0 _ _ _ _ _ (@pv _ 4 _ _ (by rfl) (by first | exact Or.inl rfl | exact Or.inr (Or.inl rfl) | exact Or.inr (Or.inr rfl)) (by decide) (by decide)) (@G8 _) (by rfl)) (by decide) (by decide) (by rfl) (by rfl)) (@pv _ 5 _ _ (by rfl) (by first | exact Or.inl rfl | exact Or.inr (Or.inl rfl) | exact Or.inr (Or.inr rfl)) (by decide) (by decide)) (U8 _))))) (@J1 _ _ _ (@R3 _ _ _ _ (@a0P _ _ _ _))) (@R8 _)) (@I0 _ _ _ _ _ (@F7 _ _ _ _ _ _ _ _ AK rfl (@a1l _ _ _ _ (@pv _ 4 _ _ (by rfl) (by first | exact Or.inl rfl | exact Or.inr (Or.inl rfl) | exact Or.inr (Or.inr rfl)) (by decide) (by decide))) (@R5 _ _ (6) _ O1.nd rfl (Or.inl rfl) (by first | exact .inl rfl | exact .inr rfl | assumption)) (@J1 _ _ _ (@W1 _ _ _ _ _ _ _ _ (@a0f _ _ _ _ (@D9 _ _ _ (@W2 _ _ _ _ _ _ _ _ _ _ _ C_law_whole hr (by rfl) (@G0 _ _ _ _ _ (@J7 _ _ _ _ _ _ _ (@J9 _) (@pv _ 6 _ _ (by rfl) (by first | exact Or.inl rfl | exact Or.inr (Or.inl rfl) | exact Or.inr (Or.inr rfl)) (by decide) (by decide)) (@G9 _ _ _ _) (fun _ _=>rfl)) (@G8 _) (by rfl)) (by decide) (by decide) (by rfl) (by rfl)) (by intro _;rfl))) (@J1 _ _ _ (@R3 _ _ _ _ (@a0P _ _ _ _))) (@R8 _))) (by intro _;rfl)) (@J1 _ _ _ (@W1 _ _ _ _ _ _ _ _ (PW.pt (@a0Q _ _ _ _ _ _ _ (@U0 _ _ _ _ _ _ _ _ (@a0h _ hu0) (@D0 _ _ _ _ _ _ _ _ _ _ _ _ _ _ _ C_loads_of T.c_PartsWalk hr (@pv _ 0 _ _ (by rfl) (by first | exact Or.inl rfl | exact Or.inr (Or.inl rfl) | exact Or.inr (Or.inr rfl)) (by decide) (by decide)) (@G0 _ _ _ _ _ (@pv _ 2 _ _ (by rfl) (by first | exact Or.inl rfl | exact Or.inr (Or.inl rfl) | exact Or.inr (Or.inr rfl)) (by decide) (by decide)) (@G8 _) (by rfl)) (by decide) (by rfl) (by rfl) (by rfl)) (@J5 _ _ _ _ _ (@G8 _)) (U8 _)) (@a1k _ _ _ _ (@U0 _ _ _ _ _ _ _ _ (@a0h _ hu0) (@D0 _ _ _ _ _ _ _ _ _ _ _ _ _ _ _ C_ahead_of T.c_PartsWalk hr (@pv _ 0 _ _ (by rfl) (by first | exact Or.inl rfl | exact Or.inr (Or.inl rfl) | exact Or.inr (Or.inr rfl)) (by decide) (by decide)) (@G0 _ _ _ _ _ (@pv _ 2 _ _ (by rfl) (by first | exact Or.inl rfl | exact Or.inr (Or.inl rfl) | exact Or.inr (Or.inr rfl)) (by decide) (by decide)) (@G8 _) (by rfl)) (by decide) (by rfl) (by rfl) (by rfl)) (@J5 _ _ _ _ _ (@G8 _)) (U8 _))))) (@J1 _ _ _ (@R3 _ _ _ _ (@a0P _ _ _ _))) (@R8 _))))))) (by intro _;rfl)) (@I0 _ _ _ _ _ (@U1 _ _ (7) _ _ _ _ O1.nd rfl (Or.inl rfl) (@J7 _ _ _ _ _ _ _ W9 (@a6L _ _ _ _ _ _ _ (["_law_k","_law_parts_here"]) ([none,some 1]) _ _ _ _ (I9 a0e) ["_law_walk","_law_parts_here","_law_name_here","_law_rows","_law_found","_law_due_here","_law_spot","_law_at","_law_brought","_law_part"] ⟨rfl,by decide +kernel,by decide +kernel,by decide +kernel,rfl,by decide +kernel,by decide +kernel⟩ (@a3G _ _ _ _ _ _ (by rfl) T.n_range (@G0 _ _ _ _ _ (@G9 _ _ _ _) (@G8 _) (by rfl)) (by rfl)) (fun _ _ _ _ _ _=>(@R5 _ _ (0) _ (show(["_law_k","_law_parts_here"]:List Str).Nodup by decide +kernel) rfl (Or.inl rfl) (by first | exact .inl rfl | exact .inr rfl | assumption))) (fun _ _ _ _ _ _=>(@b3k _ _ _ (@U0 _ _ _ _ _ _ _ _ (@D4 _) (@J7 _ _ _ _ _ _ _ (@a0U _ (K) rfl) (@J7 _ _ _ _ _ _ _ (@a0U _ (K) rfl) (@J7 _ _ _ _ _ _ _ (@a0U _ (K) rfl) (@J7 _ _ _ _ _ _ _ (@a5f _ (K) rfl) (@pv _ 1 _ _ (by rfl) (by first | exact Or.inl rfl | exact Or.inr (Or.inl rfl) | exact Or.inr (Or.inr rfl)) (by decide) (by decide)) (@G9 _ _ _ _) (fun _ _=>rfl)) (@G9 _ _ _ _) (fun _ _=>rfl)) (@pv _ 0 _ _ (by rfl) (by first | exact Or.inl rfl | exact Or.inr (Or.inl rfl) | exact Or.inr (Or.inr rfl)) (by decide) (by decide)) (fun _ _=>rfl)) (@G9 _ _ _ _) (fun _ _=>rfl)) (@R4 _ _ _ _) (U8 _)))) (fun _ _ _ _ _ _=>(@pv _ 0 _ _ (by rfl) (by first | exact Or.inl rfl | exact Or.inr (Or.inl rfl) | exact Or.inr (Or.inr rfl)) (by decide) (by decide))) (by rfl) (by rfl) (by rfl) (by intro _;rfl)) (@G9 _ _ _ _) (fun _ _=>rfl)) (by rfl) (by first | exact .inl rfl | exact .inr rfl | assumption)) (@I0 _ _ _ _ _ (@U1 _ _ (8) _ _ _ _ O1.nd rfl (Or.inl rfl) (@J7 _ _ _ _ _ _ _ (@J9 _) (@J7 _ _ _ _ _ _ _ (@J9 _) (@J7 _ _ _ _ _ _ _ (@J9 _) (@J7 _ _ _ _ _ _ _ (@J9 _) (@J7 _ _ _ _ _ _ _ (@J9 _) (@J7 _ _ _ _ _ _ _ W9 (@pv _ 1 _ _ (by rfl) (by first | exact Or.inl rfl | exact Or.inr (Or.inl rfl) | exact Or.inr (Or.inr rfl)) (by decide) (by decide)) (@G9 _ _ _ _) (fun _ _=>rfl)) (@G9 _ _ _ _) (fun _ _=>rfl)) (@G9 _ _ _ _) (fun _ _=>rfl)) (@G9 _ _ _ _) (fun _ _=>rfl)) (@G9 _ _ _ _) (fun _ _=>rfl)) (@G9 _ _ _ _) (fun _ _=>rfl)) (by rfl) (by first | exact .inl rfl | exact .inr rfl | assumption)) (@I0 _ _ _ _ _ (@F7 _ _ _ _ _ _ _ _ AK rfl (@a1O _ _ _ _ (@O4 _ _ _ _ (@G0 _ _ _ _ _ (@J5 _ _ _ _ _ (@G0 _ _ _ _ _ (@J7 _ _ _ _ _ _ _ (@J9 _) (@J7 _ _ _ _ _ _ _ W9 (@pv _ 1 _ _ (by rfl) (by first | exact Or.inl rfl | exact Or.inr (Or.inl rfl) | exact Or.inr (Or.inr rfl)) (by decide) (by decide)) (@G9 _ _ _ _) (fun _ _=>rfl)) (@G9 _ _ _ _) (fun _ _=>rfl)) (@G0 _ _ _ _ _ (@pv _ 8 _ _ (by rfl) (by first | exact Or.inl rfl | exact Or.inr (Or.inl rfl) | exact Or.inr (Or.inr rfl)) (by decide) (by decide)) (@G8 _) (by rfl)) (by rfl))) (@G0 _ _ _ _ _ (@J5 _ _ _ _ _ (@G0 _ _ _ _ _ (@J7 _ _ _ _ _ _ _ (@J9 _) (@J7 _ _ _ _ _ _ _ W9 (@pv _ 1 _ _ (by rfl) (by first | exact Or.inl rfl | exact Or.inr (Or.inl rfl) | exact Or.inr (Or.inr rfl)) (by decide) (by decide)) (@G9 _ _ _ _) (fun _ _=>rfl)) (@G9 _ _ _ _) (fun _ _=>rfl)) (@G0 _ _ _ _ _ (@J7 _ _ _ _ _ _ _ (@J9 _) (@J7 _ _ _ _ _ _ _ (@J9 _) (@J7 _ _ _ _ _ _ _ (@J9 _) (@J7 _ _ _ _ _ _ _ W9 (@pv _ 1 _ _ (by rfl) (by first | exact Or.inl rfl | exact Or.inr (Or.inl rfl) | exact Or.inr (Or.inr rfl)) (by decide) (by decide)) (@G9 _ _ _ _) (fun _ _=>rfl)) (@G9 _ _ _ _) (fun _ _=>rfl)) (@pv _ 7 _ _ (by rfl) (by first | exact Or.inl rfl | exact Or.inr (Or.inl rfl) | exact Or.inr (Or.inr rfl)) (by decide) (by decide)) (fun _ _=>rfl)) (@G9 _ _ _ _) (fun _ _=>rfl)) (@G8 _) (by rfl)) (by rfl))) (@G8 _) (by rfl)) (by rfl)))) (@M2 _ _ _ _ _ _ rfl (@R7 _ _ _ _ _ (@R5 _ _ (9) _ O1.nd rfl (Or.inl rfl) (by first | exact .inl rfl | exact .inr rfl | assumption)) (@R7 _ _ _ _ _ (@R5 _ _ (2) _ O1.nd rfl (Or.inr rfl) (by first | exact .inl rfl | exact .inr rfl | assumption)) (@F3 _) (by rfl)) (by rfl)) (by rfl) (by rfl)) (@I0 _ _ _ _ _ (@U1 _ _ (4) _ _ _ _ O1.nd rfl (Or.inl rfl) (@D0 _ _ _ _ _ _ _ _ _ _ _ _ _ _ _ C_key_of T.c_PartsWalk hr (@pv _ 0 _ _ (by rfl) (by first | exact Or.inl rfl | exact Or.inr (Or.inl rfl) | exact Or.inr (Or.inr rfl)) (by decide) (by decide)) (@G0 _ _ _ _ _ (@pv _ 9 _ _ (by rfl) (by first | exact Or.inl rfl | exact Or.inr (Or.inl rfl) | exact Or.inr (Or.inr rfl)) (by decide) (by decide)) (@G0 _ _ _ _ _ (@pv _ 2 _ _ (by rfl) (by first | exact Or.inl rfl | exact Or.inr (Or.inl rfl) | exact Or.inr (Or.inr rfl)) (by decide) (by decide)) (@G8 _) (by rfl)) (by rfl)) (by decide) (by rfl) (by rfl) (by rfl)) (by rfl) (by first | exact .inl rfl | exact .inr rfl | assumption)) (@J1 _ _ _ (@W1 _ _ _ _ _ _ _ _ (PW.pt (@a0Q _ _ _ _ _ _ _ (@a0f _ _ _ _ (@D9 _ _ _ (@Y1 _ _ _ _ _ _ _ _ _ (@E3 _) (by rfl) T.n_isinstance PyProof.Rows.boot_isinstance (@G0 _ _ _ _ _ (@pv _ 4 _ _ (by rfl) (by first | exact Or.inl rfl | exact Or.inr (Or.inl rfl) | exact Or.inr (Or.inr rfl)) (by decide) (by decide)) (@G0 _ _ _ _ _ (@a0E _ _ (.ty "tuple") _ _ (by rfl) T.n_tuple boot_tuple rfl (by decide) (by decide)) (@G8 _) (by rfl)) (by rfl)) (by decide) (by decide) (by rfl) (by rfl)) (by intro _;rfl))) (@a0Q _ _ _ _ _ _ _ (@U0 _ _ _ _ _ _ _ _ (@a0h _ hu0) (@pv _ 4 _ _ (by rfl) (by first | exact Or.inl rfl | exact Or.inr (Or.inl rfl) | exact Or.inr (Or.inr rfl)) (by decide) (by decide)) (@J5 _ _ _ _ _ (@G0 _ _ _ _ _ (@J7 _ _ _ _ _ _ _ (@J9 _) (@J7 _ _ _ _ _ _ _ W9 (@pv _ 1 _ _ (by rfl) (by first | exact Or.inl rfl | exact Or.inr (Or.inl rfl) | exact Or.inr (Or.inr rfl)) (by decide) (by decide)) (@G9 _ _ _ _) (fun _ _=>rfl)) (@G9 _ _ _ _) (fun _ _=>rfl)) (@G0 _ _ _ _ _ (@pv _ 7 _ _ (by rfl) (by first | exact Or.inl rfl | exact Or.inr (Or.inl rfl) | exact Or.inr (Or.inr rfl)) (by decide) (by decide)) (@G8 _) (by rfl)) (by rfl))) (U8 _)) (@a1k _ _ _ _ (@a0f _ _ _ _ (@D9 _ _ _ (@W2 _ _ _ _ _ _ _ _ _ _ _ C_law_whole hr (by rfl) (@G0 _ _ _ _ _ (@J7 _ _ _ _ _ _ _ (@J9 _) (@pv _ 4 _ _ (by rfl) (by first | exact Or.inl rfl | exact Or.inr (Or.inl rfl) | exact Or.inr (Or.inr rfl)) (by decide) (by decide)) (@G9 _ _ _ _) (fun _ _=>rfl)) (@G8 _) (by rfl)) (by decide) (by decide) (by rfl) (by rfl)) (by intro _;rfl))))))) (@J1 _ _ _ (@R3 _ _ _ _ (@a0P _ _ _ _))) (@R8 _)))) (by intro _;rfl)) (@J1 _ _ _ (@R3 _ _ _ _ (@Y1 _ _ _ _ _ _ _ _ _ (@a6t _) (by rfl) T.n_isinstance PyProof.Rows.boot_isinstance (@G0 _ _ _ _ _ (@pv _ 0 _ _ (by rfl) (by first | exact Or.inl rfl | exact Or.inr (Or.inl rfl) | exact Or.inr (Or.inr rfl)) (by decide) (by decide)) (@G0 _ _ _ _ _ (@b3d _ _ (.ref CW) _ _ (by rfl) T.g_Walk rfl (by decide)) (@G8 _) (by rfl)) (by rfl)) (by decide) (by decide) (by rfl) (by rfl)))))))),?_⟩
  refine⟨_,rfl,x,rfl,⟨_,SqL.of hx⟩,a2v (K:=K) (a:=x) (xs:=xs) (fun i σ H1=>∃v2 v3 v4 v5 v6:Option V,σ=[some (.ref w),some (.ref x),v2,v3,v4,v5,v6,none,none,none]/\J4 H H1) ⟨_,_,_,_,_,rfl,J4.refl H⟩ (fun i σ H1 _⟨_,_,_,_,_,_,s⟩=>SqL.of (s _ _ hx)) ?_ ?_⟩
  ·rintro i y σ H1 hy ⟨v2,v3,v4,v5,v6,rfl,s1⟩
   obtain⟨⟨nm,rs⟩,hpt,t,u,ws,rfl,k1,k2,k3⟩:=Paired.get? hxs hy
   have hmem:=AX hpt
   have hrl:=hfit.rows _ hmem
   have hwl:ws.length=rs.length:=AF k3
   refine⟨t,_,rfl,SqT.of (s1 _ _ k1),rfl,_,_,rfl,_,_,rfl,rfl,?_⟩
   refine⟨_,rfl,w,dw,_,rfl,s1 _ _ h1,a4H,_,rfl,w,nm,rs,U4 D f,rfl,Z3 hW s1,hmem,(by have:rs.length<=40:=hrl;omega),fun ft vs H2 s2 hft hvs=>?_⟩
   have sH2:=s1.trans s2
   refine⟨_,rfl,u,_,rfl,.inr (SqT.of (sH2 _ _ k2)),_,rfl,(by have:rs.length<=40:=hrl;omega),(by have:rs.length<=40:=hrl;omega),fun L gL=>?_⟩
   refine a2V ws.length (fun j σ H3=>∃(v0:Option V)(zs:List V),σ=[v0,some (.str nm),some (.ref u)]/\J4 H2 H3/\H3 L=some (.lst zs)/\Paired (a3X H3) zs ((W5 nm rs).take j)) ⟨_,[],rfl,(J4.refl H2).new gL,G7,by rw[List.take_zero];exact .nil⟩ ?_ ?_
   ·rintro j σ H3 hj ⟨v0,zs,rfl,s3,hL,hzs⟩
    refine⟨hj,?_⟩
    rintro y H4 ⟨rfl,rfl⟩
    refine ntG ?_
    obtain⟨rw',hrw,r,er,hra⟩:=Paired.get? k3 (AW hj)
    have sH3:=sH2.trans s3
    have hzl:zs.length<=j:=by rw[AF hzs,AR];omega
    refine⟨_,rfl,_,rfl,_,rfl,_,rfl,u,_,_,_,rfl,rfl,SqT.of (sH3 _ _ k2),(by rw[Int.zero_add];exact J6 (j:=j) (AW hj)),a2b,fun t5 g5=>?_⟩
    rw[er]
    obtain⟨H5,e5,s5,h5⟩:∃H5,upd H4 t5 (.tup [.str nm,.int (0+(j:Int)),.ref r])=H5/\J4 H4 H5/\H5 t5=some (.tup [.str nm,.int (j:Int),.ref r]):=⟨_,rfl,(J4.refl H4).new g5,by rw[G7,Int.zero_add]⟩
    rw[e5]
    have hL5:=s5 _ _ hL
    have hj40:j < 40:=by have:rs.length<=40:=hrl;omega
    refine⟨zs,hL5,U5 (by omega),_,zs++[.ref t5],rfl,(s3.trans s5).put gL,G7,?_⟩
    rw[U3 (b0U hrw)]
    have T7:U9 H5 (upd H5 L (.lst (zs++[.ref t5]))):=U9.lst hL5
    exact Paired.snoc (Paired.mapP hzs fun _ _ z=>(z.mono s5.tups).mono T7) ⟨t5,r,rfl,T7 _ _ h5,(hra.mono (sH3.trans s5).tups).mono T7⟩
   rintro σ H3 ⟨v0,zs,rfl,s3,hL,hzs⟩
   rw[List.take_of_length_le (by rw[a2x];omega)]at hzs
   refine⟨(by show(ws.length:Int).toNat<=ws.length;omega),?_⟩
   have hft3:=s3 _ _ hft
   have hvs3:=Paired.mapP hvs fun _ _ z=>z.mono s3.tups
   refine⟨_,rfl,_,_,_,_,rfl,.tup hft3,a0q _ _,_,rfl,O7 ?_⟩
   have hvl:vs.length<=40:=by have:rs.length<=40:=hrl;rw[AF hvs,a2x];omega
   refine⟨_,rfl,ft,_,rfl,.inr (SqT.of hft3),fun l5 g5=>⟨_,rfl,l5,L,_,_,rfl,rfl,SqL.of G7,SqL.of (J2 hL g5),b3G (Paired.mapP hvs3 fun _ _ z=>z.mono (U9.new g5)) (Paired.mapP hzs fun _ _ z=>z.mono (U9.new g5)),_,rfl,O7 ?_⟩⟩
   obtain⟨H4,e4,s4⟩:∃H4,upd H3 l5 (.lst vs)=H4/\J4 H3 H4:=⟨_,rfl,(J4.refl H3).new g5⟩
   rw[e4]
   clear e4
   have hft4:=s4 _ _ hft3
   have hvs4:=Paired.mapP hvs3 fun _ _ z=>z.mono s4.tups
   have sH4:=(sH2.trans s3).trans s4
   refine⟨_,rfl,ft,rfl,⟨_,SqT.of hft4⟩,a0n (K:=K) (a:=ft) (xs:=vs) (fun j σ H5=>H5=H4/\∃v6:Option V,σ=[some (.ref w),some (.ref x),some (.str nm),some (.ref u),some (.ref ft),some (.ref L),v6,none,none,none]) ⟨rfl,_,rfl⟩ (fun j σ H5 _⟨e,_⟩=>by rw[e];exact SqT.of hft4) ?_ ?_⟩
   ·rintro j y σ H5 hy ⟨rfl,v6,rfl⟩
    obtain⟨d,_,t',r,rfl,ht',_⟩:=Paired.get? hvs4 hy
    refine⟨_,rfl,t',_,_,_,rfl,rfl,SqT.of ht',J6 (j:=1) rfl,_,rfl,_,rfl,O7 ?_⟩
    exact⟨rfl,_,rfl⟩
   rintro σ H5 ⟨rfl,v6,rfl⟩
   refine⟨_,rfl,w,dw,_,rfl,sH4 _ _ h1,a2h,_,rfl,w,nm,U4 D f,rfl,Z3 hW sH4,fun t6 H6 s6 ht6=>⟨a1r,fun e6 g6=>⟨t6,e6,[],rfl,rfl,SqT.of (J2 ht6 g6),SqT.of G7,rfl,_,rfl,O7 ?_⟩⟩⟩
   have s57:J4 H5 (upd H6 e6 (.tup [])):=s6.new g6
   generalize upd H6 e6 (.tup [])=H7 at s57⊢
   have sH7:=sH4.trans s57
   refine⟨_,rfl,w,dw,_,rfl,sH7 _ _ h1,a4g,_,rfl,w,nm,U4 D f,rfl,Z3 hW sH7,fun t8 H8 s8 ht8=>⟨a1r,fun e8 g8=>⟨t8,e8,[],rfl,rfl,SqT.of (J2 ht8 g8),SqT.of G7,rfl,_,rfl,O7 ?_⟩⟩⟩
   exact⟨_,_,_,_,_,rfl,(sH7.trans s8).new g8⟩
  rintro σ H1 ⟨v2,v3,v4,v5,v6,rfl,s1⟩
  obtain⟨p0,o0,r0,p1,o1,r1,us,hx',a1,a2,a3,b1,b2,b3,c3,c4⟩:=(P6.of hP).ex
  obtain⟨hkd,rt,hrt,hrt'⟩:=a9X b3
  have hat:at6 D < 3:=by unfold at6;split<;>decide
  refine⟨_,rfl,(by omega),(by omega),fun L gL=>?_⟩
  refine a2V 3 (fun i σ H2=>∃(v0:Option V),σ=[v0,some (.ref x)]/\J4 H1 H2/\H2 L=some (.lst (if at6 D < i then [.int (at6 D:Int)]else []))) ⟨_,rfl,(J4.refl H1).new gL,by rw[G7,if_neg (by omega)]⟩ ?_ ?_
  ·rintro i σ H2 hi ⟨v0,rfl,s2,hL⟩
   refine⟨hi,?_⟩
   rintro y H3 ⟨rfl,rfl⟩
   obtain⟨r,ws,kd,hr0,hrr,hk⟩:=hkd i hi
   have sH3:=s1.trans s2
   refine⟨_,rfl,x,_,_,_,rfl,rfl,SqL.of (sH3 _ _ hx'),J6 (j:=1) rfl,p1,_,_,_,rfl,rfl,SqT.of (sH3 _ _ b1),J6 (j:=1) rfl,_,rfl,o1,_,_,_,rfl,rfl,SqT.of (sH3 _ _ b2),(by rw[Int.zero_add];exact J6 (j:=i) hr0),r,_,_,_,rfl,rfl,SqT.of (sH3 _ _ hrr),J6 (j:=0) rfl,rfl,_,rfl,?_⟩
   by_cases e:i=at6 D
   ·rw[hk.mpr e]
    refine a1a ?_
    rw[if_neg (by omega)]at hL
    refine⟨_,rfl,[],hL,U5 (by show 0<=1000;decide),_,rfl,s2.put gL,?_⟩
    rw[G7,if_pos (by omega),Int.zero_add,e]
    rfl
   ·refine Z6 (fun z=>e (hk.mp z)) ?_
    refine⟨_,rfl,s2,?_⟩
    rw[hL]
    by_cases h:at6 D < i
    ·rw[if_pos h,if_pos (by omega)]
    ·rw[if_neg h,if_neg (by omega)]
  rintro σ H2 ⟨v0,rfl,s2,hL⟩
  rw[if_pos hat]at hL
  refine⟨(by show(3:Int).toNat<=3;decide),?_⟩
  refine⟨L,_,_,_,rfl,rfl,SqL.of hL,J6 (j:=0) rfl,?_⟩
  have sH2:=s1.trans s2
  obtain⟨rb,tb,tb1,hb0,hb1,hb2,hb3⟩:∃rb tb tb1,r0[0]?=some (.ref rb)/\H rb=some (.tup [.str "bring",.str D.n1,.ref tb])/\H tb=some (.tup [.ref tb1])/\H tb1=some (.tup [.str D.given,.str D.own]):=by
   unfold a0s at a3
   cases a3 with
   | cons z _=>
   obtain⟨rb,rfl,tb,m1,m2⟩:=z
   obtain⟨vs,m3,m4⟩:=m2.ex
   cases m4 with
   | cons y m5=>
   cases m5
   obtain⟨tb1,rfl,m6,_⟩:=y
   exact⟨rb,tb,tb1,rfl,m1,m3,m6⟩
  refine⟨_,rfl,x,_,_,_,rfl,rfl,SqL.of (sH2 _ _ hx'),J6 (j:=0) rfl,p0,_,_,_,rfl,rfl,SqT.of (sH2 _ _ a1),J6 (j:=1) rfl,o0,_,_,_,rfl,rfl,SqT.of (sH2 _ _ a2),J6 (j:=0) hb0,rb,_,_,_,rfl,rfl,SqT.of (sH2 _ _ hb1),J6 (j:=2) rfl,tb,_,_,_,rfl,rfl,SqT.of (sH2 _ _ hb2),J6 (j:=0) rfl,tb1,_,_,_,rfl,rfl,SqT.of (sH2 _ _ hb3),J6 (j:=1) rfl,?_⟩
  refine⟨_,rfl,x,_,_,_,rfl,rfl,SqL.of (sH2 _ _ hx'),J6 (j:=0) rfl,p0,_,_,_,rfl,rfl,SqT.of (sH2 _ _ a1),J6 (j:=0) rfl,_,rfl,E1,fun q1 g1=>?_⟩
  obtain⟨H3,e3,s3,m1⟩:∃H3,upd H2 q1 (.tup [.str D.n0,.str D.own])=H3/\J4 H2 H3/\H3 q1=some (.tup [.str D.n0,.str D.own]):=⟨_,rfl,(J4.refl H2).new g1,G7⟩
  rw[e3]
  have sH3:=sH2.trans s3
  refine⟨_,rfl,x,_,_,_,rfl,rfl,SqL.of (sH3 _ _ hx'),J6 (j:=1) rfl,p1,_,_,_,rfl,rfl,SqT.of (sH3 _ _ b1),J6 (j:=0) rfl,_,rfl,x,_,_,_,rfl,rfl,SqL.of (sH3 _ _ hx'),J6 (j:=1) rfl,p1,_,_,_,rfl,rfl,SqT.of (sH3 _ _ b1),J6 (j:=1) rfl,_,rfl,o1,_,_,_,rfl,rfl,SqT.of (sH3 _ _ b2),J6 (j:=at6 D) hrt,rt,_,_,_,rfl,rfl,SqT.of (sH3 _ _ hrt'),J6 (j:=1) rfl,E1,fun q2 g2=>⟨E1,fun ql g3=>?_⟩⟩
  obtain⟨H4,e4,s4,m2,m3⟩:∃H4,upd (upd H3 q2 (.tup [.str D.n1,.str D.there])) ql (.lst [.ref q1,.ref q2])=H4/\J4 H3 H4/\H4 q2=some (.tup [.str D.n1,.str D.there])/\H4 ql=some (.lst [.ref q1,.ref q2]):=⟨_,rfl,((J4.refl H3).new g2).new g3,J2 G7 g3,G7⟩
  rw[e4]
  clear e3 e4
  have m1:=s4 _ _ m1
  have sH4:=sH3.trans s4
  refine⟨ql,rfl,⟨_,SqL.of m3⟩,a2v (K:=K) (a:=ql) (xs:=[.ref q1,.ref q2]) (fun i σ H5=>∃v2 v4 v9:Option V,σ=[some (.ref w),some (.ref x),v2,v3,v4,v5,v6,some (.int (at6 D:Int)),some (.str D.own),v9]/\J4 H4 H5) ⟨_,_,_,rfl,J4.refl H4⟩ (fun i σ H5 _⟨_,_,_,_,s⟩=>SqL.of (s _ _ m3)) ?_ ?_⟩
  ·rintro i y σ H5 hy ⟨v2,v4,v9,rfl,s5⟩
   have sH5:=sH4.trans s5
   obtain⟨pp,xx,tq,rfl,htq,hkm⟩:∃pp xx tq,y= .ref tq/\H5 tq=some (.tup [.str pp,.str xx])/\(U4 D f).km (pp,xx)=some (D.n1,at6 D):=by
    match i,hy with
    | 0,hy=>cases hy;exact⟨_,_,q1,rfl,s5 _ _ m1,a4z D f⟩
    | 1,hy=>cases hy;exact⟨_,_,q2,rfl,s5 _ _ m2,a5p D f⟩
    | i+2,hy=>simp at hy
   refine⟨tq,_,rfl,SqT.of htq,rfl,_,_,rfl,_,_,rfl,rfl,?_⟩
   refine⟨_,rfl,w,dw,_,rfl,sH5 _ _ h1,a0Y,_,rfl,_,rfl,w,pp,xx,U4 D f,(D.n1,at6 D),rfl,Z3 hW sH5,hkm,fun tk H6 s6 htk=>?_⟩
   have sH6:=sH5.trans s6
   refine⟨_,rfl,_,_,_,_,rfl,.tup htk,a0q _ _,_,rfl,O7 ?_⟩
   refine⟨_,rfl,_,rfl,x,_,_,_,rfl,rfl,SqL.of (sH6 _ _ hx'),J6 (j:=1) rfl,p1,_,_,_,rfl,rfl,SqT.of (sH6 _ _ b1),J6 (j:=0) rfl,_,rfl,E1,fun t7 g7=>⟨tk,t7,_,rfl,rfl,SqT.of (J2 htk g7),SqT.of G7,rfl,_,rfl,O7 ?_⟩⟩
   refine⟨_,rfl,tk,_,_,_,rfl,rfl,SqT.of (J2 htk g7),J6 (j:=1) rfl,_,rfl,_,rfl,O7 ?_⟩
   exact⟨_,_,_,rfl,(s5.trans s6).new g7⟩
  rintro σ H5 ⟨v2,v4,v9,rfl,s5⟩
  have sH5:=sH4.trans s5
  exact⟨_,rfl,w,CP,dw,_,CW,_,rfl,sH5 _ _ h1,T.oc_PartsWalk,T.is_Walk,q _ sH5⟩
noncomputable def b4p:Sp:=fun vs H Q _=>∃(x n:Addr)(ps:List Pt)(ns:List Int),vs=[.ref x,.ref n]/\PsL H x ps/\H n=some (.lst (ns.map V.int))/\ns.length<=2/\∀H',J4 H H'->Q (.bl true) H'
theorem b3e(T:Tw K mg CP CG CW):L2.Cl P w K mg base 9 "_law_bare" ["_law_parts_here","_law_numbers"] b4p:=by
 have C_rows_of:=a4d (P:=P) (w:=w) (base:=base) T
 have C_loads_of:=a2T (P:=P) (w:=w) (base:=base) T
 have C_ahead_of:=a2Y (P:=P) (w:=w) (base:=base) T
 have C_key_of:=a8b (P:=P) (w:=w) (base:=base) T
 have C_go:=b3y (P:=P) (w:=w) (base:=base) T
 refine Cl.of T.d_law_bare a1s (fun vs H Q E h=>?_) (fun _ _ _ _ _ _ us hl=>len2 us hl (fun _ _=>rfl)) (fun fa cdv A outer s H vs Q E hr h=>?_)
 ·obtain⟨x,n,ps,ns,rfl,_⟩:=h
  rfl
 ·obtain⟨x,n,ps,ns,rfl,hP,hn,hnl,q⟩:=h
  have hu0:=Nat.lt_of_succ_lt (a0O hr)
  have hu4:=Nat.lt_of_le_of_lt (Nat.add_le_add_left (by decide:1+1<=64) _) hr.units
  obtain⟨xs,hx,hxs⟩:=id hP
  refine⟨_,(@I0 _ _ _ _ _ (@U1 _ _ (2) _ _ _ _ a1s.nd rfl (Or.inl rfl) (@b4r _ _ _ _ _ T.mk_Walk (by rfl) T.g_Walk (by decide)) (by rfl) (by first | exact .inl rfl | exact .inr rfl | assumption)) (@I0 _ _ _ _ _ (@F7 _ _ _ _ _ _ _ _ AK rfl (@a1O _ _ _ _ (@pv _ 0 _ _ (by rfl) (by first | exact Or.inl rfl | exact Or.inr (Or.inl rfl) | exact Or.inr (Or.inr rfl)) (by decide) (by decide))) (@M2 _ _ _ _ _ _ rfl (@R7 _ _ _ _ _ (@R5 _ _ (3) _ a1s.nd rfl (Or.inl rfl) (by first | exact .inl rfl | exact .inr rfl | assumption)) (@R7 _ _ _ _ _ (@R5 _ _ (4) _ a1s.nd rfl (Or.inl rfl) (by first | exact .inl rfl | exact .inr rfl | assumption)) (@F3 _) (by rfl)) (by rfl)) (by rfl) (by rfl)) (@I0 _ _ _ _ _ (@W1 _ _ _ _ _ _ _ _ (PW.pt (@a0Q _ _ _ _ _ _ _ (@U0 _ _ _ _ _ _ _ _ (@a0h _ hu0) (@D0 _ _ _ _ _ _ _ _ _ _ _ _ _ _ _ C_rows_of T.c_Walk hr (@pv _ 2 _ _ (by rfl) (by first | exact Or.inl rfl | exact Or.inr (Or.inl rfl) | exact Or.inr (Or.inr rfl)) (by decide) (by decide)) (@G0 _ _ _ _ _ (@pv _ 3 _ _ (by rfl) (by first | exact Or.inl rfl | exact Or.inr (Or.inl rfl) | exact Or.inr (Or.inr rfl)) (by decide) (by decide)) (@G8 _) (by rfl)) (by decide) (by rfl) (by rfl) (by rfl)) (@J5 _ _ _ _ _ (@G8 _)) (U8 _)) (@a1k _ _ _ _ (@U0 _ _ _ _ _ _ _ _ (@b1q _) (@D0 _ _ _ _ _ _ _ _ _ _ _ _ _ _ _ C_key_of T.c_Walk hr (@pv _ 2 _ _ (by rfl) (by first | exact Or.inl rfl | exact Or.inr (Or.inl rfl) | exact Or.inr (Or.inr rfl)) (by decide) (by decide)) (@G0 _ _ _ _ _ (@pv _ 3 _ _ (by rfl) (by first | exact Or.inl rfl | exact Or.inr (Or.inl rfl) | exact Or.inr (Or.inr rfl)) (by decide) (by decide)) (@G0 _ _ _ _ _ (@R4 _ _ _ _) (@G8 _) (by rfl)) (by rfl)) (by decide) (by rfl) (by rfl) (by rfl)) (@R4 _ _ _ _) (U8 _))))) (@J1 _ _ _ (@R3 _ _ _ _ (@a0P _ _ _ _))) (@R8 _)) (@J1 _ _ _ (@W1 _ _ _ _ _ _ _ _ (PW.pt (@a0Q _ _ _ _ _ _ _ (@U0 _ _ _ _ _ _ _ _ (@a0h _ hu0) (@D0 _ _ _ _ _ _ _ _ _ _ _ _ _ _ _ C_loads_of T.c_Walk hr (@pv _ 2 _ _ (by rfl) (by first | exact Or.inl rfl | exact Or.inr (Or.inl rfl) | exact Or.inr (Or.inr rfl)) (by decide) (by decide)) (@G0 _ _ _ _ _ (@pv _ 3 _ _ (by rfl) (by first | exact Or.inl rfl | exact Or.inr (Or.inl rfl) | exact Or.inr (Or.inr rfl)) (by decide) (by decide)) (@G8 _) (by rfl)) (by decide) (by rfl) (by rfl) (by rfl)) (@J5 _ _ _ _ _ (@G8 _)) (U8 _)) (@a0Q _ _ _ _ _ _ _ (@U0 _ _ _ _ _ _ _ _ (@a0h _ hu0) (@D0 _ _ _ _ _ _ _ _ _ _ _ _ _ _ _ C_ahead_of T.c_Walk hr (@pv _ 2 _ _ (by rfl) (by first | exact Or.inl rfl | exact Or.inr (Or.inl rfl) | exact Or.inr (Or.inr rfl)) (by decide) (by decide)) (@G0 _ _ _ _ _ (@pv _ 3 _ _ (by rfl) (by first | exact Or.inl rfl | exact Or.inr (Or.inl rfl) | exact Or.inr (Or.inr rfl)) (by decide) (by decide)) (@G8 _) (by rfl)) (by decide) (by rfl) (by rfl) (by rfl)) (@J5 _ _ _ _ _ (@G8 _)) (U8 _)) (@a1k _ _ _ _ (@U0 _ _ _ _ _ _ _ _ (@b3W _ 1 hu4) (@D0 _ _ _ _ _ _ _ _ _ _ _ _ _ _ _ C_go T.c_Walk hr (@pv _ 2 _ _ (by rfl) (by first | exact Or.inl rfl | exact Or.inr (Or.inl rfl) | exact Or.inr (Or.inr rfl)) (by decide) (by decide)) (@G0 _ _ _ _ _ (@pv _ 3 _ _ (by rfl) (by first | exact Or.inl rfl | exact Or.inr (Or.inl rfl) | exact Or.inr (Or.inr rfl)) (by decide) (by decide)) (@G0 _ _ _ _ _ (@W8 _ _ _ _ _ _ _ _ _ (@U7 _) (by rfl) T.n_tuple boot_tuple (@G0 _ _ _ _ _ (@pv _ 1 _ _ (by rfl) (by first | exact Or.inl rfl | exact Or.inr (Or.inl rfl) | exact Or.inr (Or.inr rfl)) (by decide) (by decide)) (@G8 _) (by rfl)) (by decide) (by decide) (by rfl) (by rfl)) (@G8 _) (by rfl)) (by rfl)) (by decide) (by rfl) (by rfl) (by rfl)) (@J5 _ _ _ _ _ (@G0 _ _ _ _ _ (@J5 _ _ _ _ _ (@G8 _)) (@G0 _ _ _ _ _ (@a1q _ _ _) (@G8 _) (by rfl)) (by rfl))) (U8 _)))))) (@J1 _ _ _ (@R3 _ _ _ _ (@a0P _ _ _ _))) (@R8 _)))) (by intro _;rfl)) (@J1 _ _ _ (@R3 _ _ _ _ (@a0P _ _ _ _))))),?_⟩
  intro w dx nw ndx ne
  have sA:J4 H (upd (upd H dx (.own w)) w (.ins CW dx [])):=fun b o e=>by
   rw[J0 (J3 e nw),J0 (J3 e ndx)]
   exact e
  have hw:upd (upd H dx (.own w)) w (.ins CW dx []) w=some (.ins CW dx []):=G7
  generalize upd (upd H dx (.own w)) w (.ins CW dx [])=HA at sA hw⊢
  refine⟨_,rfl,x,rfl,⟨_,SqL.of (sA _ _ hx)⟩,a2v (K:=K) (a:=x) (xs:=xs) (fun i σ H1=>∃v3 v4:Option V,σ=[some (.ref x),some (.ref n),some (.ref w),v3,v4]/\J4 HA H1) ⟨_,_,rfl,J4.refl HA⟩ (fun i σ H1 _⟨_,_,_,s⟩=>SqL.of (s _ _ (sA _ _ hx))) ?_ ?_⟩
  ·rintro i y σ H1 hy ⟨v3,v4,rfl,s1⟩
   obtain⟨⟨nm,rs⟩,hpt,t,u,ws,rfl,k1,k2,k3⟩:=Paired.get? hxs hy
   have sH1:=sA.trans s1
   refine⟨t,_,rfl,SqT.of (sH1 _ _ k1),rfl,_,_,rfl,_,_,rfl,rfl,?_⟩
   have hw1:=s1 _ _ hw
   refine⟨_,rfl,w,dx,_,rfl,hw1,rfl,_,rfl,w,nm,rfl,fun t2 H2 s2 ht2=>⟨a1r,fun e2 g2=>⟨t2,e2,[],rfl,rfl,SqT.of (J2 ht2 g2),SqT.of G7,rfl,_,rfl,O7 ?_⟩⟩⟩
   have s13:J4 H1 (upd H2 e2 (.tup [])):=s2.new g2
   generalize upd H2 e2 (.tup [])=H3 at s13⊢
   have hw3:=s13 _ _ hw1
   refine⟨_,rfl,w,dx,_,rfl,hw3,rfl,_,rfl,w,nm,"x",rfl,rfl,_,rfl,a8O rfl ?_⟩
   refine⟨_,rfl,w,dx,_,rfl,hw3,rfl,_,rfl,w,nm,rfl,fun t4 H4 s4 ht4=>⟨a1r,fun e4 g4=>⟨t4,e4,[],rfl,rfl,SqT.of (J2 ht4 g4),SqT.of G7,rfl,_,rfl,O7 ?_⟩⟩⟩
   have s35:J4 H3 (upd H4 e4 (.tup [])):=s4.new g4
   generalize upd H4 e4 (.tup [])=H5 at s35⊢
   have hw5:=s35 _ _ hw3
   refine⟨_,rfl,w,dx,_,rfl,hw5,rfl,_,rfl,w,nm,rfl,fun t6 H6 s6 ht6=>⟨a1r,fun e6 g6=>⟨t6,e6,[],rfl,rfl,SqT.of (J2 ht6 g6),SqT.of G7,rfl,_,rfl,O7 ?_⟩⟩⟩
   have s57:J4 H5 (upd H6 e6 (.tup [])):=s6.new g6
   generalize upd H6 e6 (.tup [])=H7 at s57⊢
   have s17:=(s13.trans s35).trans s57
   have hw7:=s57 _ _ hw5
   refine⟨_,rfl,w,dx,_,rfl,hw7,rfl,_,rfl,_,rfl,n,_,rfl,.inl ⟨SqL.of ((sH1.trans s17) _ _ hn),fun nt gn=>?_⟩⟩
   refine⟨w,nt,dx,nm,rfl,J2 hw7 gn,fun p8 t8 H8 s8 hp8 ht8=>?_⟩
   refine⟨a1r,fun e9 g9=>⟨E1,fun e10 g10=>?_⟩⟩
   refine⟨p8,e10,_,_,rfl,rfl,SqT.of (J2 (J2 hp8 g9) g10),SqT.of G7,.cons (.inr ⟨t8,e9,[],[],rfl,rfl,SqT.of (J2 (J2 ht8 g9) g10),SqT.of (J2 G7 g10),.nil⟩) (.cons (.inl ⟨rfl,rfl⟩) .nil),_,rfl,O7 ?_⟩
   have s711:J4 H7 (upd (upd H8 e9 (.tup [])) e10 (.tup [.ref e9,.non])):=(((((J4.refl H7).new gn).trans s8).new g9).new g10)
   exact⟨_,_,rfl,(s1.trans s17).trans s711⟩
  rintro σ H1 ⟨v3,v4,rfl,s1⟩
  exact q _ (sA.trans s1)
theorem b4k{f:Addr}{fd:FuncData}(F:Fun K "law" "law" a5W f fd)(T:Tw K mg CP CG CW):a2B P w K mg base CX0 12 f fd ["_law_script"] (a8N K):=by
 have C_law_parts:=b0n (P:=P) (w:=w) (base:=base) T.toTxt
 have C_law_number:=a9v (P:=P) (w:=w) (base:=base) T.toTxt
 have C_law_cell_at:=a9h (P:=P) (w:=w) (base:=base) T.toTxt
 have C_law_gone:=b2m (P:=P) (w:=w) (base:=base) T.toTc
 have C_law_told:=b1p (P:=P) (w:=w) (base:=base) T
 have C_law_bare:=b3e (P:=P) (w:=w) (base:=base) T
 have C_PartsWalk:=b0e (P:=P) (w:=w) (base:=base) T.toTc
 refine F.ok a2e (fun vs H Q E h=>?_) (fun cdv A0 outer s H vs Q E hr h=>?_)
 ·obtain⟨a,ns,rfl,_⟩:=h
  rfl
 ·obtain⟨a,ns,rfl,hS,hlen,q⟩:=h
  refine⟨_,(@I0 _ _ _ _ _ (@U1 _ _ (1) _ _ _ _ a2e.nd rfl (Or.inl rfl) (@W2 _ _ _ _ _ _ _ _ _ _ _ C_law_parts hr (by rfl) (@G0 _ _ _ _ _ (@pv _ 0 _ _ (by rfl) (by first | exact Or.inl rfl | exact Or.inr (Or.inl rfl) | exact Or.inr (Or.inr rfl)) (by decide) (by decide)) (@G8 _) (by rfl)) (by decide) (by decide) (by rfl) (by rfl)) (by rfl) (by first | exact .inl rfl | exact .inr rfl | assumption)) (@I0 _ _ _ _ _ (@U1 _ _ (2) _ _ _ _ a2e.nd rfl (Or.inl rfl) (@O4 _ _ _ _ (@G0 _ _ _ _ _ (@J5 _ _ _ _ _ (@G0 _ _ _ _ _ (@J7 _ _ _ _ _ _ _ (@J9 _) (@J7 _ _ _ _ _ _ _ W9 (@pv _ 1 _ _ (by rfl) (by first | exact Or.inl rfl | exact Or.inr (Or.inl rfl) | exact Or.inr (Or.inr rfl)) (by decide) (by decide)) (@G9 _ _ _ _) (fun _ _=>rfl)) (@G9 _ _ _ _) (fun _ _=>rfl)) (@G0 _ _ _ _ _ (@U6 _ _ _ _ _ _ _ _ (@B1 _) (@a2s _ _ _ _ _ _ _ _ _ _ (@b1U _) (@J7 _ _ _ _ _ _ _ (@J9 _) (@J7 _ _ _ _ _ _ _ W9 (@pv _ 1 _ _ (by rfl) (by first | exact Or.inl rfl | exact Or.inr (Or.inl rfl) | exact Or.inr (Or.inr rfl)) (by decide) (by decide)) (@G9 _ _ _ _) (fun _ _=>rfl)) (@G9 _ _ _ _) (fun _ _=>rfl)) (@a4o _) (@a2y _ _ _ (@G9 _ _ _ _))) (@a2s _ _ _ _ _ _ _ _ _ _ (@b1U _) (@J7 _ _ _ _ _ _ _ (@J9 _) (@J7 _ _ _ _ _ _ _ W9 (@pv _ 1 _ _ (by rfl) (by first | exact Or.inl rfl | exact Or.inr (Or.inl rfl) | exact Or.inr (Or.inr rfl)) (by decide) (by decide)) (@G9 _ _ _ _) (fun _ _=>rfl)) (@G9 _ _ _ _) (fun _ _=>rfl)) (@a2y _ _ _ (@G9 _ _ _ _)) (@a4o _))) (@G8 _) (by rfl)) (by rfl))) (@G0 _ _ _ _ _ (@J7 _ _ _ _ _ _ _ W9 (@pv _ 1 _ _ (by rfl) (by first | exact Or.inl rfl | exact Or.inr (Or.inl rfl) | exact Or.inr (Or.inr rfl)) (by decide) (by decide)) (@G9 _ _ _ _) (fun _ _=>rfl)) (@G8 _) (by rfl)) (by rfl))) (by rfl) (by first | exact .inl rfl | exact .inr rfl | assumption)) (@I0 _ _ _ _ _ (@U1 _ _ (3) _ _ _ _ a2e.nd rfl (Or.inl rfl) (@O4 _ _ _ _ (@G0 _ _ _ _ _ (@W2 _ _ _ _ _ _ _ _ _ _ _ C_law_number hr (by rfl) (@G0 _ _ _ _ _ (@W2 _ _ _ _ _ _ _ _ _ _ _ C_law_cell_at hr (by rfl) (@G0 _ _ _ _ _ (@pv _ 0 _ _ (by rfl) (by first | exact Or.inl rfl | exact Or.inr (Or.inl rfl) | exact Or.inr (Or.inr rfl)) (by decide) (by decide)) (@G0 _ _ _ _ _ (@G9 _ _ _ _) (@G8 _) (by rfl)) (by rfl)) (by decide) (by decide) (by rfl) (by rfl)) (@G8 _) (by rfl)) (by decide) (by decide) (by rfl) (by rfl)) (@G0 _ _ _ _ _ (@W2 _ _ _ _ _ _ _ _ _ _ _ C_law_number hr (by rfl) (@G0 _ _ _ _ _ (@W2 _ _ _ _ _ _ _ _ _ _ _ C_law_cell_at hr (by rfl) (@G0 _ _ _ _ _ (@pv _ 0 _ _ (by rfl) (by first | exact Or.inl rfl | exact Or.inr (Or.inl rfl) | exact Or.inr (Or.inr rfl)) (by decide) (by decide)) (@G0 _ _ _ _ _ (@G9 _ _ _ _) (@G8 _) (by rfl)) (by rfl)) (by decide) (by decide) (by rfl) (by rfl)) (@G8 _) (by rfl)) (by decide) (by decide) (by rfl) (by rfl)) (@G8 _) (by rfl)) (by rfl))) (by rfl) (by first | exact .inl rfl | exact .inr rfl | assumption)) (@I0 _ _ _ _ _ (@U1 _ _ (4) _ _ _ _ a2e.nd rfl (Or.inl rfl) (@a9b _ _ _ _ _ _ _ _ _ _ _ _ C_PartsWalk hr (by rfl) (@G0 _ _ _ _ _ (@W8 _ _ _ _ _ _ _ _ _ (@a2g _) (by rfl) T.n_tuple boot_tuple (@G0 _ _ _ _ _ (@pv _ 1 _ _ (by rfl) (by first | exact Or.inl rfl | exact Or.inr (Or.inl rfl) | exact Or.inr (Or.inr rfl)) (by decide) (by decide)) (@G8 _) (by rfl)) (by decide) (by decide) (by rfl) (by rfl)) (@G8 _) (by rfl)) (by decide) (by decide) (by rfl) (by rfl)) (by rfl) (by first | exact .inl rfl | exact .inr rfl | assumption)) (@I0 _ _ _ _ _ (@U1 _ _ (5) _ _ _ _ a2e.nd rfl (Or.inl rfl) (@a9b _ _ _ _ _ _ _ _ _ _ _ _ C_PartsWalk hr (by rfl) (@G0 _ _ _ _ _ (@W8 _ _ _ _ _ _ _ _ _ (@a2g _) (by rfl) T.n_tuple boot_tuple (@G0 _ _ _ _ _ (@pv _ 2 _ _ (by rfl) (by first | exact Or.inl rfl | exact Or.inr (Or.inl rfl) | exact Or.inr (Or.inr rfl)) (by decide) (by decide)) (@G8 _) (by rfl)) (by decide) (by decide) (by rfl) (by rfl)) (@G8 _) (by rfl)) (by decide) (by decide) (by rfl) (by rfl)) (by rfl) (by first | exact .inl rfl | exact .inr rfl | assumption)) (@I0 _ _ _ _ _ (@U1 _ _ (6) _ _ _ _ a2e.nd rfl (Or.inl rfl) (@U6 _ _ _ _ _ _ _ _ (@a0M _) (@U6 _ _ _ _ _ _ _ _ (@a0X _) (@W2 _ _ _ _ _ _ _ _ _ _ _ C_law_cell_at hr (by rfl) (@G0 _ _ _ _ _ (@pv _ 0 _ _ (by rfl) (by first | exact Or.inl rfl | exact Or.inr (Or.inl rfl) | exact Or.inr (Or.inr rfl)) (by decide) (by decide)) (@G0 _ _ _ _ _ (@G9 _ _ _ _) (@G8 _) (by rfl)) (by rfl)) (by decide) (by decide) (by rfl) (by rfl)) (@G9 _ _ _ _)) (@G9 _ _ _ _)) (by rfl) (by first | exact .inl rfl | exact .inr rfl | assumption)) (@I0 _ _ _ _ _ (@F7 _ _ _ _ _ _ _ _ AK rfl (@a1O _ _ _ _ (@O4 _ _ _ _ (@G0 _ _ _ _ _ (@pv _ 3 _ _ (by rfl) (by first | exact Or.inl rfl | exact Or.inr (Or.inl rfl) | exact Or.inr (Or.inr rfl)) (by decide) (by decide)) (@G0 _ _ _ _ _ (@O4 _ _ _ _ (@G8 _)) (@G0 _ _ _ _ _ (@b0Y _ _ _ _ _ _ _ rfl (@pv _ 3 _ _ (by rfl) (by first | exact Or.inl rfl | exact Or.inr (Or.inl rfl) | exact Or.inr (Or.inr rfl)) (by decide) (by decide)) (by rfl) T.n_list (by rfl) T.n_reversed (by rfl) (by rfl)) (@G0 _ _ _ _ _ (@pv _ 3 _ _ (by rfl) (by first | exact Or.inl rfl | exact Or.inr (Or.inl rfl) | exact Or.inr (Or.inr rfl)) (by decide) (by decide)) (@G8 _) (by rfl)) (by rfl)) (by rfl)) (by rfl)))) (@R5 _ _ (7) _ a2e.nd rfl (Or.inl rfl) (by first | exact .inl rfl | exact .inr rfl | assumption)) (@I0 _ _ _ _ _ (@W1 _ _ _ _ _ _ _ _ (PW.pt (@a0Q _ _ _ _ _ _ _ (@a0f _ _ _ _ (@D9 _ _ _ (@W2 _ _ _ _ _ _ _ _ _ _ _ C_law_gone hr (by rfl) (@G0 _ _ _ _ _ (@pv _ 4 _ _ (by rfl) (by first | exact Or.inl rfl | exact Or.inr (Or.inl rfl) | exact Or.inr (Or.inr rfl)) (by decide) (by decide)) (@G0 _ _ _ _ _ (@pv _ 1 _ _ (by rfl) (by first | exact Or.inl rfl | exact Or.inr (Or.inl rfl) | exact Or.inr (Or.inr rfl)) (by decide) (by decide)) (@G0 _ _ _ _ _ (@pv _ 6 _ _ (by rfl) (by first | exact Or.inl rfl | exact Or.inr (Or.inl rfl) | exact Or.inr (Or.inr rfl)) (by decide) (by decide)) (@G0 _ _ _ _ _ (@pv _ 7 _ _ (by rfl) (by first | exact Or.inl rfl | exact Or.inr (Or.inl rfl) | exact Or.inr (Or.inr rfl)) (by decide) (by decide)) (@G8 _) (by rfl)) (by rfl)) (by rfl)) (by rfl)) (by decide) (by decide) (by rfl) (by rfl)) (by intro _;rfl))) (@a1k _ _ _ _ (@a0f _ _ _ _ (@D9 _ _ _ (@W2 _ _ _ _ _ _ _ _ _ _ _ C_law_gone hr (by rfl) (@G0 _ _ _ _ _ (@pv _ 5 _ _ (by rfl) (by first | exact Or.inl rfl | exact Or.inr (Or.inl rfl) | exact Or.inr (Or.inr rfl)) (by decide) (by decide)) (@G0 _ _ _ _ _ (@pv _ 2 _ _ (by rfl) (by first | exact Or.inl rfl | exact Or.inr (Or.inl rfl) | exact Or.inr (Or.inr rfl)) (by decide) (by decide)) (@G0 _ _ _ _ _ (@U6 _ _ _ _ _ _ _ _ (@a0M _) (@pv _ 6 _ _ (by rfl) (by first | exact Or.inl rfl | exact Or.inr (Or.inl rfl) | exact Or.inr (Or.inr rfl)) (by decide) (by decide)) (@G9 _ _ _ _)) (@G0 _ _ _ _ _ (@pv _ 7 _ _ (by rfl) (by first | exact Or.inl rfl | exact Or.inr (Or.inl rfl) | exact Or.inr (Or.inr rfl)) (by decide) (by decide)) (@G8 _) (by rfl)) (by rfl)) (by rfl)) (by rfl)) (by decide) (by decide) (by rfl) (by rfl)) (by intro _;rfl)))))) (@J1 _ _ _ (@R3 _ _ _ _ (@a0P _ _ _ _))) (@R8 _)) (@J1 _ _ _ (@W1 _ _ _ _ _ _ _ _ (PW.pt (@a0Q _ _ _ _ _ _ _ (@a0f _ _ _ _ (@D9 _ _ _ (@W2 _ _ _ _ _ _ _ _ _ _ _ C_law_gone hr (by rfl) (@G0 _ _ _ _ _ (@pv _ 4 _ _ (by rfl) (by first | exact Or.inl rfl | exact Or.inr (Or.inl rfl) | exact Or.inr (Or.inr rfl)) (by decide) (by decide)) (@G0 _ _ _ _ _ (@pv _ 1 _ _ (by rfl) (by first | exact Or.inl rfl | exact Or.inr (Or.inl rfl) | exact Or.inr (Or.inr rfl)) (by decide) (by decide)) (@G0 _ _ _ _ _ (@G9 _ _ _ _) (@G0 _ _ _ _ _ (@pv _ 7 _ _ (by rfl) (by first | exact Or.inl rfl | exact Or.inr (Or.inl rfl) | exact Or.inr (Or.inr rfl)) (by decide) (by decide)) (@G8 _) (by rfl)) (by rfl)) (by rfl)) (by rfl)) (by decide) (by decide) (by rfl) (by rfl)) (by intro _;rfl))) (@a1k _ _ _ _ (@a0f _ _ _ _ (@D9 _ _ _ (@W2 _ _ _ _ _ _ _ _ _ _ _ C_law_told hr (by rfl) (@G0 _ _ _ _ _ (@pv _ 5 _ _ (by rfl) (by first | exact Or.inl rfl | exact Or.inr (Or.inl rfl) | exact Or.inr (Or.inr rfl)) (by decide) (by decide)) (@G0 _ _ _ _ _ (@pv _ 2 _ _ (by rfl) (by first | exact Or.inl rfl | exact Or.inr (Or.inl rfl) | exact Or.inr (Or.inr rfl)) (by decide) (by decide)) (@G8 _) (by rfl)) (by rfl)) (by decide) (by decide) (by rfl) (by rfl)) (by intro _;rfl)))))) (@J1 _ _ _ (@R3 _ _ _ _ (@a0P _ _ _ _))) (@R8 _)))) (by intro _;rfl)) (@J1 _ _ _ (@R3 _ _ _ _ (@a8r _ _ _ _ _ _ _ (@W2 _ _ _ _ _ _ _ _ _ _ _ C_law_told hr (by rfl) (@G0 _ _ _ _ _ (@pv _ 4 _ _ (by rfl) (by first | exact Or.inl rfl | exact Or.inr (Or.inl rfl) | exact Or.inr (Or.inr rfl)) (by decide) (by decide)) (@G0 _ _ _ _ _ (@pv _ 1 _ _ (by rfl) (by first | exact Or.inl rfl | exact Or.inr (Or.inl rfl) | exact Or.inr (Or.inr rfl)) (by decide) (by decide)) (@G8 _) (by rfl)) (by rfl)) (by decide) (by decide) (by rfl) (by rfl)) (@a7Q _ _ _ _ _ (@W2 _ _ _ _ _ _ _ _ _ _ _ C_law_bare hr (by rfl) (@G0 _ _ _ _ _ (@pv _ 1 _ _ (by rfl) (by first | exact Or.inl rfl | exact Or.inr (Or.inl rfl) | exact Or.inr (Or.inr rfl)) (by decide) (by decide)) (@G0 _ _ _ _ _ (@pv _ 3 _ _ (by rfl) (by first | exact Or.inl rfl | exact Or.inr (Or.inl rfl) | exact Or.inr (Or.inr rfl)) (by decide) (by decide)) (@G8 _) (by rfl)) (by rfl)) (by decide) (by decide) (by rfl) (by rfl))))))))))))),?_⟩
  refine⟨_,rfl,a,ns,rfl,hS,fun x D H1 s1 hP hD=>?_⟩
  obtain⟨p0,o0,r0,p1,o1,r1,us,hx,a1,a2,a3,b1,b2,b3,c3,c4⟩:=(P6.of hP).ex
  obtain⟨v0,v1,v2,v3,v4,rfl,k0,k1,k2,k3,k4⟩:∃v0 v1 v2 v3 v4,r0=[v0,v1,v2,v3,v4]/\L2.a2N H1 v0 (.bring D.n1 [(D.given,D.own)])/\L2.a2N H1 v1 (.say [(1,.nam D.own),(1,.num 4)] none)/\L2.a2N H1 v2 (.need [(1,.nam D.own),(1,.num 2)])/\L2.a2N H1 v3 (.ask D.n2 (some D.own))/\L2.a2N H1 v4 (.say [(1,.nam D.own)] none):=by
   unfold a0s at a3
   cases a3 with
   | cons z0 h=>
   cases h with
   | cons z1 h=>
   cases h with
   | cons z2 h=>
   cases h with
   | cons z3 h=>
   cases h with
   | cons z4 h=>
   cases h
   exact⟨_,_,_,_,_,rfl,z0,z1,z2,z3,z4⟩
  refine⟨_,rfl,x,_,_,_,rfl,rfl,SqL.of hx,J6 (j:=0) rfl,p0,_,_,_,rfl,rfl,SqT.of a1,J6 (j:=0) rfl,_,rfl,x,_,_,_,rfl,rfl,SqL.of hx,J6 (j:=0) rfl,p0,_,_,_,rfl,rfl,SqT.of a1,J6 (j:=1) rfl,_,rfl,o0,_,rfl,SqT.of a2,(by show¬(0=0/\3=5);omega),fun c1 g1=>?_⟩
  have ec1:a5J [v0,v1,v2,v3,v4] none (some 3)=[v0,v1,v2]:=rfl
  rw[ec1]
  refine⟨_,rfl,x,_,_,_,rfl,rfl,SqL.of (J2 hx g1),J6 (j:=0) rfl,p0,_,_,_,rfl,rfl,SqT.of (J2 a1 g1),J6 (j:=1) rfl,_,rfl,o0,_,rfl,SqT.of (J2 a2 g1),(by show¬(4=0/\5=5);omega),fun c2 g2=>?_⟩
  have ec2:a5J [v0,v1,v2,v3,v4] (some 4) none=[v4]:=rfl
  rw[ec2]
  refine⟨c1,c2,_,_,rfl,rfl,SqT.of (J2 G7 g2),SqT.of G7,(by show 3+1<=sizeLine;decide),(fun z=>by simp at z),(fun _ z=>by simp at z),fun _ _ c3 g3=>⟨E1,fun p2 g4=>⟨_,rfl,x,_,_,_,rfl,rfl,SqL.of (J2 (J2 (J2 (J2 hx g1) g2) g3) g4),J6 (j:=1) rfl,E1,fun y g5=>?_⟩⟩⟩
  obtain⟨H2,e2,s2,hP2⟩:∃H2,upd (upd (upd (upd (upd H1 c1 (.tup [v0,v1,v2])) c2 (.tup [v4])) c3 (.tup ([v0,v1,v2]++[v4]))) p2 (.tup [.str D.n0,.ref c3])) y (.lst [.ref p2,.ref p1])=H2/\J4 H1 H2/\PsL H2 y (ps6 D false):=by
   have s:=(((((J4.refl H1).new (o:= .tup [v0,v1,v2]) g1).new (o:= .tup [v4]) g2).new (o:= .tup ([v0,v1,v2]++[v4])) g3).new (o:= .tup [.str D.n0,.ref c3]) g4).new (o:= .lst [.ref p2,.ref p1]) g5
   have m:∀{v:V}{rw:Rw},L2.a2N H1 v rw->L2.a2N (upd (upd (upd (upd (upd H1 c1 (.tup [v0,v1,v2])) c2 (.tup [v4])) c3 (.tup ([v0,v1,v2]++[v4]))) p2 (.tup [.str D.n0,.ref c3])) y (.lst [.ref p2,.ref p1])) v rw:=fun⟨r,e,z⟩=>⟨r,e,z.mono s.tups⟩
   exact⟨_,rfl,s,_,G7,.cons ⟨p2,c3,_,rfl,J2 G7 g5,J2 (J2 G7 g4) g5,.cons (m k0) (.cons (m k1) (.cons (m k2) (.cons (m k4) .nil)))⟩ (.cons ⟨p1,o1,r1,rfl,s _ _ b1,s _ _ b2,Paired.mapP b3 fun _ _ z=>m z⟩ .nil)⟩
  rw[e2]
  clear e2
  have sH2:=s1.trans s2
  refine⟨_,rfl,a,ns,3,rfl,sH2.seq hS,by decide,fun d1=>⟨d1,rfl,fun n1=>⟨_,rfl,a,ns,4,rfl,sH2.seq hS,by decide,fun d2=>⟨d2,rfl,fun n2=>⟨E1,fun nl gn=>?_⟩⟩⟩⟩⟩
  obtain⟨H3,e3,s3,hn⟩:∃H3,upd H2 nl (.lst [.int n1,.int n2])=H3/\J4 H2 H3/\H3 nl=some (.lst ([n1,n2].map V.int)):=⟨_,rfl,(J4.refl H2).new gn,G7⟩
  rw[e3]
  clear e3
  have hP3:=hP.mono (s2.trans s3)
  have hL3:=hP2.mono s3
  have sH3:=sH2.trans s3
  have mk:∀{H:Hp}{x:Addr}{D:D6}{f:Bool},a5E D->PsL H x (ps6 D f)->∃us,H x=some (.lst us)/\Paired (a1E H) us (ps6 D f):=fun _ h=>h
  obtain⟨us1,hx3,hps3⟩:=mk hD hP3
  refine⟨_,rfl,x,_,rfl,SqL.of hx3,fun tp o gtp ho=>fun w dx nw ndx ne=>?_⟩
  obtain⟨H4,e4,s4,hw4,hf4⟩:∃H4,upd (upd (upd H3 tp (.frz o (.tup us1))) dx (.own w)) w (.ins CP dx [])=H4/\J4 H3 H4/\H4 w=some (.ins CP dx [])/\a1o H4 tp (ps6 D true):=by
   have s:J4 H3 (upd (upd (upd H3 tp (.frz o (.tup us1))) dx (.own w)) w (.ins CP dx [])):=fun b o' e=>by
    have e1:=J2 (o:= .frz o (.tup us1)) e gtp
    rw[J0 (J3 e1 nw),J0 (J3 e1 ndx)]
    exact e1
   have ht:upd (upd (upd H3 tp (.frz o (.tup us1))) dx (.own w)) w (.ins CP dx []) tp=some (.frz o (.tup us1)):=by
    rw[J0 (J3 G7 nw),J0 (J3 G7 ndx),G7]
   exact⟨_,rfl,s,G7,o,us1,ht,ho,Paired.mapP hps3 fun _ _ z=>z.mono s.tups⟩
  rw[e4]
  clear e4
  refine⟨w,tp,dx,ps6 D true,U4 D true,rfl,hw4,hf4,a2Q hD true,a9o hD true,a8F D true,fun H5 kp5 hW5=>⟨rfl,?_⟩⟩
  have s5:J4 H3 H5:=fun b o' e=>kp5 b o' (s4 b o' e) (J3 e (((J4.refl H3).new gtp).free nw))
  have sH5:=sH3.trans s5
  have hP5:=hP3.mono s5
  have hL5:=hL3.mono s5
  obtain⟨us2,hy5,hps5⟩:=mk hD hL5
  refine⟨_,rfl,y,_,rfl,SqL.of hy5,fun tp2 o2 gtp2 ho2=>fun w2 dx2 nw2 ndx2 ne2=>?_⟩
  obtain⟨H6,e6,s6,hw6,hf6⟩:∃H6,upd (upd (upd H5 tp2 (.frz o2 (.tup us2))) dx2 (.own w2)) w2 (.ins CP dx2 [])=H6/\J4 H5 H6/\H6 w2=some (.ins CP dx2 [])/\a1o H6 tp2 (ps6 D false):=by
   have s:J4 H5 (upd (upd (upd H5 tp2 (.frz o2 (.tup us2))) dx2 (.own w2)) w2 (.ins CP dx2 [])):=fun b o' e=>by
    have e1:=J2 (o:= .frz o2 (.tup us2)) e gtp2
    rw[J0 (J3 e1 nw2),J0 (J3 e1 ndx2)]
    exact e1
   have ht:upd (upd (upd H5 tp2 (.frz o2 (.tup us2))) dx2 (.own w2)) w2 (.ins CP dx2 []) tp2=some (.frz o2 (.tup us2)):=by
    rw[J0 (J3 G7 nw2),J0 (J3 G7 ndx2),G7]
   exact⟨_,rfl,s,G7,o2,us2,ht,ho2,Paired.mapP hps5 fun _ _ z=>z.mono s.tups⟩
  rw[e6]
  clear e6
  refine⟨w2,tp2,dx2,ps6 D false,U4 D false,rfl,hw6,hf6,a2Q hD false,a9o hD false,a8F D false,fun H7 kp7 hW7=>⟨rfl,?_⟩⟩
  have s7:J4 H5 H7:=fun b o' e=>kp7 b o' (s6 b o' e) (J3 e (((J4.refl H5).new gtp2).free nw2))
  have sH7:=sH5.trans s7
  have hP7:=hP5.mono s7
  have hL7:=hL5.mono s7
  have hW57:=Z3 hW5 s7
  have hn7:=(s5.trans s7) _ _ hn
  refine⟨_,rfl,a,ns,2,rfl,sH7.seq hS,by decide,fun d3=>⟨_,_,rfl,rfl,⟨by decide,by decide⟩,_,_,rfl,rfl,(by show(0:Int) < 3;decide),?_⟩⟩
  obtain⟨root,hroot,er⟩:∃root:Nat,root<=2/\d3/2 % 3=(root:Int):=⟨(d3/2 % 3).toNat,by omega,by omega⟩
  show a3T 6 (V.int (d3/2 % 3)) _ _ _
  rw[er]
  refine⟨_,rfl,a1r,fun l0 g0=>⟨_,rfl,nl,_,rfl,SqL.of (J2 hn7 g0),fun l1 g1'=>⟨_,rfl,(by show 4<=sizeLine;decide),fun L gL=>?_⟩⟩⟩
  obtain⟨H8,e8,s8,hl0,hl1,hL8⟩:∃H8,upd (upd (upd H7 l0 (.lst [])) l1 (.lst ([n1,n2].map V.int).reverse)) L (.lst [.ref nl,.ref l0,.ref l1,.ref nl])=H8/\J4 H7 H8/\H8 l0=some (.lst (([]:List Int).map V.int))/\H8 l1=some (.lst ([n2,n1].map V.int))/\H8 L=some (.lst [.ref nl,.ref l0,.ref l1,.ref nl]):=
   ⟨_,rfl,(((J4.refl H7).new g0).new g1').new gL,J2 (J2 G7 g1') gL,J2 G7 gL,G7⟩
  rw[e8]
  clear e8
  have hP8:=hP7.mono s8
  have hL8':=hL7.mono s8
  have hW8:=Z3 hW57 s8
  have hV8:=Z3 hW7 s8
  have hn8:=s8 _ _ hn7
  have sH8:=sH7.trans s8
  have items:∀(i:Nat)(v:V),([.ref nl,.ref l0,.ref l1,.ref nl]:List V)[i]?=some v->∃(m:Addr)(ms:List Int),v= .ref m/\H8 m=some (.lst (ms.map V.int))/\ms.length<=2:=fun i v h=>by
   match i,h with
   | 0,h=>cases h;exact⟨nl,[n1,n2],rfl,hn8,AD 2⟩
   | 1,h=>cases h;exact⟨l0,[],rfl,hl0,by decide⟩
   | 2,h=>cases h;exact⟨l1,[n2,n1],rfl,hl1,AD 2⟩
   | 3,h=>cases h;exact⟨nl,[n1,n2],rfl,hn8,AD 2⟩
   | i+4,h=>simp at h
  refine⟨L,rfl,⟨_,SqL.of hL8⟩,a2v (K:=K) (a:=L) (xs:=[.ref nl,.ref l0,.ref l1,.ref nl]) (fun i σ H9=>∃v7:Option V,σ=[some (.ref a),some (.ref x),some (.ref y),some (.ref nl),some (.ref w),some (.ref w2),some (.int (root:Int)),v7]/\J4 H8 H9) ⟨_,rfl,J4.refl H8⟩ (fun i σ H9 _⟨_,_,s⟩=>SqL.of (s _ _ hL8)) ?_ ?_⟩
  ·rintro i v σ H9 hv ⟨v7,rfl,s9⟩
   obtain⟨m,ms,rfl,hm,hml⟩:=items i v hv
   refine⟨_,rfl,_,rfl,_,rfl,_,rfl,w,x,m,root,ms,D,true,rfl,Z3 hW8 s9,hP8.mono s9,hD,hroot,(fun _=>rfl),s9 _ _ hm,hml,fun H10 s10=>?_⟩
   refine⟨_,rfl,O7 ?_⟩
   have s810:=s9.trans s10
   refine⟨_,rfl,_,rfl,_,rfl,_,_,rfl,rfl,(by show(0:Int) < 2;decide),_,rfl,w2,y,m,root % 2,ms,D,false,(by show [V.ref w2,V.ref y,V.int ((root:Int) % 2),V.ref m]=_;rw[show(root:Int) % 2=((root % 2:Nat):Int)by omega]),Z3 hV8 s810,hL8'.mono s810,hD,by omega,(fun z=>by omega),s810 _ _ hm,hml,fun H11 s11=>?_⟩
   refine⟨_,rfl,O7 ?_⟩
   have s811:=s810.trans s11
   refine⟨_,rfl,_,rfl,_,rfl,w,x,m,0,ms,D,true,rfl,Z3 hW8 s811,hP8.mono s811,hD,by omega,(fun _=>rfl),s811 _ _ hm,hml,fun H12 s12=>?_⟩
   refine⟨_,rfl,O7 ?_⟩
   have s812:=s811.trans s12
   refine⟨_,rfl,_,rfl,w2,y,D,false,rfl,Z3 hV8 s812,hL8'.mono s812,hD,fun H13 s13=>?_⟩
   exact⟨_,rfl,O7 ⟨_,rfl,s812.trans s13⟩⟩
  rintro σ H9 ⟨v7,rfl,s9⟩
  refine⟨_,rfl,_,rfl,w,x,D,true,rfl,Z3 hW8 s9,hP8.mono s9,hD,fun H10 s10=>?_⟩
  refine⟨_,rfl,a0I ?_⟩
  have s810:=s9.trans s10
  exact⟨_,rfl,_,rfl,x,nl,ps6 D true,[n1,n2],rfl,hP8.mono s810,s810 _ _ hn8,AD 2,fun H11 _=>q _⟩
end
end K26
namespace K26
open PySem L2
theorem b4j{l:W.OpenLaw}{w:World}{K:W.Frag}{h:Heap}{mg:Str->Option Value}{fa:Addr}(X:K.In h)(G:h.Ns mainGlobals mg)(hfa:mg "law"=some (.ref fa))
  {CP CG CW:Addr}
  {f0:Addr}{od0 an0:Option Addr}{sl0:Array (Option Value)}{oc0 kV0 dc0 pm0 cd0 ct0:Value}
  {f1:Addr}{od1 an1:Option Addr}{sl1:Array (Option Value)}{oc1 kV1 dc1 pm1 cd1 ct1:Value}
  {f2:Addr}{od2 an2:Option Addr}{sl2:Array (Option Value)}{oc2 kV2 dc2 pm2 cd2 ct2:Value}
  {f3:Addr}{od3 an3:Option Addr}{sl3:Array (Option Value)}{oc3 kV3 dc3 pm3 cd3 ct3:Value}
  {f4:Addr}{od4 an4:Option Addr}{sl4:Array (Option Value)}{oc4 kV4 dc4 pm4 cd4 ct4:Value}
  {f5:Addr}{od5 an5:Option Addr}{sl5:Array (Option Value)}{oc5 kV5 dc5 pm5 cd5 ct5:Value}
  {f6:Addr}{od6 an6:Option Addr}{sl6:Array (Option Value)}{oc6 kV6 dc6 pm6 cd6 ct6:Value}
  {f7:Addr}{od7 an7:Option Addr}{sl7:Array (Option Value)}{oc7 kV7 dc7 pm7 cd7 ct7:Value}
  {f8:Addr}{od8 an8:Option Addr}{sl8:Array (Option Value)}{oc8 kV8 dc8 pm8 cd8 ct8:Value}
  {f9:Addr}{od9 an9:Option Addr}{sl9:Array (Option Value)}{oc9 kV9 dc9 pm9 cd9 ct9:Value}
  {f10:Addr}{od10 an10:Option Addr}{sl10:Array (Option Value)}{oc10 kV10 dc10 pm10 cd10 ct10:Value}
  {f11:Addr}{od11 an11:Option Addr}{sl11:Array (Option Value)}{oc11 kV11 dc11 pm11 cd11 ct11:Value}
  {f12:Addr}{od12 an12:Option Addr}{sl12:Array (Option Value)}{oc12 kV12 dc12 pm12 cd12 ct12:Value}
  {f13:Addr}{od13 an13:Option Addr}{sl13:Array (Option Value)}{oc13 kV13 dc13 pm13 cd13 ct13:Value}
  {f14:Addr}{od14 an14:Option Addr}{sl14:Array (Option Value)}{oc14 kV14 dc14 pm14 cd14 ct14:Value}
  {f15:Addr}{od15 an15:Option Addr}{sl15:Array (Option Value)}{oc15 kV15 dc15 pm15 cd15 ct15:Value}
  {f16:Addr}{od16 an16:Option Addr}{sl16:Array (Option Value)}{oc16 kV16 dc16 pm16 cd16 ct16:Value}
  {f17:Addr}{od17 an17:Option Addr}{sl17:Array (Option Value)}{oc17 kV17 dc17 pm17 cd17 ct17:Value}
  {f18:Addr}{od18 an18:Option Addr}{sl18:Array (Option Value)}{oc18 kV18 dc18 pm18 cd18 ct18:Value}
  {f19:Addr}{od19 an19:Option Addr}{sl19:Array (Option Value)}{oc19 kV19 dc19 pm19 cd19 ct19:Value}
  {f20:Addr}{od20 an20:Option Addr}{sl20:Array (Option Value)}{oc20 kV20 dc20 pm20 cd20 ct20:Value}
  {f21:Addr}{od21 an21:Option Addr}{sl21:Array (Option Value)}{oc21 kV21 dc21 pm21 cd21 ct21:Value}
  {f22:Addr}{od22 an22:Option Addr}{sl22:Array (Option Value)}{oc22 kV22 dc22 pm22 cd22 ct22:Value}
  {f23:Addr}{od23 an23:Option Addr}{sl23:Array (Option Value)}{oc23 kV23 dc23 pm23 cd23 ct23:Value}
  {f24:Addr}{od24 an24:Option Addr}{sl24:Array (Option Value)}{oc24 kV24 dc24 pm24 cd24 ct24:Value}
  {f25:Addr}{od25 an25:Option Addr}{sl25:Array (Option Value)}{oc25 kV25 dc25 pm25 cd25 ct25:Value}
  {f26:Addr}{od26 an26:Option Addr}{sl26:Array (Option Value)}{oc26 kV26 dc26 pm26 cd26 ct26:Value}
  {f27:Addr}{od27 an27:Option Addr}{sl27:Array (Option Value)}{oc27 kV27 dc27 pm27 cd27 ct27:Value}
  {f28:Addr}{od28 an28:Option Addr}{sl28:Array (Option Value)}{oc28 kV28 dc28 pm28 cd28 ct28:Value}
  {f29:Addr}{od29 an29:Option Addr}{sl29:Array (Option Value)}{oc29 kV29 dc29 pm29 cd29 ct29:Value}
  {f30:Addr}{od30 an30:Option Addr}{sl30:Array (Option Value)}{oc30 kV30 dc30 pm30 cd30 ct30:Value}
  {f31:Addr}{od31 an31:Option Addr}{sl31:Array (Option Value)}{oc31 kV31 dc31 pm31 cd31 ct31:Value}
  {f32:Addr}{od32 an32:Option Addr}{sl32:Array (Option Value)}{oc32 kV32 dc32 pm32 cd32 ct32:Value}
  {f33:Addr}{od33 an33:Option Addr}{sl33:Array (Option Value)}{oc33 kV33 dc33 pm33 cd33 ct33:Value}
  {f34:Addr}{od34 an34:Option Addr}{sl34:Array (Option Value)}{oc34 kV34 dc34 pm34 cd34 ct34:Value}
  {f35:Addr}{od35 an35:Option Addr}{sl35:Array (Option Value)}{oc35 kV35 dc35 pm35 cd35 ct35:Value}
  {f36:Addr}{od36 an36:Option Addr}{sl36:Array (Option Value)}{oc36 kV36 dc36 pm36 cd36 ct36:Value}
  {f37:Addr}{od37 an37:Option Addr}{sl37:Array (Option Value)}{oc37 kV37 dc37 pm37 cd37 ct37:Value}
  {f38:Addr}{od38 an38:Option Addr}{sl38:Array (Option Value)}{oc38 kV38 dc38 pm38 cd38 ct38:Value}
  {f39:Addr}{od39 an39:Option Addr}{sl39:Array (Option Value)}{oc39 kV39 dc39 pm39 cd39 ct39:Value}
  {f40:Addr}{od40 an40:Option Addr}{sl40:Array (Option Value)}{oc40 kV40 dc40 pm40 cd40 ct40:Value}
  {f41:Addr}{od41 an41:Option Addr}{sl41:Array (Option Value)}{oc41 kV41 dc41 pm41 cd41 ct41:Value}
  {f42:Addr}{od42 an42:Option Addr}{sl42:Array (Option Value)}{oc42 kV42 dc42 pm42 cd42 ct42:Value}
  {f43:Addr}{od43 an43:Option Addr}{sl43:Array (Option Value)}{oc43 kV43 dc43 pm43 cd43 ct43:Value}
  {f44:Addr}{od44 an44:Option Addr}{sl44:Array (Option Value)}{oc44 kV44 dc44 pm44 cd44 ct44:Value}
  {f45:Addr}{od45 an45:Option Addr}{sl45:Array (Option Value)}{oc45 kV45 dc45 pm45 cd45 ct45:Value}
  (a0:W.nsIn K mainGlobals "words_of"=some (some (.ref f0)))(l0:K.lookup f0=some ⟨oc0,od0,.func (W.fnOf "words_of" "words_of" (R1 a1h) (R0 a1h) (I9 a1h) .none kV0 dc0 pm0 an0 cd0 ct0),sl0⟩)(c0:W.codeIn K cd0 "words_of"=true)(k0:W.keepIn K (.ref f0)=true)
  (a1:W.nsIn K mainGlobals "pair_words"=some (some (.ref f1)))(l1:K.lookup f1=some ⟨oc1,od1,.func (W.fnOf "pair_words" "pair_words" (R1 a0v) (R0 a0v) (I9 a0v) .none kV1 dc1 pm1 an1 cd1 ct1),sl1⟩)(c1:W.codeIn K cd1 "pair_words"=true)(k1:W.keepIn K (.ref f1)=true)
  (a2:W.nsIn K mainGlobals "sum_words"=some (some (.ref f2)))(l2:K.lookup f2=some ⟨oc2,od2,.func (W.fnOf "sum_words" "sum_words" (R1 a0H) (R0 a0H) (I9 a0H) .none kV2 dc2 pm2 an2 cd2 ct2),sl2⟩)(c2:W.codeIn K cd2 "sum_words"=true)(k2:W.keepIn K (.ref f2)=true)
  (a3:W.nsIn K mainGlobals "when_words"=some (some (.ref f3)))(l3:K.lookup f3=some ⟨oc3,od3,.func (W.fnOf "when_words" "when_words" (R1 a0x) (R0 a0x) (I9 a0x) .none kV3 dc3 pm3 an3 cd3 ct3),sl3⟩)(c3:W.codeIn K cd3 "when_words"=true)(k3:W.keepIn K (.ref f3)=true)
  (a4:W.nsIn K mainGlobals "read_names"=some (some (.ref f4)))(l4:K.lookup f4=some ⟨oc4,od4,.func (W.fnOf "read_names" "read_names" (R1 a0m) (R0 a0m) (I9 a0m) .none kV4 dc4 pm4 an4 cd4 ct4),sl4⟩)(c4:W.codeIn K cd4 "read_names"=true)(k4:W.keepIn K (.ref f4)=true)
  (a5:W.nsIn K mainGlobals "sum_names"=some (some (.ref f5)))(l5:K.lookup f5=some ⟨oc5,od5,.func (W.fnOf "sum_names" "sum_names" (R1 a0J) (R0 a0J) (I9 a0J) .none kV5 dc5 pm5 an5 cd5 ct5),sl5⟩)(c5:W.codeIn K cd5 "sum_names"=true)(k5:W.keepIn K (.ref f5)=true)
  (a6:W.nsIn K mainGlobals "when_names"=some (some (.ref f6)))(l6:K.lookup f6=some ⟨oc6,od6,.func (W.fnOf "when_names" "when_names" (R1 a0k) (R0 a0k) (I9 a0k) .none kV6 dc6 pm6 an6 cd6 ct6),sl6⟩)(c6:W.codeIn K cd6 "when_names"=true)(k6:W.keepIn K (.ref f6)=true)
  (a7:W.nsIn K mainGlobals "placed_rows"=some (some (.ref f7)))(l7:K.lookup f7=some ⟨oc7,od7,.func (W.fnOf "placed_rows" "placed_rows" (R1 M8) (R0 M8) (I9 M8) .none kV7 dc7 pm7 an7 cd7 ct7),sl7⟩)(c7:W.codeIn K cd7 "placed_rows"=true)(k7:W.keepIn K (.ref f7)=true)
  (a8:W.nsIn K mainGlobals "given_owns"=some (some (.ref f8)))(l8:K.lookup f8=some ⟨oc8,od8,.func (W.fnOf "given_owns" "given_owns" (R1 a0o) (R0 a0o) (I9 a0o) .none kV8 dc8 pm8 an8 cd8 ct8),sl8⟩)(c8:W.codeIn K cd8 "given_owns"=true)(k8:W.keepIn K (.ref f8)=true)
  (a9:W.nsIn K mainGlobals "links"=some (some (.ref f9)))(l9:K.lookup f9=some ⟨oc9,od9,.func (W.fnOf "links" "links" (R1 a3o) (R0 a3o) (I9 a3o) .none kV9 dc9 pm9 an9 cd9 ct9),sl9⟩)(c9:W.codeIn K cd9 "links"=true)(k9:W.keepIn K (.ref f9)=true)
  (a10:W.nsIn K mainGlobals "makers"=some (some (.ref f10)))(l10:K.lookup f10=some ⟨oc10,od10,.func (W.fnOf "makers" "makers" (R1 a2f) (R0 a2f) (I9 a2f) .none kV10 dc10 pm10 an10 cd10 ct10),sl10⟩)(c10:W.codeIn K cd10 "makers"=true)(k10:W.keepIn K (.ref f10)=true)
  (a11:W.nsIn K mainGlobals "made"=some (some (.ref f11)))(l11:K.lookup f11=some ⟨oc11,od11,.func (W.fnOf "made" "made" (R1 a4K) (R0 a4K) (I9 a4K) .none kV11 dc11 pm11 an11 cd11 ct11),sl11⟩)(c11:W.codeIn K cd11 "made"=true)(k11:W.keepIn K (.ref f11)=true)
  (a12:W.nsIn K mainGlobals "_law_cell_at"=some (some (.ref f12)))(l12:K.lookup f12=some ⟨oc12,od12,.func (W.fnOf "_law_cell_at" "_law_cell_at" (R1 M9) (R0 M9) (I9 M9) .none kV12 dc12 pm12 an12 cd12 ct12),sl12⟩)(c12:W.codeIn K cd12 "_law_cell_at"=true)(k12:W.keepIn K (.ref f12)=true)
  (a13:W.nsIn K mainGlobals "_law_whole"=some (some (.ref f13)))(l13:K.lookup f13=some ⟨oc13,od13,.func (W.fnOf "_law_whole" "_law_whole" (R1 a0G) (R0 a0G) (I9 a0G) .none kV13 dc13 pm13 an13 cd13 ct13),sl13⟩)(c13:W.codeIn K cd13 "_law_whole"=true)(k13:W.keepIn K (.ref f13)=true)
  (a14:W.nsIn K mainGlobals "_law_name"=some (some (.ref f14)))(l14:K.lookup f14=some ⟨oc14,od14,.func (W.fnOf "_law_name" "_law_name" (R1 a1g) (R0 a1g) (I9 a1g) .none kV14 dc14 pm14 an14 cd14 ct14),sl14⟩)(c14:W.codeIn K cd14 "_law_name"=true)(k14:W.keepIn K (.ref f14)=true)
  (a15:W.nsIn K mainGlobals "_law_number"=some (some (.ref f15)))(l15:K.lookup f15=some ⟨oc15,od15,.func (W.fnOf "_law_number" "_law_number" (R1 a0w) (R0 a0w) (I9 a0w) .none kV15 dc15 pm15 an15 cd15 ct15),sl15⟩)(c15:W.codeIn K cd15 "_law_number"=true)(k15:W.keepIn K (.ref f15)=true)
  (a16:W.nsIn K mainGlobals "_law_parts"=some (some (.ref f16)))(l16:K.lookup f16=some ⟨oc16,od16,.func (W.fnOf "_law_parts" "_law_parts" (R1 a0g) (R0 a0g) (I9 a0g) .none kV16 dc16 pm16 an16 cd16 ct16),sl16⟩)(c16:W.codeIn K cd16 "_law_parts"=true)(k16:W.keepIn K (.ref f16)=true)
  (a17:W.nsIn K mainGlobals "_law_due"=some (some (.ref f17)))(l17:K.lookup f17=some ⟨oc17,od17,.func (W.fnOf "_law_due" "_law_due" (R1 a0A) (R0 a0A) (I9 a0A) .none kV17 dc17 pm17 an17 cd17 ct17),sl17⟩)(c17:W.codeIn K cd17 "_law_due"=true)(k17:W.keepIn K (.ref f17)=true)
  (a18:W.nsIn K mainGlobals "_law_gone"=some (some (.ref f18)))(l18:K.lookup f18=some ⟨oc18,od18,.func (W.fnOf "_law_gone" "_law_gone" (R1 a1i) (R0 a1i) (I9 a1i) .none kV18 dc18 pm18 an18 cd18 ct18),sl18⟩)(c18:W.codeIn K cd18 "_law_gone"=true)(k18:W.keepIn K (.ref f18)=true)
  (a19:W.nsIn K mainGlobals "_law_told"=some (some (.ref f19)))(l19:K.lookup f19=some ⟨oc19,od19,.func (W.fnOf "_law_told" "_law_told" (R1 a0e) (R0 a0e) (I9 a0e) .none kV19 dc19 pm19 an19 cd19 ct19),sl19⟩)(c19:W.codeIn K cd19 "_law_told"=true)(k19:W.keepIn K (.ref f19)=true)
  (a20:W.nsIn K mainGlobals "_law_bare"=some (some (.ref f20)))(l20:K.lookup f20=some ⟨oc20,od20,.func (W.fnOf "_law_bare" "_law_bare" (R1 a1f) (R0 a1f) (I9 a1f) .none kV20 dc20 pm20 an20 cd20 ct20),sl20⟩)(c20:W.codeIn K cd20 "_law_bare"=true)(k20:W.keepIn K (.ref f20)=true)
  (a21:W.nsIn K mainGlobals "law"=some (some (.ref f21)))(l21:K.lookup f21=some ⟨oc21,od21,.func (W.fnOf "law" "law" (R1 a5W) (R0 a5W) (I9 a5W) .none kV21 dc21 pm21 an21 cd21 ct21),sl21⟩)(c21:W.codeIn K cd21 "law"=true)(k21:W.keepIn K (.ref f21)=true)
  (a22:W.findIn K (.ref CG) "load"=some (some (.ref f22)))(i22:W.isFn K (.ref f22)=true)(l22:K.lookup f22=some ⟨oc22,od22,.func (W.fnOf "load" "Going.load" (R1 a0l) (R0 a0l) (I9 a0l) .none kV22 dc22 pm22 an22 cd22 ct22),sl22⟩)(c22:W.codeIn K cd22 "Going.load"=true)(k22:W.keepIn K (.ref f22)=true)
  (a23:W.findIn K (.ref CG) "begin"=some (some (.ref f23)))(i23:W.isFn K (.ref f23)=true)(l23:K.lookup f23=some ⟨oc23,od23,.func (W.fnOf "begin" "Going.begin" (R1 a0c) (R0 a0c) (I9 a0c) .none kV23 dc23 pm23 an23 cd23 ct23),sl23⟩)(c23:W.codeIn K cd23 "Going.begin"=true)(k23:W.keepIn K (.ref f23)=true)
  (a24:W.findIn K (.ref CG) "go_on"=some (some (.ref f24)))(i24:W.isFn K (.ref f24)=true)(l24:K.lookup f24=some ⟨oc24,od24,.func (W.fnOf "go_on" "Going.go_on" (R1 a0a) (R0 a0a) (I9 a0a) .none kV24 dc24 pm24 an24 cd24 ct24),sl24⟩)(c24:W.codeIn K cd24 "Going.go_on"=true)(k24:W.keepIn K (.ref f24)=true)
  (a25:W.findIn K (.ref CG) "do_row"=some (some (.ref f25)))(i25:W.isFn K (.ref f25)=true)(l25:K.lookup f25=some ⟨oc25,od25,.func (W.fnOf "do_row" "Going.do_row" (R1 M0) (R0 M0) (I9 M0) .none kV25 dc25 pm25 an25 cd25 ct25),sl25⟩)(c25:W.codeIn K cd25 "Going.do_row"=true)(k25:W.keepIn K (.ref f25)=true)
  (a26:W.findIn K (.ref CG) "is_off"=some (some (.ref f26)))(i26:W.isFn K (.ref f26)=true)(l26:K.lookup f26=some ⟨oc26,od26,.func (W.fnOf "is_off" "Going.is_off" (R1 B8) (R0 B8) (I9 B8) .none kV26 dc26 pm26 an26 cd26 ct26),sl26⟩)(c26:W.codeIn K cd26 "Going.is_off"=true)(k26:W.keepIn K (.ref f26)=true)
  (a27:W.findIn K (.ref CG) "early_word"=some (some (.ref f27)))(i27:W.isFn K (.ref f27)=true)(l27:K.lookup f27=some ⟨oc27,od27,.func (W.fnOf "early_word" "Going.early_word" (R1 E4) (R0 E4) (I9 E4) .none kV27 dc27 pm27 an27 cd27 ct27),sl27⟩)(c27:W.codeIn K cd27 "Going.early_word"=true)(k27:W.keepIn K (.ref f27)=true)
  (a28:W.findIn K (.ref CG) "enter"=some (some (.ref f28)))(i28:W.isFn K (.ref f28)=true)(l28:K.lookup f28=some ⟨oc28,od28,.func (W.fnOf "enter" "Going.enter" (R1 M5) (R0 M5) (I9 M5) .none kV28 dc28 pm28 an28 cd28 ct28),sl28⟩)(c28:W.codeIn K cd28 "Going.enter"=true)(k28:W.keepIn K (.ref f28)=true)
  (a29:W.findIn K (.ref CG) "do_work"=some (some (.ref f29)))(i29:W.isFn K (.ref f29)=true)(l29:K.lookup f29=some ⟨oc29,od29,.func (W.fnOf "do_work" "Going.do_work" (R1 D7) (R0 D7) (I9 D7) .none kV29 dc29 pm29 an29 cd29 ct29),sl29⟩)(c29:W.codeIn K cd29 "Going.do_work"=true)(k29:W.keepIn K (.ref f29)=true)
  (a30:W.findIn K (.ref CG) "give"=some (some (.ref f30)))(i30:W.isFn K (.ref f30)=true)(l30:K.lookup f30=some ⟨oc30,od30,.func (W.fnOf "give" "Going.give" (R1 a0r) (R0 a0r) (I9 a0r) .none kV30 dc30 pm30 an30 cd30 ct30),sl30⟩)(c30:W.codeIn K cd30 "Going.give"=true)(k30:W.keepIn K (.ref f30)=true)
  (a31:W.findIn K (.ref CG) "next_told"=some (some (.ref f31)))(i31:W.isFn K (.ref f31)=true)(l31:K.lookup f31=some ⟨oc31,od31,.func (W.fnOf "next_told" "Going.next_told" (R1 F5) (R0 F5) (I9 F5) .none kV31 dc31 pm31 an31 cd31 ct31),sl31⟩)(c31:W.codeIn K cd31 "Going.next_told"=true)(k31:W.keepIn K (.ref f31)=true)
  (a32:W.findIn K (.ref CG) "value_of"=some (some (.ref f32)))(i32:W.isFn K (.ref f32)=true)(l32:K.lookup f32=some ⟨oc32,od32,.func (W.fnOf "value_of" "Going.value_of" (R1 D1) (R0 D1) (I9 D1) .none kV32 dc32 pm32 an32 cd32 ct32),sl32⟩)(c32:W.codeIn K cd32 "Going.value_of"=true)(k32:W.keepIn K (.ref f32)=true)
  (a33:W.findIn K (.ref CG) "thing_value"=some (some (.ref f33)))(i33:W.isFn K (.ref f33)=true)(l33:K.lookup f33=some ⟨oc33,od33,.func (W.fnOf "thing_value" "Going.thing_value" (R1 O6) (R0 O6) (I9 O6) .none kV33 dc33 pm33 an33 cd33 ct33),sl33⟩)(c33:W.codeIn K cd33 "Going.thing_value"=true)(k33:W.keepIn K (.ref f33)=true)
  (a34:W.findIn K (.ref CP) "rows_of"=some (some (.ref f34)))(i34:W.isFn K (.ref f34)=true)(l34:K.lookup f34=some ⟨oc34,od34,.func (W.fnOf "rows_of" "PartsWalk.rows_of" (R1 Y9) (R0 Y9) (I9 Y9) .none kV34 dc34 pm34 an34 cd34 ct34),sl34⟩)(c34:W.codeIn K cd34 "PartsWalk.rows_of"=true)(k34:W.keepIn K (.ref f34)=true)
  (a35:W.findIn K (.ref CP) "key_of"=some (some (.ref f35)))(i35:W.isFn K (.ref f35)=true)(l35:K.lookup f35=some ⟨oc35,od35,.func (W.fnOf "key_of" "PartsWalk.key_of" (R1 E5) (R0 E5) (I9 E5) .none kV35 dc35 pm35 an35 cd35 ct35),sl35⟩)(c35:W.codeIn K cd35 "PartsWalk.key_of"=true)(k35:W.keepIn K (.ref f35)=true)
  (a36:W.findIn K (.ref CP) "loads_of"=some (some (.ref f36)))(i36:W.isFn K (.ref f36)=true)(l36:K.lookup f36=some ⟨oc36,od36,.func (W.fnOf "loads_of" "Walk.loads_of" (R1 Y3) (R0 Y3) (I9 Y3) .none kV36 dc36 pm36 an36 cd36 ct36),sl36⟩)(c36:W.codeIn K cd36 "Walk.loads_of"=true)(k36:W.keepIn K (.ref f36)=true)
  (a37:W.findIn K (.ref CP) "ahead_of"=some (some (.ref f37)))(i37:W.isFn K (.ref f37)=true)(l37:K.lookup f37=some ⟨oc37,od37,.func (W.fnOf "ahead_of" "Walk.ahead_of" (R1 Y2) (R0 Y2) (I9 Y2) .none kV37 dc37 pm37 an37 cd37 ct37),sl37⟩)(c37:W.codeIn K cd37 "Walk.ahead_of"=true)(k37:W.keepIn K (.ref f37)=true)
  (a38:W.findIn K (.ref CP) "go"=some (some (.ref f38)))(i38:W.isFn K (.ref f38)=true)(l38:K.lookup f38=some ⟨oc38,od38,.func (W.fnOf "go" "Walk.go" (R1 M1) (R0 M1) (I9 M1) .none kV38 dc38 pm38 an38 cd38 ct38),sl38⟩)(c38:W.codeIn K cd38 "Walk.go"=true)(k38:W.keepIn K (.ref f38)=true)
  (a39:W.findIn K (.ref CW) "rows_of"=some (some (.ref f39)))(i39:W.isFn K (.ref f39)=true)(l39:K.lookup f39=some ⟨oc39,od39,.func (W.fnOf "rows_of" "Walk.rows_of" (R1 B9) (R0 B9) (I9 B9) .none kV39 dc39 pm39 an39 cd39 ct39),sl39⟩)(c39:W.codeIn K cd39 "Walk.rows_of"=true)(k39:W.keepIn K (.ref f39)=true)
  (a40:W.findIn K (.ref CW) "key_of"=some (some (.ref f40)))(i40:W.isFn K (.ref f40)=true)(l40:K.lookup f40=some ⟨oc40,od40,.func (W.fnOf "key_of" "Walk.key_of" (R1 a0b) (R0 a0b) (I9 a0b) .none kV40 dc40 pm40 an40 cd40 ct40),sl40⟩)(c40:W.codeIn K cd40 "Walk.key_of"=true)(k40:W.keepIn K (.ref f40)=true)
  (a41:W.findIn K (.ref CW) "loads_of"=some (some (.ref f41)))(i41:W.isFn K (.ref f41)=true)(l41:K.lookup f41=some ⟨oc41,od41,.func (W.fnOf "loads_of" "Walk.loads_of" (R1 Y3) (R0 Y3) (I9 Y3) .none kV41 dc41 pm41 an41 cd41 ct41),sl41⟩)(c41:W.codeIn K cd41 "Walk.loads_of"=true)(k41:W.keepIn K (.ref f41)=true)
  (a42:W.findIn K (.ref CW) "ahead_of"=some (some (.ref f42)))(i42:W.isFn K (.ref f42)=true)(l42:K.lookup f42=some ⟨oc42,od42,.func (W.fnOf "ahead_of" "Walk.ahead_of" (R1 Y2) (R0 Y2) (I9 Y2) .none kV42 dc42 pm42 an42 cd42 ct42),sl42⟩)(c42:W.codeIn K cd42 "Walk.ahead_of"=true)(k42:W.keepIn K (.ref f42)=true)
  (a43:W.findIn K (.ref CW) "go"=some (some (.ref f43)))(i43:W.isFn K (.ref f43)=true)(l43:K.lookup f43=some ⟨oc43,od43,.func (W.fnOf "go" "Walk.go" (R1 M1) (R0 M1) (I9 M1) .none kV43 dc43 pm43 an43 cd43 ct43),sl43⟩)(c43:W.codeIn K cd43 "Walk.go"=true)(k43:W.keepIn K (.ref f43)=true)
  (a44:W.findIn K (.ref CP) "__init__"=some (some (.ref f44)))(i44:W.isFn K (.ref f44)=true)(l44:K.lookup f44=some ⟨oc44,od44,.func (W.fnOf "__init__" "PartsWalk.__init__" (R1 Z9) (R0 Z9) (I9 Z9) .none kV44 dc44 pm44 an44 cd44 ct44),sl44⟩)(c44:W.codeIn K cd44 "PartsWalk.__init__"=true)(k44:W.keepIn K (.ref f44)=true)
  (a45:W.findIn K (.ref CG) "__init__"=some (some (.ref f45)))(i45:W.isFn K (.ref f45)=true)(l45:K.lookup f45=some ⟨oc45,od45,.func (W.fnOf "__init__" "Going.__init__" (R1 D3) (R0 D3) (I9 D3) .none kV45 dc45 pm45 an45 cd45 ct45),sl45⟩)(c45:W.codeIn K cd45 "Going.__init__"=true)(k45:W.keepIn K (.ref f45)=true)
  (gCP:W.nsIn K mainGlobals "PartsWalk"=some (some (.ref CP)))(pgCP:W.plainGet K CP Str.empty=true)(hdCP:W.hasDictIn K CP=true)(poCP:W.plainOver K CP=true)(saCP:W.findIn K (.ref CP) "__setattr__"=some (some (.builtin "object.__setattr__")))(mkCP:W.makesIn K CP=true)(kcCP:W.keepIn K (.ref CP)=true)
  (gCG:W.nsIn K mainGlobals "Going"=some (some (.ref CG)))(pgCG:W.plainGet K CG Str.empty=true)(hdCG:W.hasDictIn K CG=true)(poCG:W.plainOver K CG=true)(saCG:W.findIn K (.ref CG) "__setattr__"=some (some (.builtin "object.__setattr__")))(mkCG:W.makesIn K CG=true)(kcCG:W.keepIn K (.ref CG)=true)
  (gCW:W.nsIn K mainGlobals "Walk"=some (some (.ref CW)))(pgCW:W.plainGet K CW Str.empty=true)(hdCW:W.hasDictIn K CW=true)(poCW:W.plainOver K CW=true)(saCW:W.findIn K (.ref CW) "__setattr__"=some (some (.builtin "object.__setattr__")))(mkCW:W.makesIn K CW=true)(kcCW:W.keepIn K (.ref CW)=true)
  (nGwalk:W.findIn K (.ref CG) "walk"=some none)
  (nGnumbers:W.findIn K (.ref CG) "numbers"=some none)
  (nGtaken:W.findIn K (.ref CG) "taken"=some none)
  (nGbegun:W.findIn K (.ref CG) "begun"=some none)
  (nGloaded:W.findIn K (.ref CG) "loaded"=some none)
  (nGgiven:W.findIn K (.ref CG) "given"=some none)
  (nGwaiting:W.findIn K (.ref CG) "waiting"=some none)
  (nGtrace:W.findIn K (.ref CG) "trace"=some none)
  (nGfault:W.findIn K (.ref CG) "fault"=some none)
  (nProws:W.findIn K (.ref CP) "rows"=some none)
  (nPmakers:W.findIn K (.ref CP) "makers"=some none)
  (z0:W.nsIn K mainGlobals "len"=some none)
  (z1:W.nsIn K mainGlobals "range"=some none)
  (z2:W.nsIn K mainGlobals "str"=some none)
  (z3:W.nsIn K mainGlobals "tuple"=some none)
  (z4:W.nsIn K mainGlobals "list"=some none)
  (z5:W.nsIn K mainGlobals "dict"=some none)
  (z6:W.nsIn K mainGlobals "enumerate"=some none)
  (z7:W.nsIn K mainGlobals "isinstance"=some none)
  (z8:W.nsIn K mainGlobals "reversed"=some none)
  (z9:W.nsIn K mainGlobals "int"=some none)
  (z10:W.nsIn K mainGlobals "bool"=some none)
  (ow_pg:W.plainGet K CP "__class__"=true)
  (ow_ha:W.findIn K (.ref CP) "__class__"=some (some (.builtin "object.__class__")))
  (ow_hn:W.specialIn K (.builtin "object.__class__") "__get__"=some (some (.builtin "getset_descriptor.__get__")))
  (ow_ht:W.takesIn K (.builtin "object.__class__")=some true)
  (ow_hm:W.mroIn K CP (.type "object")=some true)
  (ow_is:W.kitOne K (.ref CP) (.ref CW)=some true)
  (ow_ini:W.findIn K (.ref CW) "__init__"=some (some (.builtin "object.__init__"))):
  ∃fd:FuncData,(∀(s:Shared)(v:Value),BindsTo s fd ⟨[v],[]⟩ [("_law_script",v)])/\∀base:Heap,K.In base->base.Ns mainGlobals mg->a2B l.prog w K mg base CX0 12 fa fd ["_law_script"] (a8N K):=by
 have e:=hfa.symm.trans (W.mg_of X G a21)
 cases e
 have T0:Txt K mg:=⟨W.mg_none_of X G z0,W.mg_none_of X G z1,W.mg_none_of X G z2,W.mg_none_of X G z3,W.mg_none_of X G z4,W.mg_none_of X G z5,W.mg_none_of X G z6,W.mg_none_of X G z7,W.mg_none_of X G z8,W.mg_none_of X G z9,W.mg_none_of X G z10,W4 X G a0 l0 c0 k0,W4 X G a1 l1 c1 k1,W4 X G a2 l2 c2 k2,W4 X G a3 l3 c3 k3,W4 X G a4 l4 c4 k4,W4 X G a5 l5 c5 k5,W4 X G a6 l6 c6 k6,W4 X G a7 l7 c7 k7,W4 X G a8 l8 c8 k8,W4 X G a9 l9 c9 k9,W4 X G a10 l10 c10 k10,W4 X G a11 l11 c11 k11,W4 X G a12 l12 c12 k12,W4 X G a13 l13 c13 k13,W4 X G a14 l14 c14 k14,W4 X G a15 l15 c15 k15,W4 X G a16 l16 c16 k16,W4 X G a17 l17 c17 k17,W4 X G a18 l18 c18 k18,W4 X G a19 l19 c19 k19,W4 X G a20 l20 c20 k20⟩
 have T1:Tc K mg CP CG:=⟨T0,⟨pgCP,hdCP,poCP,saCP⟩,⟨pgCG,hdCG,poCG,saCG⟩,W.mg_of X G gCP,W.mg_of X G gCG,nGwalk,nGnumbers,nGtaken,nGbegun,nGloaded,nGgiven,nGwaiting,nGtrace,nGfault,nProws,nPmakers,Z1 a22 i22 l22 c22 k22,Z1 a23 i23 l23 c23 k23,Z1 a24 i24 l24 c24 k24,Z1 a25 i25 l25 c25 k25,Z1 a26 i26 l26 c26 k26,Z1 a27 i27 l27 c27 k27,Z1 a28 i28 l28 c28 k28,Z1 a29 i29 l29 c29 k29,Z1 a30 i30 l30 c30 k30,Z1 a31 i31 l31 c31 k31,Z1 a32 i32 l32 c32 k32,Z1 a33 i33 l33 c33 k33,Z1 a34 i34 l34 c34 k34,Z1 a35 i35 l35 c35 k35,Z1 a36 i36 l36 c36 k36,Z1 a37 i37 l37 c37 k37,Z1 a38 i38 l38 c38 k38,a9r mkCP a44 i44 kcCP l44 c44 k44,a9r mkCG a45 i45 kcCG l45 c45 k45⟩
 have T:Tw K mg CP CG CW:=⟨T1,⟨pgCW,hdCW,poCW,saCW⟩,W.mg_of X G gCW,⟨mkCW,ow_ini,kcCW⟩,⟨ow_pg,hdCP,ow_ha,ow_hn,ow_ht,ow_hm⟩,ow_is,Z1 a39 i39 l39 c39 k39,Z1 a40 i40 l40 c40 k40,Z1 a41 i41 l41 c41 k41,Z1 a42 i42 l42 c42 k42,Z1 a43 i43 l43 c43 k43⟩
 exact⟨_,fun s v=> .of_eq rfl,fun base _ _=>b4k (a6A (st:=a5W) l21 c21 k21) T⟩
theorem walk{l:W.OpenLaw}{q:Program}{loose:List Str}{XP:(Str->Option Value)->Heap->Prop}{YP:World->Heap->Prop}{d:DefRec}{K:Params->W.Frag}(hn:l.most=some 63)(hdf:d.params.defaults=[])
  (hY:∀(w:World)(h:Heap),YP w h->(K w.params).In h)
  (F:∀(w:World)(mg:Str->Option Value)(fa:Addr)(h:Heap),(K w.params).In h->h.Ns mainGlobals mg->mg d.name=some (.ref fa)->
   ∃fd:FuncData,(∀(s:Shared)(u:Value),BindsTo s fd ⟨[u],[]⟩ [("_law_script",u)])/\∀base:Heap,(K w.params).In base->base.Ns mainGlobals mg->a2B l.prog w (K w.params) mg base CX0 12 fa fd ["_law_script"] (a8N (K w.params))):
  W.WalkO q loose XP YP l.row.toRowW d [] (fun f vs=>PySem.call f vs):=
 L2.b2j (n:=63) (k:=12) (x:="_law_script") (CX:=fun _=>CX0) (sp:=fun w=>a8N (K w.params)) hn (by decide) hdf ⟨rfl,by decide,by decide⟩ hY F (fun _ _ a ns hl _ hS=>⟨a,ns,rfl,hS,hl,fun _=>rfl⟩) fun _ _ _ _ _ z=>z
end K26
open PySem PySem.W PyProof.Rows
set_option maxRecDepth 100000 in
set_option maxHeartbeats 0 in
theorem PySem.Challenge.cw_bundlehouse_k26_walks_holds : PySem.Challenge.rw_bundlehouse_k26_walks.Holds := by
 w_on
 refine HD.b2U (l:=PySem.Challenge.rw_bundlehouse_k26_walks) (q:=HD.b3r PySem.Challenge.rw_bundlehouse_k26_walks.prog [28]) (K:=K26.a6k) (as:=K26.a6f) (N:=4168) K26.b1T K26.b3C K26.b2J (by rfl) (by rfl) (by rfl) (by rfl) (by decide +kernel) ⟨rfl,rfl,rfl,rfl,rfl,by decide +kernel⟩ ?hw ?hc
 (case hw=>w_witness2)
 k_fill
 refine K26.walk (l:=PySem.Challenge.rw_bundlehouse_k26_walks) rfl rfl (fun w h Y=>W.kIn_of Y) ?F
 case F=>
  intro w mg fa h KX G hmg
  refine' K26.b4j KX G hmg ?a0 ?l0 ?c0 ?k0 ?a1 ?l1 ?c1 ?k1 ?a2 ?l2 ?c2 ?k2 ?a3 ?l3 ?c3 ?k3 ?a4 ?l4 ?c4 ?k4 ?a5 ?l5 ?c5 ?k5 ?a6 ?l6 ?c6 ?k6 ?a7 ?l7 ?c7 ?k7 ?a8 ?l8 ?c8 ?k8 ?a9 ?l9 ?c9 ?k9 ?a10 ?l10 ?c10 ?k10 ?a11 ?l11 ?c11 ?k11 ?a12 ?l12 ?c12 ?k12 ?a13 ?l13 ?c13 ?k13 ?a14 ?l14 ?c14 ?k14 ?a15 ?l15 ?c15 ?k15 ?a16 ?l16 ?c16 ?k16 ?a17 ?l17 ?c17 ?k17 ?a18 ?l18 ?c18 ?k18 ?a19 ?l19 ?c19 ?k19 ?a20 ?l20 ?c20 ?k20 ?a21 ?l21 ?c21 ?k21 ?a22 ?i22 ?l22 ?c22 ?k22 ?a23 ?i23 ?l23 ?c23 ?k23 ?a24 ?i24 ?l24 ?c24 ?k24 ?a25 ?i25 ?l25 ?c25 ?k25 ?a26 ?i26 ?l26 ?c26 ?k26 ?a27 ?i27 ?l27 ?c27 ?k27 ?a28 ?i28 ?l28 ?c28 ?k28 ?a29 ?i29 ?l29 ?c29 ?k29 ?a30 ?i30 ?l30 ?c30 ?k30 ?a31 ?i31 ?l31 ?c31 ?k31 ?a32 ?i32 ?l32 ?c32 ?k32 ?a33 ?i33 ?l33 ?c33 ?k33 ?a34 ?i34 ?l34 ?c34 ?k34 ?a35 ?i35 ?l35 ?c35 ?k35 ?a36 ?i36 ?l36 ?c36 ?k36 ?a37 ?i37 ?l37 ?c37 ?k37 ?a38 ?i38 ?l38 ?c38 ?k38 ?a39 ?i39 ?l39 ?c39 ?k39 ?a40 ?i40 ?l40 ?c40 ?k40 ?a41 ?i41 ?l41 ?c41 ?k41 ?a42 ?i42 ?l42 ?c42 ?k42 ?a43 ?i43 ?l43 ?c43 ?k43 ?a44 ?i44 ?l44 ?c44 ?k44 ?a45 ?i45 ?l45 ?c45 ?k45 ?gCP ?pgCP ?hdCP ?poCP ?saCP ?mkCP ?kcCP ?gCG ?pgCG ?hdCG ?poCG ?saCG ?mkCG ?kcCG ?gCW ?pgCW ?hdCW ?poCW ?saCW ?mkCW ?kcCW ?nGwalk ?nGnumbers ?nGtaken ?nGbegun ?nGloaded ?nGgiven ?nGwaiting ?nGtrace ?nGfault ?nProws ?nPmakers ?z0 ?z1 ?z2 ?z3 ?z4 ?z5 ?z6 ?z7 ?z8 ?z9 ?z10 ?ow_pg ?ow_ha ?ow_hn ?ow_ht ?ow_hm ?ow_is ?ow_ini
  (case gCP=>k_is)
  (case gCG=>k_is)
  (case gCW=>k_is)
  (case a0=>k_is)
  (case l0=>k_is)
  (case c0=>k_is)
  (case k0=>k_is)
  (case a1=>k_is)
  (case l1=>k_is)
  (case c1=>k_is)
  (case k1=>k_is)
  (case a2=>k_is)
  (case l2=>k_is)
  (case c2=>k_is)
  (case k2=>k_is)
  (case a3=>k_is)
  (case l3=>k_is)
  (case c3=>k_is)
  (case k3=>k_is)
  (case a4=>k_is)
  (case l4=>k_is)
  (case c4=>k_is)
  (case k4=>k_is)
  (case a5=>k_is)
  (case l5=>k_is)
  (case c5=>k_is)
  (case k5=>k_is)
  (case a6=>k_is)
  (case l6=>k_is)
  (case c6=>k_is)
  (case k6=>k_is)
  (case a7=>k_is)
  (case l7=>k_is)
  (case c7=>k_is)
  (case k7=>k_is)
  (case a8=>k_is)
  (case l8=>k_is)
  (case c8=>k_is)
  (case k8=>k_is)
  (case a9=>k_is)
  (case l9=>k_is)
  (case c9=>k_is)
  (case k9=>k_is)
  (case a10=>k_is)
  (case l10=>k_is)
  (case c10=>k_is)
  (case k10=>k_is)
  (case a11=>k_is)
  (case l11=>k_is)
  (case c11=>k_is)
  (case k11=>k_is)
  (case a12=>k_is)
  (case l12=>k_is)
  (case c12=>k_is)
  (case k12=>k_is)
  (case a13=>k_is)
  (case l13=>k_is)
  (case c13=>k_is)
  (case k13=>k_is)
  (case a14=>k_is)
  (case l14=>k_is)
  (case c14=>k_is)
  (case k14=>k_is)
  (case a15=>k_is)
  (case l15=>k_is)
  (case c15=>k_is)
  (case k15=>k_is)
  (case a16=>k_is)
  (case l16=>k_is)
  (case c16=>k_is)
  (case k16=>k_is)
  (case a17=>k_is)
  (case l17=>k_is)
  (case c17=>k_is)
  (case k17=>k_is)
  (case a18=>k_is)
  (case l18=>k_is)
  (case c18=>k_is)
  (case k18=>k_is)
  (case a19=>k_is)
  (case l19=>k_is)
  (case c19=>k_is)
  (case k19=>k_is)
  (case a20=>k_is)
  (case l20=>k_is)
  (case c20=>k_is)
  (case k20=>k_is)
  (case a21=>k_is)
  (case l21=>k_is)
  (case c21=>k_is)
  (case k21=>k_is)
  (case a22=>k_is)
  (case i22=>k_is)
  (case l22=>k_is)
  (case c22=>k_is)
  (case k22=>k_is)
  (case a23=>k_is)
  (case i23=>k_is)
  (case l23=>k_is)
  (case c23=>k_is)
  (case k23=>k_is)
  (case a24=>k_is)
  (case i24=>k_is)
  (case l24=>k_is)
  (case c24=>k_is)
  (case k24=>k_is)
  (case a25=>k_is)
  (case i25=>k_is)
  (case l25=>k_is)
  (case c25=>k_is)
  (case k25=>k_is)
  (case a26=>k_is)
  (case i26=>k_is)
  (case l26=>k_is)
  (case c26=>k_is)
  (case k26=>k_is)
  (case a27=>k_is)
  (case i27=>k_is)
  (case l27=>k_is)
  (case c27=>k_is)
  (case k27=>k_is)
  (case a28=>k_is)
  (case i28=>k_is)
  (case l28=>k_is)
  (case c28=>k_is)
  (case k28=>k_is)
  (case a29=>k_is)
  (case i29=>k_is)
  (case l29=>k_is)
  (case c29=>k_is)
  (case k29=>k_is)
  (case a30=>k_is)
  (case i30=>k_is)
  (case l30=>k_is)
  (case c30=>k_is)
  (case k30=>k_is)
  (case a31=>k_is)
  (case i31=>k_is)
  (case l31=>k_is)
  (case c31=>k_is)
  (case k31=>k_is)
  (case a32=>k_is)
  (case i32=>k_is)
  (case l32=>k_is)
  (case c32=>k_is)
  (case k32=>k_is)
  (case a33=>k_is)
  (case i33=>k_is)
  (case l33=>k_is)
  (case c33=>k_is)
  (case k33=>k_is)
  (case a34=>k_is)
  (case i34=>k_is)
  (case l34=>k_is)
  (case c34=>k_is)
  (case k34=>k_is)
  (case a35=>k_is)
  (case i35=>k_is)
  (case l35=>k_is)
  (case c35=>k_is)
  (case k35=>k_is)
  (case a36=>k_is)
  (case i36=>k_is)
  (case l36=>k_is)
  (case c36=>k_is)
  (case k36=>k_is)
  (case a37=>k_is)
  (case i37=>k_is)
  (case l37=>k_is)
  (case c37=>k_is)
  (case k37=>k_is)
  (case a38=>k_is)
  (case i38=>k_is)
  (case l38=>k_is)
  (case c38=>k_is)
  (case k38=>k_is)
  (case a39=>k_is)
  (case i39=>k_is)
  (case l39=>k_is)
  (case c39=>k_is)
  (case k39=>k_is)
  (case a40=>k_is)
  (case i40=>k_is)
  (case l40=>k_is)
  (case c40=>k_is)
  (case k40=>k_is)
  (case a41=>k_is)
  (case i41=>k_is)
  (case l41=>k_is)
  (case c41=>k_is)
  (case k41=>k_is)
  (case a42=>k_is)
  (case i42=>k_is)
  (case l42=>k_is)
  (case c42=>k_is)
  (case k42=>k_is)
  (case a43=>k_is)
  (case i43=>k_is)
  (case l43=>k_is)
  (case c43=>k_is)
  (case k43=>k_is)
  (case a44=>k_is)
  (case i44=>k_is)
  (case l44=>k_is)
  (case c44=>k_is)
  (case k44=>k_is)
  (case a45=>k_is)
  (case i45=>k_is)
  (case l45=>k_is)
  (case c45=>k_is)
  (case k45=>k_is)
  (case pgCP=>k_is)
  (case hdCP=>k_is)
  (case poCP=>k_is)
  (case saCP=>k_is)
  (case mkCP=>k_is)
  (case kcCP=>k_is)
  (case pgCG=>k_is)
  (case hdCG=>k_is)
  (case poCG=>k_is)
  (case saCG=>k_is)
  (case mkCG=>k_is)
  (case kcCG=>k_is)
  (case pgCW=>k_is)
  (case hdCW=>k_is)
  (case poCW=>k_is)
  (case saCW=>k_is)
  (case mkCW=>k_is)
  (case kcCW=>k_is)
  (case nGwalk=>k_is)
  (case nGnumbers=>k_is)
  (case nGtaken=>k_is)
  (case nGbegun=>k_is)
  (case nGloaded=>k_is)
  (case nGgiven=>k_is)
  (case nGwaiting=>k_is)
  (case nGtrace=>k_is)
  (case nGfault=>k_is)
  (case nProws=>k_is)
  (case nPmakers=>k_is)
  (case z0=>k_is)
  (case z1=>k_is)
  (case z2=>k_is)
  (case z3=>k_is)
  (case z4=>k_is)
  (case z5=>k_is)
  (case z6=>k_is)
  (case z7=>k_is)
  (case z8=>k_is)
  (case z9=>k_is)
  (case z10=>k_is)
  (case ow_pg=>k_is)
  (case ow_ha=>k_is)
  (case ow_hn=>k_is)
  (case ow_ht=>k_is)
  (case ow_hm=>k_is)
  (case ow_is=>kit_is)
  (case ow_ini=>k_is)