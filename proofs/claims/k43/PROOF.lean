import PyProof.Rows.All
import Wide.All
import OpenK.AllK
import Wide.FinOn
import Lean
import PyProof.EqAt
import PyProof.EqKinds
import PyProof.TupleCall
import PySem.Challenge.RW_bundlehouse_k43_flat_rows
set_option Elab.async false
set_option linter.all false
set_option maxRecDepth 100000
theorem a0E:0<=PySem.sizeLine:=by decide
theorem b1I:1<=PySem.sizeLine:=by decide
theorem Z9:2<=PySem.sizeLine:=by decide
theorem a0n:3<=PySem.sizeLine:=by decide
namespace HD
open PySem PySem.W
noncomputable abbrev a1f (p:Program) (ks:List Nat):Program:=
 {p with main:={p.main with body:=ks.filterMap fun i=>p.main.body[i]?}}
noncomputable abbrev en (P:Params) (x:Str) (t:Tok) (v:Value):DictEntry:=⟨PyData.keyHash P x,.str x t,v⟩
noncomputable abbrev tp (p:Program) (i:Nat):Stmt:=p.main.body.getD i (.Pass ⟨0,0,0,0⟩)
noncomputable def dA (s:Stmt):Arguments:=match s with
 | .FunctionDef _ a _ _ _ _ _ _ _ _=>a
 | _=>⟨[],[],none,[],[],none,[]⟩
noncomputable def dB (s:Stmt):List Stmt:=match s with
 | .FunctionDef _ _ b _ _ _ _ _ _ _=>b
 | _=> []
noncomputable def dS (s:Stmt):Scope:=match s with
 | .FunctionDef _ _ _ _ _ _ c _ _ _=>c
 | _=>default
theorem b3i{p q:Program}{Xt:Shared->Bool}{α:Type}{Yf:Shared->α}{Ya:World->α}{N:Nat}
  (h1:∀w,((openEnds treeTable p w N).map fun s=>(openSeen q [] (importedModules p.main.body) Xt true s).1)=some (openGood q []).1)
  (h2:∀w,((openEnds treeTable p w N).map fun s=>((openSeen q [] (importedModules p.main.body) Xt true s).2.1,(openSeen q [] (importedModules p.main.body) Xt true s).2.2.1))=some ((openGood q []).2.1,(openGood q []).2.2.1))
  (h3:∀w,((openEnds treeTable p w N).map fun s=>(openSeen q [] (importedModules p.main.body) Xt true s).2.2.2)=some (openGood q []).2.2.2)
  (h4:∀w,(openEnds treeTable p w N).map Yf=some (Ya w)):LeftO p q [] Xt Yf Ya N:=by
 intro w
 have a1:=h1 w
 have a2:=h2 w
 have a3:=h3 w
 have a4:=h4 w
 generalize openEnds treeTable p w N=r at a1 a2 a3 a4⊢
 cases r with
 | none=>cases a4
 | some s=>
  have b1:=Option.some.inj a1
  have b2:=Prod.mk.inj (Option.some.inj a2)
  have b3:=Option.some.inj a3
  have b4:=Option.some.inj a4
  have e:openSeen q [] (importedModules p.main.body) Xt true s=openGood q []:=Prod.ext b1 (Prod.ext b2.1 (Prod.ext b2.2 b3))
  show some (openSeen q [] (importedModules p.main.body) Xt true s,Yf s)=some (openGood q [],Ya w)
  rw[e,b4]
theorem b3p{l:OpenLaw}{q:Program}{K:Params->Frag}{as:List Addr}{N:Nat}{d:DefRec}{kwd:List (Str×Expr)}
  (e:∀P,as=(K P).map (·.1))(b5b:l.wellSaid=true)
  (hl:LeftO l.row.prog q [] (fun s=>xlAt q [] s && recOk (RowW.records l.row.toRowW) s) (kHook K as e).obs (kHook K as e).val N)
  (h1:defOf q l.row.name=some (d,kwd))(h2:l.row.prog.theDef l.row.name=some (d.params,d.body,d.scope))
  (h3:kwWritten? d.params.kwonlyargs d.params.kw_defaults=some kwd)(h4:(!l.row.writes || l.row.records.isEmpty)=true)
  (h5:(chainsOk q && opensWell l.row.prog && (frees l.row.toRowW && l.row.within.isEmpty))=true)
  (h6:l.row.prog.bare)(h7:l.row.toRowW.promised)
  (go:WalkO q [] (XL q []) (kHook K as e).says l.row.toRowW d kwd fun f vs=>PySem.call f vs):l.Holds:=by
 refine holds_law b5b fun sd=>?_
 refine holds_open (XP:=XL q []) (YP:=(kHook K as e).says) hl (kHook K as e).of (kHook K as e).keeps ?_ XL.keeps h1 h2 h3 ?_ h4 sd h5 h6 h7 go
 ·intro s x
  exact xl_of s (Bool.and_eq_true_iff.mp x).1
 ·intro s x
  exact recFacts_of (Bool.and_eq_true_iff.mp x).2
end HD
namespace K43
open PySem PySem.W
theorem a2V{α:Type}{us:List α}(h:us.length=1):∃a,us=[a]:=by
 match us,h with
 | [a],_=>exact⟨a,rfl⟩
theorem a3F{α:Type}{us:List α}(h:us.length=2):∃a b,us=[a,b]:=by
 match us,h with
 | [a,b],_=>exact⟨a,b,rfl⟩
theorem a6E{α:Type}{us:List α}(h:us.length=3):∃a b c,us=[a,b,c]:=by
 match us,h with
 | [a,b,c],_=>exact⟨a,b,c,rfl⟩
theorem b5p{α:Type}{us:List α}(h:us.length=4):∃a b c d,us=[a,b,c,d]:=by
 match us,h with
 | [a,b,c,d],_=>exact⟨a,b,c,d,rfl⟩
set_option maxHeartbeats 0
noncomputable def a6l (P:Params):PySem.W.Frag:=
 (nat_lit 2,{cls:= .none,data:= .dict #[]})::
 (nat_lit 3,{cls:= .type "dict",data:= .dict #[HD.en P "__name__" 165 (.str "law_bundlehouse_k43_flat_rows" 456),HD.en P "__doc__" 166 (.none),HD.en P "__package__" 167 (.none),HD.en P "__loader__" 168 (.builtin "__main__.__loader__#opaque"),HD.en P "__spec__" 169 (.none),HD.en P "__annotations__" 170 (.ref 6),HD.en P "__builtins__" 171 (.ref 4),HD.en P "__file__" 173 (.str "/claim/cut.py" 172),HD.en P "__cached__" 174 (.none),HD.en P "BundleError" 206 (.ref 24),HD.en P "RefusedAt" 233 (.ref 44),HD.en P "Asks" 249 (.ref 56),HD.en P "placed_rows" 263 (.ref 65),HD.en P "given_owns" 274 (.ref 72),HD.en P "links" 288 (.ref 79),HD.en P "makers" 301 (.ref 86),HD.en P "made" 312 (.ref 93),HD.en P "brings" 320 (.ref 100),HD.en P "named_parts" 331 (.ref 107),HD.en P "order" 342 (.ref 114),HD.en P "new_names" 357 (.ref 121),HD.en P "numbered" 366 (.ref 128),HD.en P "makers_names" 381 (.ref 135),HD.en P "renamed_row" 391 (.ref 142),HD.en P "renamed_sum" 397 (.ref 147),HD.en P "renamed_thing" 406 (.ref 154),HD.en P "renamed_when" 415 (.ref 161),HD.en P "flat" 423 (.ref 166),HD.en P "refuse_asks" 435 (.ref 173),HD.en P "work_in_order" 449 (.ref 180),HD.en P "last_first" 455 (.ref 185),HD.en P "_law_cell_at" 465 (.ref 192),HD.en P "_law_stream" 476 (.ref 199),HD.en P "_law_name" 489 (.ref 206),HD.en P "_law_pool" 497 (.ref 213),HD.en P "_law_begun" 508 (.ref 220),HD.en P "_law_fresh" 517 (.ref 227),HD.en P "_law_pairs" 533 (.ref 234),HD.en P "_law_added" 549 (.ref 241),HD.en P "_law_sum" 561 (.ref 248),HD.en P "_law_row" 575 (.ref 255),HD.en P "_law_owned" 581 (.ref 260),HD.en P "_law_finished" 587 (.ref 265),HD.en P "_law_pools" 597 (.ref 272),HD.en P "_law_parts" 607 (.ref 279),HD.en P "_law_made" 618 (.ref 286),HD.en P "_law_makers" 635 (.ref 293),HD.en P "_law_news" 641 (.ref 298),HD.en P "_law_quieted" 647 (.ref 303),HD.en P "_law_laid" 663 (.ref 310),HD.en P "_law_changed" 676 (.ref 317),HD.en P "_law_is_origin" 684 (.ref 324),HD.en P "_law_right" 699 (.ref 331),HD.en P "law" 713 (.ref 338)] 54})::
 (nat_lit 15,{cls:= .type "tuple",data:= .seq #[.type "ValueError"]})::
 (nat_lit 22,{cls:= .type "tuple",data:= .seq #[]})::
 (nat_lit 23,{cls:= .type "dict",data:= .dict #[HD.en P "__module__" 196 (.str "bundlehouse.errors" 187),HD.en P "__firstlineno__" 200 (.int 2 199),HD.en P "__static_attributes__" 201 (.ref 22),HD.en P "__weakref__" 203 (.ref 25),HD.en P "__doc__" 204 (.none)] 3})::
 (nat_lit 24,{cls:= .type "type",data:= .cls {name:="BundleError",bases:=[.type "ValueError"],mro:=[.ref 24,.type "ValueError",.type "Exception",.type "BaseException",.type "object"],ns:=23,qualname:="BundleError",subclasses:=[.ref 44]},slots:= #[some (.ref 15),none,some (.str "BundleError" 189),some (.str "BundleError" 197),some (.builtin "ValueError.__new__"),some (.bool true)]})::
 (nat_lit 25,{cls:= .type "getset_descriptor",data:= .fields #[.str "__weakref__" 202,.ref 24,.builtin "ExceptionGroup.__weakref__",.none]})::
 (nat_lit 28,{cls:= .type "tuple",data:= .seq #[.ref 24]})::
 (nat_lit 35,{cls:= .type "tuple",data:= .seq #[]})::
 (nat_lit 37,{cls:= .type "tuple",data:= .seq #[.str "self" 222,.str "part" 223,.str "row" 224]})::
 (nat_lit 38,{cls:= .type "tuple",data:= .seq #[]})::
 (nat_lit 40,{cls:= .type "code",data:= .fields #[.str "__init__" 219,.str "RefusedAt.__init__" 220,.str "/claim/cut.py" 221,.int 6 0,.int 3 0,.int 0 0,.int 0 0,.int 3 0,.ref 35,.bool true,.int 181 0,.ref 36,.none,.ref 37,.ref 38,.ref 39,.int 225 0,.int 6 0,.str "/claim/cut.py" 226]})::
 (nat_lit 42,{cls:= .type "tuple",data:= .seq #[.str "part" 228,.str "row" 229]})::
 (nat_lit 43,{cls:= .type "dict",data:= .dict #[HD.en P "__module__" 214 (.str "bundlehouse.errors" 187),HD.en P "__firstlineno__" 218 (.int 4 217),HD.en P "__init__" 227 (.ref 41),HD.en P "__static_attributes__" 230 (.ref 42),HD.en P "__doc__" 231 (.none)] 2})::
 (nat_lit 44,{cls:= .type "type",data:= .cls {name:="RefusedAt",bases:=[.ref 24],mro:=[.ref 44,.ref 24,.type "ValueError",.type "Exception",.type "BaseException",.type "object"],ns:=43,qualname:="RefusedAt",subclasses:=[.ref 56]},slots:= #[some (.ref 28),none,some (.str "RefusedAt" 207),some (.str "RefusedAt" 215),some (.builtin "ValueError.__new__"),some (.bool true)]})::
 (nat_lit 47,{cls:= .type "tuple",data:= .seq #[.ref 44]})::
 (nat_lit 54,{cls:= .type "tuple",data:= .seq #[]})::
 (nat_lit 55,{cls:= .type "dict",data:= .dict #[HD.en P "__module__" 241 (.str "bundlehouse.errors" 187),HD.en P "__firstlineno__" 245 (.int 10 244),HD.en P "__static_attributes__" 246 (.ref 54),HD.en P "__doc__" 247 (.none)] 2})::
 (nat_lit 56,{cls:= .type "type",data:= .cls {name:="Asks",bases:=[.ref 44],mro:=[.ref 56,.ref 44,.ref 24,.type "ValueError",.type "Exception",.type "BaseException",.type "object"],ns:=55,qualname:="Asks"},slots:= #[some (.ref 47),none,some (.str "Asks" 234),some (.str "Asks" 242),some (.builtin "ValueError.__new__"),some (.bool true)]})::
 (nat_lit 59,{cls:= .type "tuple",data:= .seq #[]})::
 (nat_lit 61,{cls:= .type "tuple",data:= .seq #[.str "parts" 255,.str "found" 256,.str "part" 257,.str "rows" 258,.str "number" 259,.str "row" 260]})::
 (nat_lit 62,{cls:= .type "tuple",data:= .seq #[]})::
 (nat_lit 64,{cls:= .type "code",data:= .fields #[.str "placed_rows" 252,.str "placed_rows" 253,.str "/claim/cut.py" 254,.int 13 0,.int 1 0,.int 0 0,.int 0 0,.int 3 0,.ref 59,.bool true,.int 181 0,.ref 60,.none,.ref 61,.ref 62,.ref 63,.int 261 0,.int 13 0,.str "/claim/cut.py" 262]})::
 (nat_lit 65,⟨.type "function",none,.func (PySem.W.fnOf "placed_rows" "placed_rows" (HD.dA (HD.tp PySem.Challenge.pw_bundlehouse_k43_flat_rows 5)) (HD.dB (HD.tp PySem.Challenge.pw_bundlehouse_k43_flat_rows 5)) (HD.dS (HD.tp PySem.Challenge.pw_bundlehouse_k43_flat_rows 5)) (.none) (.none) (.none) (.str "bundlehouse.net" 250) (none) (.ref 64) (.none)), #[]⟩)::
 (nat_lit 66,{cls:= .type "tuple",data:= .seq #[]})::
 (nat_lit 68,{cls:= .type "tuple",data:= .seq #[.str "parts" 267,.str "owns" 268,.str "part" 269,.str "number" 270,.str "row" 271]})::
 (nat_lit 69,{cls:= .type "tuple",data:= .seq #[]})::
 (nat_lit 71,{cls:= .type "code",data:= .fields #[.str "given_owns" 264,.str "given_owns" 265,.str "/claim/cut.py" 266,.int 19 0,.int 1 0,.int 0 0,.int 0 0,.int 3 0,.ref 66,.bool true,.int 181 0,.ref 67,.none,.ref 68,.ref 69,.ref 70,.int 272 0,.int 19 0,.str "/claim/cut.py" 273]})::
 (nat_lit 72,⟨.type "function",none,.func (PySem.W.fnOf "given_owns" "given_owns" (HD.dA (HD.tp PySem.Challenge.pw_bundlehouse_k43_flat_rows 6)) (HD.dB (HD.tp PySem.Challenge.pw_bundlehouse_k43_flat_rows 6)) (HD.dS (HD.tp PySem.Challenge.pw_bundlehouse_k43_flat_rows 6)) (.none) (.none) (.none) (.str "bundlehouse.net" 250) (none) (.ref 71) (.none)), #[]⟩)::
 (nat_lit 73,{cls:= .type "tuple",data:= .seq #[]})::
 (nat_lit 75,{cls:= .type "tuple",data:= .seq #[.str "parts" 278,.str "owns" 279,.str "onward" 280,.str "part" 281,.str "number" 282,.str "row" 283,.str "given" 284,.str "own" 285]})::
 (nat_lit 76,{cls:= .type "tuple",data:= .seq #[]})::
 (nat_lit 78,{cls:= .type "code",data:= .fields #[.str "links" 275,.str "links" 276,.str "/claim/cut.py" 277,.int 25 0,.int 1 0,.int 0 0,.int 0 0,.int 3 0,.ref 73,.bool true,.int 181 0,.ref 74,.none,.ref 75,.ref 76,.ref 77,.int 286 0,.int 25 0,.str "/claim/cut.py" 287]})::
 (nat_lit 79,⟨.type "function",none,.func (PySem.W.fnOf "links" "links" (HD.dA (HD.tp PySem.Challenge.pw_bundlehouse_k43_flat_rows 7)) (HD.dB (HD.tp PySem.Challenge.pw_bundlehouse_k43_flat_rows 7)) (HD.dS (HD.tp PySem.Challenge.pw_bundlehouse_k43_flat_rows 7)) (.none) (.none) (.none) (.str "bundlehouse.net" 250) (none) (.ref 78) (.none)), #[]⟩)::
 (nat_lit 80,{cls:= .type "tuple",data:= .seq #[]})::
 (nat_lit 82,{cls:= .type "tuple",data:= .seq #[.str "parts" 292,.str "found" 293,.str "onward" 294,.str "start" 295,.str "way" 296,.str "here" 297,.str "name" 298]})::
 (nat_lit 83,{cls:= .type "tuple",data:= .seq #[]})::
 (nat_lit 85,{cls:= .type "code",data:= .fields #[.str "makers" 289,.str "makers" 290,.str "/claim/cut.py" 291,.int 33 0,.int 1 0,.int 0 0,.int 0 0,.int 3 0,.ref 80,.bool true,.int 181 0,.ref 81,.none,.ref 82,.ref 83,.ref 84,.int 299 0,.int 33 0,.str "/claim/cut.py" 300]})::
 (nat_lit 86,⟨.type "function",none,.func (PySem.W.fnOf "makers" "makers" (HD.dA (HD.tp PySem.Challenge.pw_bundlehouse_k43_flat_rows 8)) (HD.dB (HD.tp PySem.Challenge.pw_bundlehouse_k43_flat_rows 8)) (HD.dS (HD.tp PySem.Challenge.pw_bundlehouse_k43_flat_rows 8)) (.none) (.none) (.none) (.str "bundlehouse.net" 250) (none) (.ref 85) (.none)), #[]⟩)::
 (nat_lit 87,{cls:= .type "tuple",data:= .seq #[]})::
 (nat_lit 89,{cls:= .type "tuple",data:= .seq #[.str "parts" 305,.str "found" 306,.str "part" 307,.str "number" 308,.str "row" 309]})::
 (nat_lit 90,{cls:= .type "tuple",data:= .seq #[]})::
 (nat_lit 92,{cls:= .type "code",data:= .fields #[.str "made" 302,.str "made" 303,.str "/claim/cut.py" 304,.int 45 0,.int 1 0,.int 0 0,.int 0 0,.int 3 0,.ref 87,.bool true,.int 181 0,.ref 88,.none,.ref 89,.ref 90,.ref 91,.int 310 0,.int 45 0,.str "/claim/cut.py" 311]})::
 (nat_lit 93,⟨.type "function",none,.func (PySem.W.fnOf "made" "made" (HD.dA (HD.tp PySem.Challenge.pw_bundlehouse_k43_flat_rows 9)) (HD.dB (HD.tp PySem.Challenge.pw_bundlehouse_k43_flat_rows 9)) (HD.dS (HD.tp PySem.Challenge.pw_bundlehouse_k43_flat_rows 9)) (.none) (.none) (.none) (.str "bundlehouse.net" 250) (none) (.ref 92) (.none)), #[]⟩)::
 (nat_lit 94,{cls:= .type "tuple",data:= .seq #[]})::
 (nat_lit 96,{cls:= .type "tuple",data:= .seq #[.str "parts" 316,.str "part" 317]})::
 (nat_lit 97,{cls:= .type "tuple",data:= .seq #[]})::
 (nat_lit 99,{cls:= .type "code",data:= .fields #[.str "brings" 313,.str "brings" 314,.str "/claim/cut.py" 315,.int 51 0,.int 2 0,.int 0 0,.int 0 0,.int 3 0,.ref 94,.bool true,.int 181 0,.ref 95,.none,.ref 96,.ref 97,.ref 98,.int 318 0,.int 51 0,.str "/claim/cut.py" 319]})::
 (nat_lit 100,⟨.type "function",none,.func (PySem.W.fnOf "brings" "brings" (HD.dA (HD.tp PySem.Challenge.pw_bundlehouse_k43_flat_rows 10)) (HD.dB (HD.tp PySem.Challenge.pw_bundlehouse_k43_flat_rows 10)) (HD.dS (HD.tp PySem.Challenge.pw_bundlehouse_k43_flat_rows 10)) (.none) (.none) (.none) (.str "bundlehouse.net" 250) (none) (.ref 99) (.none)), #[]⟩)::
 (nat_lit 101,{cls:= .type "tuple",data:= .seq #[]})::
 (nat_lit 103,{cls:= .type "tuple",data:= .seq #[.str "parts" 324,.str "part" 325,.str "kind" 326,.str "found" 327,.str "row" 328]})::
 (nat_lit 104,{cls:= .type "tuple",data:= .seq #[]})::
 (nat_lit 106,{cls:= .type "code",data:= .fields #[.str "named_parts" 321,.str "named_parts" 322,.str "/claim/cut.py" 323,.int 53 0,.int 3 0,.int 0 0,.int 0 0,.int 3 0,.ref 101,.bool true,.int 181 0,.ref 102,.none,.ref 103,.ref 104,.ref 105,.int 329 0,.int 53 0,.str "/claim/cut.py" 330]})::
 (nat_lit 107,⟨.type "function",none,.func (PySem.W.fnOf "named_parts" "named_parts" (HD.dA (HD.tp PySem.Challenge.pw_bundlehouse_k43_flat_rows 11)) (HD.dB (HD.tp PySem.Challenge.pw_bundlehouse_k43_flat_rows 11)) (HD.dS (HD.tp PySem.Challenge.pw_bundlehouse_k43_flat_rows 11)) (.none) (.none) (.none) (.str "bundlehouse.net" 250) (none) (.ref 106) (.none)), #[]⟩)::
 (nat_lit 108,{cls:= .type "tuple",data:= .seq #[]})::
 (nat_lit 110,{cls:= .type "tuple",data:= .seq #[.str "parts" 335,.str "root" 336,.str "begun" 337,.str "waiting" 338,.str "part" 339]})::
 (nat_lit 111,{cls:= .type "tuple",data:= .seq #[]})::
 (nat_lit 113,{cls:= .type "code",data:= .fields #[.str "order" 332,.str "order" 333,.str "/claim/cut.py" 334,.int 59 0,.int 2 0,.int 0 0,.int 0 0,.int 3 0,.ref 108,.bool true,.int 181 0,.ref 109,.none,.ref 110,.ref 111,.ref 112,.int 340 0,.int 59 0,.str "/claim/cut.py" 341]})::
 (nat_lit 114,⟨.type "function",none,.func (PySem.W.fnOf "order" "order" (HD.dA (HD.tp PySem.Challenge.pw_bundlehouse_k43_flat_rows 12)) (HD.dB (HD.tp PySem.Challenge.pw_bundlehouse_k43_flat_rows 12)) (HD.dS (HD.tp PySem.Challenge.pw_bundlehouse_k43_flat_rows 12)) (.none) (.none) (.none) (.str "bundlehouse.net" 250) (none) (.ref 113) (.none)), #[]⟩)::
 (nat_lit 115,{cls:= .type "tuple",data:= .seq #[]})::
 (nat_lit 117,{cls:= .type "tuple",data:= .seq #[.str "parts" 348,.str "owns" 349,.str "used" 350,.str "part" 351,.str "own" 352,.str "found" 353,.str "new" 354]})::
 (nat_lit 118,{cls:= .type "tuple",data:= .seq #[]})::
 (nat_lit 120,{cls:= .type "code",data:= .fields #[.str "new_names" 345,.str "new_names" 346,.str "/claim/cut.py" 347,.int 69 0,.int 1 0,.int 0 0,.int 0 0,.int 3 0,.ref 115,.bool true,.int 181 0,.ref 116,.none,.ref 117,.ref 118,.ref 119,.int 355 0,.int 69 0,.str "/claim/cut.py" 356]})::
 (nat_lit 121,⟨.type "function",none,.func (PySem.W.fnOf "new_names" "new_names" (HD.dA (HD.tp PySem.Challenge.pw_bundlehouse_k43_flat_rows 14)) (HD.dB (HD.tp PySem.Challenge.pw_bundlehouse_k43_flat_rows 14)) (HD.dS (HD.tp PySem.Challenge.pw_bundlehouse_k43_flat_rows 14)) (.none) (.none) (.none) (.str "bundlehouse.names" 343) (none) (.ref 120) (.none)), #[]⟩)::
 (nat_lit 122,{cls:= .type "tuple",data:= .seq #[]})::
 (nat_lit 124,{cls:= .type "tuple",data:= .seq #[.str "own" 361,.str "used" 362,.str "number" 363]})::
 (nat_lit 125,{cls:= .type "tuple",data:= .seq #[]})::
 (nat_lit 127,{cls:= .type "code",data:= .fields #[.str "numbered" 358,.str "numbered" 359,.str "/claim/cut.py" 360,.int 80 0,.int 2 0,.int 0 0,.int 0 0,.int 3 0,.ref 122,.bool true,.int 181 0,.ref 123,.none,.ref 124,.ref 125,.ref 126,.int 364 0,.int 80 0,.str "/claim/cut.py" 365]})::
 (nat_lit 128,⟨.type "function",none,.func (PySem.W.fnOf "numbered" "numbered" (HD.dA (HD.tp PySem.Challenge.pw_bundlehouse_k43_flat_rows 15)) (HD.dB (HD.tp PySem.Challenge.pw_bundlehouse_k43_flat_rows 15)) (HD.dS (HD.tp PySem.Challenge.pw_bundlehouse_k43_flat_rows 15)) (.none) (.none) (.none) (.str "bundlehouse.names" 343) (none) (.ref 127) (.none)), #[]⟩)::
 (nat_lit 129,{cls:= .type "tuple",data:= .seq #[]})::
 (nat_lit 131,{cls:= .type "tuple",data:= .seq #[.str "parts" 370,.str "places" 371,.str "news" 372,.str "part" 373,.str "own" 374,.str "new" 375,.str "found" 376,.str "name" 377,.str "place" 378]})::
 (nat_lit 132,{cls:= .type "tuple",data:= .seq #[]})::
 (nat_lit 134,{cls:= .type "code",data:= .fields #[.str "makers_names" 367,.str "makers_names" 368,.str "/claim/cut.py" 369,.int 85 0,.int 1 0,.int 0 0,.int 0 0,.int 3 0,.ref 129,.bool true,.int 181 0,.ref 130,.none,.ref 131,.ref 132,.ref 133,.int 379 0,.int 85 0,.str "/claim/cut.py" 380]})::
 (nat_lit 135,⟨.type "function",none,.func (PySem.W.fnOf "makers_names" "makers_names" (HD.dA (HD.tp PySem.Challenge.pw_bundlehouse_k43_flat_rows 16)) (HD.dB (HD.tp PySem.Challenge.pw_bundlehouse_k43_flat_rows 16)) (HD.dS (HD.tp PySem.Challenge.pw_bundlehouse_k43_flat_rows 16)) (.none) (.none) (.none) (.str "bundlehouse.names" 343) (none) (.ref 134) (.none)), #[]⟩)::
 (nat_lit 136,{cls:= .type "tuple",data:= .seq #[]})::
 (nat_lit 138,{cls:= .type "tuple",data:= .seq #[.str "part" 385,.str "row" 386,.str "news" 387,.str "kind" 388]})::
 (nat_lit 139,{cls:= .type "tuple",data:= .seq #[]})::
 (nat_lit 141,{cls:= .type "code",data:= .fields #[.str "renamed_row" 382,.str "renamed_row" 383,.str "/claim/cut.py" 384,.int 94 0,.int 3 0,.int 0 0,.int 0 0,.int 3 0,.ref 136,.bool true,.int 181 0,.ref 137,.none,.ref 138,.ref 139,.ref 140,.int 389 0,.int 94 0,.str "/claim/cut.py" 390]})::
 (nat_lit 142,⟨.type "function",none,.func (PySem.W.fnOf "renamed_row" "renamed_row" (HD.dA (HD.tp PySem.Challenge.pw_bundlehouse_k43_flat_rows 17)) (HD.dB (HD.tp PySem.Challenge.pw_bundlehouse_k43_flat_rows 17)) (HD.dS (HD.tp PySem.Challenge.pw_bundlehouse_k43_flat_rows 17)) (.none) (.none) (.none) (.str "bundlehouse.names" 343) (none) (.ref 141) (.none)), #[]⟩)::
 (nat_lit 143,{cls:= .type "tuple",data:= .seq #[]})::
 (nat_lit 146,{cls:= .type "code",data:= .fields #[.str "renamed_sum" 392,.str "renamed_sum" 393,.str "/claim/cut.py" 394,.int 105 0,.int 3 0,.int 0 0,.int 0 0,.int 3 0,.ref 143,.bool true,.int 181 0,.ref 144,.none,.none,.none,.ref 145,.int 395 0,.int 105 0,.str "/claim/cut.py" 396]})::
 (nat_lit 147,⟨.type "function",none,.func (PySem.W.fnOf "renamed_sum" "renamed_sum" (HD.dA (HD.tp PySem.Challenge.pw_bundlehouse_k43_flat_rows 18)) (HD.dB (HD.tp PySem.Challenge.pw_bundlehouse_k43_flat_rows 18)) (HD.dS (HD.tp PySem.Challenge.pw_bundlehouse_k43_flat_rows 18)) (.none) (.none) (.none) (.str "bundlehouse.names" 343) (none) (.ref 146) (.none)), #[]⟩)::
 (nat_lit 148,{cls:= .type "tuple",data:= .seq #[]})::
 (nat_lit 150,{cls:= .type "tuple",data:= .seq #[.str "part" 401,.str "thing" 402,.str "news" 403]})::
 (nat_lit 151,{cls:= .type "tuple",data:= .seq #[]})::
 (nat_lit 153,{cls:= .type "code",data:= .fields #[.str "renamed_thing" 398,.str "renamed_thing" 399,.str "/claim/cut.py" 400,.int 107 0,.int 3 0,.int 0 0,.int 0 0,.int 3 0,.ref 148,.bool true,.int 181 0,.ref 149,.none,.ref 150,.ref 151,.ref 152,.int 404 0,.int 107 0,.str "/claim/cut.py" 405]})::
 (nat_lit 154,⟨.type "function",none,.func (PySem.W.fnOf "renamed_thing" "renamed_thing" (HD.dA (HD.tp PySem.Challenge.pw_bundlehouse_k43_flat_rows 19)) (HD.dB (HD.tp PySem.Challenge.pw_bundlehouse_k43_flat_rows 19)) (HD.dS (HD.tp PySem.Challenge.pw_bundlehouse_k43_flat_rows 19)) (.none) (.none) (.none) (.str "bundlehouse.names" 343) (none) (.ref 153) (.none)), #[]⟩)::
 (nat_lit 155,{cls:= .type "tuple",data:= .seq #[]})::
 (nat_lit 157,{cls:= .type "tuple",data:= .seq #[.str "part" 410,.str "when" 411,.str "news" 412]})::
 (nat_lit 158,{cls:= .type "tuple",data:= .seq #[]})::
 (nat_lit 160,{cls:= .type "code",data:= .fields #[.str "renamed_when" 407,.str "renamed_when" 408,.str "/claim/cut.py" 409,.int 111 0,.int 3 0,.int 0 0,.int 0 0,.int 3 0,.ref 155,.bool true,.int 181 0,.ref 156,.none,.ref 157,.ref 158,.ref 159,.int 413 0,.int 111 0,.str "/claim/cut.py" 414]})::
 (nat_lit 161,⟨.type "function",none,.func (PySem.W.fnOf "renamed_when" "renamed_when" (HD.dA (HD.tp PySem.Challenge.pw_bundlehouse_k43_flat_rows 20)) (HD.dB (HD.tp PySem.Challenge.pw_bundlehouse_k43_flat_rows 20)) (HD.dS (HD.tp PySem.Challenge.pw_bundlehouse_k43_flat_rows 20)) (.none) (.none) (.none) (.str "bundlehouse.names" 343) (none) (.ref 160) (.none)), #[]⟩)::
 (nat_lit 162,{cls:= .type "tuple",data:= .seq #[]})::
 (nat_lit 165,{cls:= .type "code",data:= .fields #[.str "flat" 418,.str "flat" 419,.str "/claim/cut.py" 420,.int 116 0,.int 2 0,.int 0 0,.int 0 0,.int 3 0,.ref 162,.bool true,.int 181 0,.ref 163,.none,.none,.none,.ref 164,.int 421 0,.int 116 0,.str "/claim/cut.py" 422]})::
 (nat_lit 166,⟨.type "function",none,.func (PySem.W.fnOf "flat" "flat" (HD.dA (HD.tp PySem.Challenge.pw_bundlehouse_k43_flat_rows 22)) (HD.dB (HD.tp PySem.Challenge.pw_bundlehouse_k43_flat_rows 22)) (HD.dS (HD.tp PySem.Challenge.pw_bundlehouse_k43_flat_rows 22)) (.none) (.none) (.none) (.str "bundlehouse.flat" 416) (none) (.ref 165) (.none)), #[]⟩)::
 (nat_lit 167,{cls:= .type "tuple",data:= .seq #[]})::
 (nat_lit 169,{cls:= .type "tuple",data:= .seq #[.str "parts" 427,.str "root" 428,.str "rows" 429,.str "part" 430,.str "number" 431,.str "row" 432]})::
 (nat_lit 170,{cls:= .type "tuple",data:= .seq #[]})::
 (nat_lit 172,{cls:= .type "code",data:= .fields #[.str "refuse_asks" 424,.str "refuse_asks" 425,.str "/claim/cut.py" 426,.int 123 0,.int 2 0,.int 0 0,.int 0 0,.int 3 0,.ref 167,.bool true,.int 181 0,.ref 168,.none,.ref 169,.ref 170,.ref 171,.int 433 0,.int 123 0,.str "/claim/cut.py" 434]})::
 (nat_lit 173,⟨.type "function",none,.func (PySem.W.fnOf "refuse_asks" "refuse_asks" (HD.dA (HD.tp PySem.Challenge.pw_bundlehouse_k43_flat_rows 23)) (HD.dB (HD.tp PySem.Challenge.pw_bundlehouse_k43_flat_rows 23)) (HD.dS (HD.tp PySem.Challenge.pw_bundlehouse_k43_flat_rows 23)) (.none) (.none) (.none) (.str "bundlehouse.flat" 416) (none) (.ref 172) (.none)), #[]⟩)::
 (nat_lit 174,{cls:= .type "tuple",data:= .seq #[]})::
 (nat_lit 176,{cls:= .type "tuple",data:= .seq #[.str "parts" 439,.str "root" 440,.str "rows" 441,.str "begun" 442,.str "waiting" 443,.str "work" 444,.str "step" 445,.str "row" 446]})::
 (nat_lit 177,{cls:= .type "tuple",data:= .seq #[]})::
 (nat_lit 179,{cls:= .type "code",data:= .fields #[.str "work_in_order" 436,.str "work_in_order" 437,.str "/claim/cut.py" 438,.int 129 0,.int 2 0,.int 0 0,.int 0 0,.int 3 0,.ref 174,.bool true,.int 181 0,.ref 175,.none,.ref 176,.ref 177,.ref 178,.int 447 0,.int 129 0,.str "/claim/cut.py" 448]})::
 (nat_lit 180,⟨.type "function",none,.func (PySem.W.fnOf "work_in_order" "work_in_order" (HD.dA (HD.tp PySem.Challenge.pw_bundlehouse_k43_flat_rows 24)) (HD.dB (HD.tp PySem.Challenge.pw_bundlehouse_k43_flat_rows 24)) (HD.dS (HD.tp PySem.Challenge.pw_bundlehouse_k43_flat_rows 24)) (.none) (.none) (.none) (.str "bundlehouse.flat" 416) (none) (.ref 179) (.none)), #[]⟩)::
 (nat_lit 181,{cls:= .type "tuple",data:= .seq #[]})::
 (nat_lit 184,{cls:= .type "code",data:= .fields #[.str "last_first" 450,.str "last_first" 451,.str "/claim/cut.py" 452,.int 143 0,.int 2 0,.int 0 0,.int 0 0,.int 3 0,.ref 181,.bool true,.int 181 0,.ref 182,.none,.none,.none,.ref 183,.int 453 0,.int 143 0,.str "/claim/cut.py" 454]})::
 (nat_lit 185,⟨.type "function",none,.func (PySem.W.fnOf "last_first" "last_first" (HD.dA (HD.tp PySem.Challenge.pw_bundlehouse_k43_flat_rows 25)) (HD.dB (HD.tp PySem.Challenge.pw_bundlehouse_k43_flat_rows 25)) (HD.dS (HD.tp PySem.Challenge.pw_bundlehouse_k43_flat_rows 25)) (.none) (.none) (.none) (.str "bundlehouse.flat" 416) (none) (.ref 184) (.none)), #[]⟩)::
 (nat_lit 186,{cls:= .type "tuple",data:= .seq #[]})::
 (nat_lit 188,{cls:= .type "tuple",data:= .seq #[.str "_law_script" 461,.str "_law_k" 462]})::
 (nat_lit 189,{cls:= .type "tuple",data:= .seq #[]})::
 (nat_lit 191,{cls:= .type "code",data:= .fields #[.str "_law_cell_at" 458,.str "_law_cell_at" 459,.str "/claim/cut.py" 460,.int 147 0,.int 2 0,.int 0 0,.int 0 0,.int 3 0,.ref 186,.bool true,.int 181 0,.ref 187,.none,.ref 188,.ref 189,.ref 190,.int 463 0,.int 147 0,.str "/claim/cut.py" 464]})::
 (nat_lit 192,⟨.type "function",none,.func (PySem.W.fnOf "_law_cell_at" "_law_cell_at" (HD.dA (HD.tp PySem.Challenge.pw_bundlehouse_k43_flat_rows 27)) (HD.dB (HD.tp PySem.Challenge.pw_bundlehouse_k43_flat_rows 27)) (HD.dS (HD.tp PySem.Challenge.pw_bundlehouse_k43_flat_rows 27)) (.none) (.none) (.none) (.str "law_bundlehouse_k43_flat_rows" 456) (none) (.ref 191) (.none)), #[]⟩)::
 (nat_lit 193,{cls:= .type "tuple",data:= .seq #[]})::
 (nat_lit 195,{cls:= .type "tuple",data:= .seq #[.str "_law_cell" 469,.str "_law_k" 470,.str "_law_found" 471,.str "_law_number" 472,.str "_law_by" 473]})::
 (nat_lit 196,{cls:= .type "tuple",data:= .seq #[]})::
 (nat_lit 198,{cls:= .type "code",data:= .fields #[.str "_law_stream" 466,.str "_law_stream" 467,.str "/claim/cut.py" 468,.int 151 0,.int 2 0,.int 0 0,.int 0 0,.int 3 0,.ref 193,.bool true,.int 181 0,.ref 194,.none,.ref 195,.ref 196,.ref 197,.int 474 0,.int 151 0,.str "/claim/cut.py" 475]})::
 (nat_lit 199,⟨.type "function",none,.func (PySem.W.fnOf "_law_stream" "_law_stream" (HD.dA (HD.tp PySem.Challenge.pw_bundlehouse_k43_flat_rows 28)) (HD.dB (HD.tp PySem.Challenge.pw_bundlehouse_k43_flat_rows 28)) (HD.dS (HD.tp PySem.Challenge.pw_bundlehouse_k43_flat_rows 28)) (.none) (.none) (.none) (.str "law_bundlehouse_k43_flat_rows" 456) (none) (.ref 198) (.none)), #[]⟩)::
 (nat_lit 200,{cls:= .type "tuple",data:= .seq #[]})::
 (nat_lit 202,{cls:= .type "tuple",data:= .seq #[.str "_law_base" 480,.str "_law_k" 481,.str "_law_letters" 482,.str "_law_size" 483,.str "_law_name_here" 484,.str "_law_j" 485,.str "_law_step" 486]})::
 (nat_lit 203,{cls:= .type "tuple",data:= .seq #[]})::
 (nat_lit 205,{cls:= .type "code",data:= .fields #[.str "_law_name" 477,.str "_law_name" 478,.str "/claim/cut.py" 479,.int 158 0,.int 2 0,.int 0 0,.int 0 0,.int 3 0,.ref 200,.bool true,.int 181 0,.ref 201,.none,.ref 202,.ref 203,.ref 204,.int 487 0,.int 158 0,.str "/claim/cut.py" 488]})::
 (nat_lit 206,⟨.type "function",none,.func (PySem.W.fnOf "_law_name" "_law_name" (HD.dA (HD.tp PySem.Challenge.pw_bundlehouse_k43_flat_rows 29)) (HD.dB (HD.tp PySem.Challenge.pw_bundlehouse_k43_flat_rows 29)) (HD.dS (HD.tp PySem.Challenge.pw_bundlehouse_k43_flat_rows 29)) (.none) (.none) (.none) (.str "law_bundlehouse_k43_flat_rows" 456) (none) (.ref 205) (.none)), #[]⟩)::
 (nat_lit 207,{cls:= .type "tuple",data:= .seq #[]})::
 (nat_lit 209,{cls:= .type "tuple",data:= .seq #[.str "_law_script" 493,.str "_law_k" 494]})::
 (nat_lit 210,{cls:= .type "tuple",data:= .seq #[]})::
 (nat_lit 212,{cls:= .type "code",data:= .fields #[.str "_law_pool" 490,.str "_law_pool" 491,.str "/claim/cut.py" 492,.int 177 0,.int 2 0,.int 0 0,.int 0 0,.int 3 0,.ref 207,.bool true,.int 181 0,.ref 208,.none,.ref 209,.ref 210,.ref 211,.int 495 0,.int 177 0,.str "/claim/cut.py" 496]})::
 (nat_lit 213,⟨.type "function",none,.func (PySem.W.fnOf "_law_pool" "_law_pool" (HD.dA (HD.tp PySem.Challenge.pw_bundlehouse_k43_flat_rows 30)) (HD.dB (HD.tp PySem.Challenge.pw_bundlehouse_k43_flat_rows 30)) (HD.dS (HD.tp PySem.Challenge.pw_bundlehouse_k43_flat_rows 30)) (.none) (.none) (.none) (.str "law_bundlehouse_k43_flat_rows" 456) (none) (.ref 212) (.none)), #[]⟩)::
 (nat_lit 214,{cls:= .type "tuple",data:= .seq #[]})::
 (nat_lit 216,{cls:= .type "tuple",data:= .seq #[.str "_law_script" 501,.str "_law_first" 502,.str "_law_many" 503,.str "_law_house" 504,.str "_law_k" 505]})::
 (nat_lit 217,{cls:= .type "tuple",data:= .seq #[]})::
 (nat_lit 219,{cls:= .type "code",data:= .fields #[.str "_law_begun" 498,.str "_law_begun" 499,.str "/claim/cut.py" 500,.int 179 0,.int 1 0,.int 0 0,.int 0 0,.int 3 0,.ref 214,.bool true,.int 181 0,.ref 215,.none,.ref 216,.ref 217,.ref 218,.int 506 0,.int 179 0,.str "/claim/cut.py" 507]})::
 (nat_lit 220,⟨.type "function",none,.func (PySem.W.fnOf "_law_begun" "_law_begun" (HD.dA (HD.tp PySem.Challenge.pw_bundlehouse_k43_flat_rows 31)) (HD.dB (HD.tp PySem.Challenge.pw_bundlehouse_k43_flat_rows 31)) (HD.dS (HD.tp PySem.Challenge.pw_bundlehouse_k43_flat_rows 31)) (.none) (.none) (.none) (.str "law_bundlehouse_k43_flat_rows" 456) (none) (.ref 219) (.none)), #[]⟩)::
 (nat_lit 221,{cls:= .type "tuple",data:= .seq #[]})::
 (nat_lit 223,{cls:= .type "tuple",data:= .seq #[.str "_law_part" 512,.str "_law_pool_here" 513,.str "_law_k" 514]})::
 (nat_lit 224,{cls:= .type "tuple",data:= .seq #[]})::
 (nat_lit 226,{cls:= .type "code",data:= .fields #[.str "_law_fresh" 509,.str "_law_fresh" 510,.str "/claim/cut.py" 511,.int 188 0,.int 3 0,.int 0 0,.int 0 0,.int 3 0,.ref 221,.bool true,.int 181 0,.ref 222,.none,.ref 223,.ref 224,.ref 225,.int 515 0,.int 188 0,.str "/claim/cut.py" 516]})::
 (nat_lit 227,⟨.type "function",none,.func (PySem.W.fnOf "_law_fresh" "_law_fresh" (HD.dA (HD.tp PySem.Challenge.pw_bundlehouse_k43_flat_rows 32)) (HD.dB (HD.tp PySem.Challenge.pw_bundlehouse_k43_flat_rows 32)) (HD.dS (HD.tp PySem.Challenge.pw_bundlehouse_k43_flat_rows 32)) (.none) (.none) (.none) (.str "law_bundlehouse_k43_flat_rows" 456) (none) (.ref 226) (.none)), #[]⟩)::
 (nat_lit 228,{cls:= .type "tuple",data:= .seq #[]})::
 (nat_lit 230,{cls:= .type "tuple",data:= .seq #[.str "_law_house" 521,.str "_law_pools_here" 522,.str "_law_here" 523,.str "_law_other" 524,.str "_law_xs" 525,.str "_law_part" 526,.str "_law_given" 527,.str "_law_pairs_here" 528,.str "_law_t" 529,.str "_law_own" 530]})::
 (nat_lit 231,{cls:= .type "tuple",data:= .seq #[]})::
 (nat_lit 233,{cls:= .type "code",data:= .fields #[.str "_law_pairs" 518,.str "_law_pairs" 519,.str "/claim/cut.py" 520,.int 190 0,.int 5 0,.int 0 0,.int 0 0,.int 3 0,.ref 228,.bool true,.int 181 0,.ref 229,.none,.ref 230,.ref 231,.ref 232,.int 531 0,.int 190 0,.str "/claim/cut.py" 532]})::
 (nat_lit 234,⟨.type "function",none,.func (PySem.W.fnOf "_law_pairs" "_law_pairs" (HD.dA (HD.tp PySem.Challenge.pw_bundlehouse_k43_flat_rows 33)) (HD.dB (HD.tp PySem.Challenge.pw_bundlehouse_k43_flat_rows 33)) (HD.dS (HD.tp PySem.Challenge.pw_bundlehouse_k43_flat_rows 33)) (.none) (.none) (.none) (.str "law_bundlehouse_k43_flat_rows" 456) (none) (.ref 233) (.none)), #[]⟩)::
 (nat_lit 235,{cls:= .type "tuple",data:= .seq #[]})::
 (nat_lit 237,{cls:= .type "tuple",data:= .seq #[.str "_law_house" 537,.str "_law_pools_here" 538,.str "_law_xs" 539,.str "_law_here" 540,.str "_law_part" 541,.str "_law_at" 542,.str "_law_kind" 543,.str "_law_other" 544,.str "_law_own" 545,.str "_law_given" 546]})::
 (nat_lit 238,{cls:= .type "tuple",data:= .seq #[]})::
 (nat_lit 240,{cls:= .type "code",data:= .fields #[.str "_law_added" 534,.str "_law_added" 535,.str "/claim/cut.py" 536,.int 199 0,.int 3 0,.int 0 0,.int 0 0,.int 3 0,.ref 235,.bool true,.int 181 0,.ref 236,.none,.ref 237,.ref 238,.ref 239,.int 547 0,.int 199 0,.str "/claim/cut.py" 548]})::
 (nat_lit 241,⟨.type "function",none,.func (PySem.W.fnOf "_law_added" "_law_added" (HD.dA (HD.tp PySem.Challenge.pw_bundlehouse_k43_flat_rows 34)) (HD.dB (HD.tp PySem.Challenge.pw_bundlehouse_k43_flat_rows 34)) (HD.dS (HD.tp PySem.Challenge.pw_bundlehouse_k43_flat_rows 34)) (.none) (.none) (.none) (.str "law_bundlehouse_k43_flat_rows" 456) (none) (.ref 240) (.none)), #[]⟩)::
 (nat_lit 242,{cls:= .type "tuple",data:= .seq #[]})::
 (nat_lit 244,{cls:= .type "tuple",data:= .seq #[.str "_law_owns" 553,.str "_law_xs" 554,.str "_law_terms" 555,.str "_law_t" 556,.str "_law_number" 557,.str "_law_thing" 558]})::
 (nat_lit 245,{cls:= .type "tuple",data:= .seq #[]})::
 (nat_lit 247,{cls:= .type "code",data:= .fields #[.str "_law_sum" 550,.str "_law_sum" 551,.str "/claim/cut.py" 552,.int 223 0,.int 2 0,.int 0 0,.int 0 0,.int 3 0,.ref 242,.bool true,.int 181 0,.ref 243,.none,.ref 244,.ref 245,.ref 246,.int 559 0,.int 223 0,.str "/claim/cut.py" 560]})::
 (nat_lit 248,⟨.type "function",none,.func (PySem.W.fnOf "_law_sum" "_law_sum" (HD.dA (HD.tp PySem.Challenge.pw_bundlehouse_k43_flat_rows 35)) (HD.dB (HD.tp PySem.Challenge.pw_bundlehouse_k43_flat_rows 35)) (HD.dS (HD.tp PySem.Challenge.pw_bundlehouse_k43_flat_rows 35)) (.none) (.none) (.none) (.str "law_bundlehouse_k43_flat_rows" 456) (none) (.ref 247) (.none)), #[]⟩)::
 (nat_lit 249,{cls:= .type "tuple",data:= .seq #[]})::
 (nat_lit 251,{cls:= .type "tuple",data:= .seq #[.str "_law_row_here" 565,.str "_law_owns" 566,.str "_law_names" 567,.str "_law_kind" 568,.str "_law_one" 569,.str "_law_xs" 570,.str "_law_when" 571,.str "_law_terms" 572]})::
 (nat_lit 252,{cls:= .type "tuple",data:= .seq #[]})::
 (nat_lit 254,{cls:= .type "code",data:= .fields #[.str "_law_row" 562,.str "_law_row" 563,.str "/claim/cut.py" 564,.int 234 0,.int 3 0,.int 0 0,.int 0 0,.int 3 0,.ref 249,.bool true,.int 181 0,.ref 250,.none,.ref 251,.ref 252,.ref 253,.int 573 0,.int 234 0,.str "/claim/cut.py" 574]})::
 (nat_lit 255,⟨.type "function",none,.func (PySem.W.fnOf "_law_row" "_law_row" (HD.dA (HD.tp PySem.Challenge.pw_bundlehouse_k43_flat_rows 36)) (HD.dB (HD.tp PySem.Challenge.pw_bundlehouse_k43_flat_rows 36)) (HD.dS (HD.tp PySem.Challenge.pw_bundlehouse_k43_flat_rows 36)) (.none) (.none) (.none) (.str "law_bundlehouse_k43_flat_rows" 456) (none) (.ref 254) (.none)), #[]⟩)::
 (nat_lit 256,{cls:= .type "tuple",data:= .seq #[]})::
 (nat_lit 259,{cls:= .type "code",data:= .fields #[.str "_law_owned" 576,.str "_law_owned" 577,.str "/claim/cut.py" 578,.int 253 0,.int 1 0,.int 0 0,.int 0 0,.int 3 0,.ref 256,.bool true,.int 181 0,.ref 257,.none,.none,.none,.ref 258,.int 579 0,.int 253 0,.str "/claim/cut.py" 580]})::
 (nat_lit 260,⟨.type "function",none,.func (PySem.W.fnOf "_law_owned" "_law_owned" (HD.dA (HD.tp PySem.Challenge.pw_bundlehouse_k43_flat_rows 37)) (HD.dB (HD.tp PySem.Challenge.pw_bundlehouse_k43_flat_rows 37)) (HD.dS (HD.tp PySem.Challenge.pw_bundlehouse_k43_flat_rows 37)) (.none) (.none) (.none) (.str "law_bundlehouse_k43_flat_rows" 456) (none) (.ref 259) (.none)), #[]⟩)::
 (nat_lit 261,{cls:= .type "tuple",data:= .seq #[]})::
 (nat_lit 264,{cls:= .type "code",data:= .fields #[.str "_law_finished" 582,.str "_law_finished" 583,.str "/claim/cut.py" 584,.int 259 0,.int 3 0,.int 0 0,.int 0 0,.int 3 0,.ref 261,.bool true,.int 181 0,.ref 262,.none,.none,.none,.ref 263,.int 585 0,.int 259 0,.str "/claim/cut.py" 586]})::
 (nat_lit 265,⟨.type "function",none,.func (PySem.W.fnOf "_law_finished" "_law_finished" (HD.dA (HD.tp PySem.Challenge.pw_bundlehouse_k43_flat_rows 38)) (HD.dB (HD.tp PySem.Challenge.pw_bundlehouse_k43_flat_rows 38)) (HD.dS (HD.tp PySem.Challenge.pw_bundlehouse_k43_flat_rows 38)) (.none) (.none) (.none) (.str "law_bundlehouse_k43_flat_rows" 456) (none) (.ref 264) (.none)), #[]⟩)::
 (nat_lit 266,{cls:= .type "tuple",data:= .seq #[]})::
 (nat_lit 268,{cls:= .type "tuple",data:= .seq #[.str "_law_script" 591,.str "_law_first" 592,.str "_law_own" 593,.str "_law_other" 594]})::
 (nat_lit 269,{cls:= .type "tuple",data:= .seq #[]})::
 (nat_lit 271,{cls:= .type "code",data:= .fields #[.str "_law_pools" 588,.str "_law_pools" 589,.str "/claim/cut.py" 590,.int 273 0,.int 1 0,.int 0 0,.int 0 0,.int 3 0,.ref 266,.bool true,.int 181 0,.ref 267,.none,.ref 268,.ref 269,.ref 270,.int 595 0,.int 273 0,.str "/claim/cut.py" 596]})::
 (nat_lit 272,⟨.type "function",none,.func (PySem.W.fnOf "_law_pools" "_law_pools" (HD.dA (HD.tp PySem.Challenge.pw_bundlehouse_k43_flat_rows 39)) (HD.dB (HD.tp PySem.Challenge.pw_bundlehouse_k43_flat_rows 39)) (HD.dS (HD.tp PySem.Challenge.pw_bundlehouse_k43_flat_rows 39)) (.none) (.none) (.none) (.str "law_bundlehouse_k43_flat_rows" 456) (none) (.ref 271) (.none)), #[]⟩)::
 (nat_lit 273,{cls:= .type "tuple",data:= .seq #[]})::
 (nat_lit 275,{cls:= .type "tuple",data:= .seq #[.str "_law_script" 601,.str "_law_house" 602,.str "_law_pools_here" 603,.str "_law_k" 604]})::
 (nat_lit 276,{cls:= .type "tuple",data:= .seq #[]})::
 (nat_lit 278,{cls:= .type "code",data:= .fields #[.str "_law_parts" 598,.str "_law_parts" 599,.str "/claim/cut.py" 600,.int 278 0,.int 1 0,.int 0 0,.int 0 0,.int 3 0,.ref 273,.bool true,.int 181 0,.ref 274,.none,.ref 275,.ref 276,.ref 277,.int 605 0,.int 278 0,.str "/claim/cut.py" 606]})::
 (nat_lit 279,⟨.type "function",none,.func (PySem.W.fnOf "_law_parts" "_law_parts" (HD.dA (HD.tp PySem.Challenge.pw_bundlehouse_k43_flat_rows 40)) (HD.dB (HD.tp PySem.Challenge.pw_bundlehouse_k43_flat_rows 40)) (HD.dS (HD.tp PySem.Challenge.pw_bundlehouse_k43_flat_rows 40)) (.none) (.none) (.none) (.str "law_bundlehouse_k43_flat_rows" 456) (none) (.ref 278) (.none)), #[]⟩)::
 (nat_lit 280,{cls:= .type "tuple",data:= .seq #[]})::
 (nat_lit 282,{cls:= .type "tuple",data:= .seq #[.str "_law_parts_here" 611,.str "_law_made_here" 612,.str "_law_name_here" 613,.str "_law_rows" 614,.str "_law_k" 615]})::
 (nat_lit 283,{cls:= .type "tuple",data:= .seq #[]})::
 (nat_lit 285,{cls:= .type "code",data:= .fields #[.str "_law_made" 608,.str "_law_made" 609,.str "/claim/cut.py" 610,.int 284 0,.int 1 0,.int 0 0,.int 0 0,.int 3 0,.ref 280,.bool true,.int 181 0,.ref 281,.none,.ref 282,.ref 283,.ref 284,.int 616 0,.int 284 0,.str "/claim/cut.py" 617]})::
 (nat_lit 286,⟨.type "function",none,.func (PySem.W.fnOf "_law_made" "_law_made" (HD.dA (HD.tp PySem.Challenge.pw_bundlehouse_k43_flat_rows 41)) (HD.dB (HD.tp PySem.Challenge.pw_bundlehouse_k43_flat_rows 41)) (HD.dS (HD.tp PySem.Challenge.pw_bundlehouse_k43_flat_rows 41)) (.none) (.none) (.none) (.str "law_bundlehouse_k43_flat_rows" 456) (none) (.ref 285) (.none)), #[]⟩)::
 (nat_lit 287,{cls:= .type "tuple",data:= .seq #[]})::
 (nat_lit 289,{cls:= .type "tuple",data:= .seq #[.str "_law_parts_here" 622,.str "_law_makers_here" 623,.str "_law_given" 624,.str "_law_steps" 625,.str "_law_name_here" 626,.str "_law_rows" 627,.str "_law_row_here" 628,.str "_law_handed" 629,.str "_law_own" 630,.str "_law_spot" 631,.str "_law_last" 632]})::
 (nat_lit 290,{cls:= .type "tuple",data:= .seq #[]})::
 (nat_lit 292,{cls:= .type "code",data:= .fields #[.str "_law_makers" 619,.str "_law_makers" 620,.str "/claim/cut.py" 621,.int 291 0,.int 1 0,.int 0 0,.int 0 0,.int 3 0,.ref 287,.bool true,.int 181 0,.ref 288,.none,.ref 289,.ref 290,.ref 291,.int 633 0,.int 291 0,.str "/claim/cut.py" 634]})::
 (nat_lit 293,⟨.type "function",none,.func (PySem.W.fnOf "_law_makers" "_law_makers" (HD.dA (HD.tp PySem.Challenge.pw_bundlehouse_k43_flat_rows 42)) (HD.dB (HD.tp PySem.Challenge.pw_bundlehouse_k43_flat_rows 42)) (HD.dS (HD.tp PySem.Challenge.pw_bundlehouse_k43_flat_rows 42)) (.none) (.none) (.none) (.str "law_bundlehouse_k43_flat_rows" 456) (none) (.ref 292) (.none)), #[]⟩)::
 (nat_lit 294,{cls:= .type "tuple",data:= .seq #[]})::
 (nat_lit 297,{cls:= .type "code",data:= .fields #[.str "_law_news" 636,.str "_law_news" 637,.str "/claim/cut.py" 638,.int 310 0,.int 1 0,.int 0 0,.int 0 0,.int 3 0,.ref 294,.bool true,.int 181 0,.ref 295,.none,.none,.none,.ref 296,.int 639 0,.int 310 0,.str "/claim/cut.py" 640]})::
 (nat_lit 298,⟨.type "function",none,.func (PySem.W.fnOf "_law_news" "_law_news" (HD.dA (HD.tp PySem.Challenge.pw_bundlehouse_k43_flat_rows 43)) (HD.dB (HD.tp PySem.Challenge.pw_bundlehouse_k43_flat_rows 43)) (HD.dS (HD.tp PySem.Challenge.pw_bundlehouse_k43_flat_rows 43)) (.none) (.none) (.none) (.str "law_bundlehouse_k43_flat_rows" 456) (none) (.ref 297) (.none)), #[]⟩)::
 (nat_lit 299,{cls:= .type "tuple",data:= .seq #[]})::
 (nat_lit 302,{cls:= .type "code",data:= .fields #[.str "_law_quieted" 642,.str "_law_quieted" 643,.str "/claim/cut.py" 644,.int 325 0,.int 1 0,.int 0 0,.int 0 0,.int 3 0,.ref 299,.bool true,.int 181 0,.ref 300,.none,.none,.none,.ref 301,.int 645 0,.int 325 0,.str "/claim/cut.py" 646]})::
 (nat_lit 303,⟨.type "function",none,.func (PySem.W.fnOf "_law_quieted" "_law_quieted" (HD.dA (HD.tp PySem.Challenge.pw_bundlehouse_k43_flat_rows 44)) (HD.dB (HD.tp PySem.Challenge.pw_bundlehouse_k43_flat_rows 44)) (HD.dS (HD.tp PySem.Challenge.pw_bundlehouse_k43_flat_rows 44)) (.none) (.none) (.none) (.str "law_bundlehouse_k43_flat_rows" 456) (none) (.ref 302) (.none)), #[]⟩)::
 (nat_lit 304,{cls:= .type "tuple",data:= .seq #[]})::
 (nat_lit 306,{cls:= .type "tuple",data:= .seq #[.str "_law_parts_here" 651,.str "_law_root" 652,.str "_law_rows_by" 653,.str "_law_name_here" 654,.str "_law_rows" 655,.str "_law_begun_here" 656,.str "_law_amid" 657,.str "_law_laid_here" 658,.str "_law_at" 659,.str "_law_row_here" 660]})::
 (nat_lit 307,{cls:= .type "tuple",data:= .seq #[]})::
 (nat_lit 309,{cls:= .type "code",data:= .fields #[.str "_law_laid" 648,.str "_law_laid" 649,.str "/claim/cut.py" 650,.int 327 0,.int 2 0,.int 0 0,.int 0 0,.int 3 0,.ref 304,.bool true,.int 181 0,.ref 305,.none,.ref 306,.ref 307,.ref 308,.int 661 0,.int 327 0,.str "/claim/cut.py" 662]})::
 (nat_lit 310,⟨.type "function",none,.func (PySem.W.fnOf "_law_laid" "_law_laid" (HD.dA (HD.tp PySem.Challenge.pw_bundlehouse_k43_flat_rows 45)) (HD.dB (HD.tp PySem.Challenge.pw_bundlehouse_k43_flat_rows 45)) (HD.dS (HD.tp PySem.Challenge.pw_bundlehouse_k43_flat_rows 45)) (.none) (.none) (.none) (.str "law_bundlehouse_k43_flat_rows" 456) (none) (.ref 309) (.none)), #[]⟩)::
 (nat_lit 311,{cls:= .type "tuple",data:= .seq #[]})::
 (nat_lit 313,{cls:= .type "tuple",data:= .seq #[.str "_law_row_here" 667,.str "_law_part" 668,.str "_law_makers_here" 669,.str "_law_news_here" 670,.str "_law_terms" 671,.str "_law_sign" 672,.str "_law_thing" 673]})::
 (nat_lit 314,{cls:= .type "tuple",data:= .seq #[]})::
 (nat_lit 316,{cls:= .type "code",data:= .fields #[.str "_law_changed" 664,.str "_law_changed" 665,.str "/claim/cut.py" 666,.int 348 0,.int 4 0,.int 0 0,.int 0 0,.int 3 0,.ref 311,.bool true,.int 181 0,.ref 312,.none,.ref 313,.ref 314,.ref 315,.int 674 0,.int 348 0,.str "/claim/cut.py" 675]})::
 (nat_lit 317,⟨.type "function",none,.func (PySem.W.fnOf "_law_changed" "_law_changed" (HD.dA (HD.tp PySem.Challenge.pw_bundlehouse_k43_flat_rows 46)) (HD.dB (HD.tp PySem.Challenge.pw_bundlehouse_k43_flat_rows 46)) (HD.dS (HD.tp PySem.Challenge.pw_bundlehouse_k43_flat_rows 46)) (.none) (.none) (.none) (.str "law_bundlehouse_k43_flat_rows" 456) (none) (.ref 316) (.none)), #[]⟩)::
 (nat_lit 318,{cls:= .type "tuple",data:= .seq #[]})::
 (nat_lit 320,{cls:= .type "tuple",data:= .seq #[.str "_law_found" 680,.str "_law_due" 681]})::
 (nat_lit 321,{cls:= .type "tuple",data:= .seq #[]})::
 (nat_lit 323,{cls:= .type "code",data:= .fields #[.str "_law_is_origin" 677,.str "_law_is_origin" 678,.str "/claim/cut.py" 679,.int 363 0,.int 2 0,.int 0 0,.int 0 0,.int 3 0,.ref 318,.bool true,.int 181 0,.ref 319,.none,.ref 320,.ref 321,.ref 322,.int 682 0,.int 363 0,.str "/claim/cut.py" 683]})::
 (nat_lit 324,⟨.type "function",none,.func (PySem.W.fnOf "_law_is_origin" "_law_is_origin" (HD.dA (HD.tp PySem.Challenge.pw_bundlehouse_k43_flat_rows 47)) (HD.dB (HD.tp PySem.Challenge.pw_bundlehouse_k43_flat_rows 47)) (HD.dS (HD.tp PySem.Challenge.pw_bundlehouse_k43_flat_rows 47)) (.none) (.none) (.none) (.str "law_bundlehouse_k43_flat_rows" 456) (none) (.ref 323) (.none)), #[]⟩)::
 (nat_lit 325,{cls:= .type "tuple",data:= .seq #[]})::
 (nat_lit 327,{cls:= .type "tuple",data:= .seq #[.str "_law_found" 688,.str "_law_laid_here" 689,.str "_law_makers_here" 690,.str "_law_news_here" 691,.str "_law_k" 692,.str "_law_name_here" 693,.str "_law_number" 694,.str "_law_row_here" 695,.str "_law_changed_here" 696]})::
 (nat_lit 328,{cls:= .type "tuple",data:= .seq #[]})::
 (nat_lit 330,{cls:= .type "code",data:= .fields #[.str "_law_right" 685,.str "_law_right" 686,.str "/claim/cut.py" 687,.int 367 0,.int 4 0,.int 0 0,.int 0 0,.int 3 0,.ref 325,.bool true,.int 181 0,.ref 326,.none,.ref 327,.ref 328,.ref 329,.int 697 0,.int 367 0,.str "/claim/cut.py" 698]})::
 (nat_lit 331,⟨.type "function",none,.func (PySem.W.fnOf "_law_right" "_law_right" (HD.dA (HD.tp PySem.Challenge.pw_bundlehouse_k43_flat_rows 48)) (HD.dB (HD.tp PySem.Challenge.pw_bundlehouse_k43_flat_rows 48)) (HD.dS (HD.tp PySem.Challenge.pw_bundlehouse_k43_flat_rows 48)) (.none) (.none) (.none) (.str "law_bundlehouse_k43_flat_rows" 456) (none) (.ref 330) (.none)), #[]⟩)::
 (nat_lit 332,{cls:= .type "tuple",data:= .seq #[]})::
 (nat_lit 334,{cls:= .type "tuple",data:= .seq #[.str "_law_script" 703,.str "_law_parts_here" 704,.str "_law_makers_here" 705,.str "_law_news_here" 706,.str "_law_step" 707,.str "_law_name_here" 708,.str "_law_rows" 709,.str "_law_laid_here" 710]})::
 (nat_lit 335,{cls:= .type "tuple",data:= .seq #[]})::
 (nat_lit 337,{cls:= .type "code",data:= .fields #[.str "law" 700,.str "law" 701,.str "/claim/cut.py" 702,.int 382 0,.int 1 0,.int 0 0,.int 0 0,.int 3 0,.ref 332,.bool true,.int 181 0,.ref 333,.none,.ref 334,.ref 335,.ref 336,.int 711 0,.int 382 0,.str "/claim/cut.py" 712]})::
 (nat_lit 338,⟨.type "function",none,.func (PySem.W.fnOf "law" "law" (HD.dA (HD.tp PySem.Challenge.pw_bundlehouse_k43_flat_rows 49)) (HD.dB (HD.tp PySem.Challenge.pw_bundlehouse_k43_flat_rows 49)) (HD.dS (HD.tp PySem.Challenge.pw_bundlehouse_k43_flat_rows 49)) (.none) (.none) (.none) (.str "law_bundlehouse_k43_flat_rows" 456) (none) (.ref 337) (.none)), #[]⟩)::[]
noncomputable def a6y:List Addr:=[nat_lit 2,nat_lit 3,nat_lit 15,nat_lit 22,nat_lit 23,nat_lit 24,nat_lit 25,nat_lit 28,nat_lit 35,nat_lit 37,nat_lit 38,nat_lit 40,nat_lit 42,nat_lit 43,nat_lit 44,nat_lit 47,nat_lit 54,nat_lit 55,nat_lit 56,nat_lit 59,nat_lit 61,nat_lit 62,nat_lit 64,nat_lit 65,nat_lit 66,nat_lit 68,nat_lit 69,nat_lit 71,nat_lit 72,nat_lit 73,nat_lit 75,nat_lit 76,nat_lit 78,nat_lit 79,nat_lit 80,nat_lit 82,nat_lit 83,nat_lit 85,nat_lit 86,nat_lit 87,nat_lit 89,nat_lit 90,nat_lit 92,nat_lit 93,nat_lit 94,nat_lit 96,nat_lit 97,nat_lit 99,nat_lit 100,nat_lit 101,nat_lit 103,nat_lit 104,nat_lit 106,nat_lit 107,nat_lit 108,nat_lit 110,nat_lit 111,nat_lit 113,nat_lit 114,nat_lit 115,nat_lit 117,nat_lit 118,nat_lit 120,nat_lit 121,nat_lit 122,nat_lit 124,nat_lit 125,nat_lit 127,nat_lit 128,nat_lit 129,nat_lit 131,nat_lit 132,nat_lit 134,nat_lit 135,nat_lit 136,nat_lit 138,nat_lit 139,nat_lit 141,nat_lit 142,nat_lit 143,nat_lit 146,nat_lit 147,nat_lit 148,nat_lit 150,nat_lit 151,nat_lit 153,nat_lit 154,nat_lit 155,nat_lit 157,nat_lit 158,nat_lit 160,nat_lit 161,nat_lit 162,nat_lit 165,nat_lit 166,nat_lit 167,nat_lit 169,nat_lit 170,nat_lit 172,nat_lit 173,nat_lit 174,nat_lit 176,nat_lit 177,nat_lit 179,nat_lit 180,nat_lit 181,nat_lit 184,nat_lit 185,nat_lit 186,nat_lit 188,nat_lit 189,nat_lit 191,nat_lit 192,nat_lit 193,nat_lit 195,nat_lit 196,nat_lit 198,nat_lit 199,nat_lit 200,nat_lit 202,nat_lit 203,nat_lit 205,nat_lit 206,nat_lit 207,nat_lit 209,nat_lit 210,nat_lit 212,nat_lit 213,nat_lit 214,nat_lit 216,nat_lit 217,nat_lit 219,nat_lit 220,nat_lit 221,nat_lit 223,nat_lit 224,nat_lit 226,nat_lit 227,nat_lit 228,nat_lit 230,nat_lit 231,nat_lit 233,nat_lit 234,nat_lit 235,nat_lit 237,nat_lit 238,nat_lit 240,nat_lit 241,nat_lit 242,nat_lit 244,nat_lit 245,nat_lit 247,nat_lit 248,nat_lit 249,nat_lit 251,nat_lit 252,nat_lit 254,nat_lit 255,nat_lit 256,nat_lit 259,nat_lit 260,nat_lit 261,nat_lit 264,nat_lit 265,nat_lit 266,nat_lit 268,nat_lit 269,nat_lit 271,nat_lit 272,nat_lit 273,nat_lit 275,nat_lit 276,nat_lit 278,nat_lit 279,nat_lit 280,nat_lit 282,nat_lit 283,nat_lit 285,nat_lit 286,nat_lit 287,nat_lit 289,nat_lit 290,nat_lit 292,nat_lit 293,nat_lit 294,nat_lit 297,nat_lit 298,nat_lit 299,nat_lit 302,nat_lit 303,nat_lit 304,nat_lit 306,nat_lit 307,nat_lit 309,nat_lit 310,nat_lit 311,nat_lit 313,nat_lit 314,nat_lit 316,nat_lit 317,nat_lit 318,nat_lit 320,nat_lit 321,nat_lit 323,nat_lit 324,nat_lit 325,nat_lit 327,nat_lit 328,nat_lit 330,nat_lit 331,nat_lit 332,nat_lit 334,nat_lit 335,nat_lit 337,nat_lit 338]
theorem a8c:∀P,a6y=(a6l P).map (·.1):=fun _=>by kernel_rfl
theorem b5b:PySem.Challenge.rw_bundlehouse_k43_flat_rows.wellSaid=true:=by kernel_rfl
theorem b6p:∀w,((openEnds treeTable PySem.Challenge.rw_bundlehouse_k43_flat_rows.row.prog w 4268).map fun s=>(openSeen (HD.a1f PySem.Challenge.rw_bundlehouse_k43_flat_rows.prog [1,2,3,5,6,7,8,9,10,11,12,14,15,16,17,18,19,20,22,23,24,25,27,28,29,30,31,32,33,34,35,36,37,38,39,40,41,42,43,44,45,46,47,48,49]) [] (importedModules PySem.Challenge.rw_bundlehouse_k43_flat_rows.row.prog.main.body) (fun s=>xlAt (HD.a1f PySem.Challenge.rw_bundlehouse_k43_flat_rows.prog [1,2,3,5,6,7,8,9,10,11,12,14,15,16,17,18,19,20,22,23,24,25,27,28,29,30,31,32,33,34,35,36,37,38,39,40,41,42,43,44,45,46,47,48,49]) [] s && recOk (RowW.records PySem.Challenge.rw_bundlehouse_k43_flat_rows.row.toRowW) s) true s).1)=some (openGood (HD.a1f PySem.Challenge.rw_bundlehouse_k43_flat_rows.prog [1,2,3,5,6,7,8,9,10,11,12,14,15,16,17,18,19,20,22,23,24,25,27,28,29,30,31,32,33,34,35,36,37,38,39,40,41,42,43,44,45,46,47,48,49]) []).1:=fun w=>by kernel_rfl
theorem b6B:∀w,((openEnds treeTable PySem.Challenge.rw_bundlehouse_k43_flat_rows.row.prog w 4268).map fun s=>((openSeen (HD.a1f PySem.Challenge.rw_bundlehouse_k43_flat_rows.prog [1,2,3,5,6,7,8,9,10,11,12,14,15,16,17,18,19,20,22,23,24,25,27,28,29,30,31,32,33,34,35,36,37,38,39,40,41,42,43,44,45,46,47,48,49]) [] (importedModules PySem.Challenge.rw_bundlehouse_k43_flat_rows.row.prog.main.body) (fun s=>xlAt (HD.a1f PySem.Challenge.rw_bundlehouse_k43_flat_rows.prog [1,2,3,5,6,7,8,9,10,11,12,14,15,16,17,18,19,20,22,23,24,25,27,28,29,30,31,32,33,34,35,36,37,38,39,40,41,42,43,44,45,46,47,48,49]) [] s && recOk (RowW.records PySem.Challenge.rw_bundlehouse_k43_flat_rows.row.toRowW) s) true s).2.1,(openSeen (HD.a1f PySem.Challenge.rw_bundlehouse_k43_flat_rows.prog [1,2,3,5,6,7,8,9,10,11,12,14,15,16,17,18,19,20,22,23,24,25,27,28,29,30,31,32,33,34,35,36,37,38,39,40,41,42,43,44,45,46,47,48,49]) [] (importedModules PySem.Challenge.rw_bundlehouse_k43_flat_rows.row.prog.main.body) (fun s=>xlAt (HD.a1f PySem.Challenge.rw_bundlehouse_k43_flat_rows.prog [1,2,3,5,6,7,8,9,10,11,12,14,15,16,17,18,19,20,22,23,24,25,27,28,29,30,31,32,33,34,35,36,37,38,39,40,41,42,43,44,45,46,47,48,49]) [] s && recOk (RowW.records PySem.Challenge.rw_bundlehouse_k43_flat_rows.row.toRowW) s) true s).2.2.1))=some ((openGood (HD.a1f PySem.Challenge.rw_bundlehouse_k43_flat_rows.prog [1,2,3,5,6,7,8,9,10,11,12,14,15,16,17,18,19,20,22,23,24,25,27,28,29,30,31,32,33,34,35,36,37,38,39,40,41,42,43,44,45,46,47,48,49]) []).2.1,(openGood (HD.a1f PySem.Challenge.rw_bundlehouse_k43_flat_rows.prog [1,2,3,5,6,7,8,9,10,11,12,14,15,16,17,18,19,20,22,23,24,25,27,28,29,30,31,32,33,34,35,36,37,38,39,40,41,42,43,44,45,46,47,48,49]) []).2.2.1):=fun w=>by kernel_rfl
theorem b6D:∀w,((openEnds treeTable PySem.Challenge.rw_bundlehouse_k43_flat_rows.row.prog w 4268).map fun s=>(openSeen (HD.a1f PySem.Challenge.rw_bundlehouse_k43_flat_rows.prog [1,2,3,5,6,7,8,9,10,11,12,14,15,16,17,18,19,20,22,23,24,25,27,28,29,30,31,32,33,34,35,36,37,38,39,40,41,42,43,44,45,46,47,48,49]) [] (importedModules PySem.Challenge.rw_bundlehouse_k43_flat_rows.row.prog.main.body) (fun s=>xlAt (HD.a1f PySem.Challenge.rw_bundlehouse_k43_flat_rows.prog [1,2,3,5,6,7,8,9,10,11,12,14,15,16,17,18,19,20,22,23,24,25,27,28,29,30,31,32,33,34,35,36,37,38,39,40,41,42,43,44,45,46,47,48,49]) [] s && recOk (RowW.records PySem.Challenge.rw_bundlehouse_k43_flat_rows.row.toRowW) s) true s).2.2.2)=some (openGood (HD.a1f PySem.Challenge.rw_bundlehouse_k43_flat_rows.prog [1,2,3,5,6,7,8,9,10,11,12,14,15,16,17,18,19,20,22,23,24,25,27,28,29,30,31,32,33,34,35,36,37,38,39,40,41,42,43,44,45,46,47,48,49]) []).2.2.2:=fun w=>by kernel_rfl
theorem b6x:∀w,((openEnds treeTable PySem.Challenge.rw_bundlehouse_k43_flat_rows.row.prog w 4268).map (kHook a6l a6y a8c).obs)=some ((kHook a6l a6y a8c).val w):=fun w=>by kernel_rfl
theorem b3a:LeftO PySem.Challenge.rw_bundlehouse_k43_flat_rows.row.prog (HD.a1f PySem.Challenge.rw_bundlehouse_k43_flat_rows.prog [1,2,3,5,6,7,8,9,10,11,12,14,15,16,17,18,19,20,22,23,24,25,27,28,29,30,31,32,33,34,35,36,37,38,39,40,41,42,43,44,45,46,47,48,49]) [] (fun s=>xlAt (HD.a1f PySem.Challenge.rw_bundlehouse_k43_flat_rows.prog [1,2,3,5,6,7,8,9,10,11,12,14,15,16,17,18,19,20,22,23,24,25,27,28,29,30,31,32,33,34,35,36,37,38,39,40,41,42,43,44,45,46,47,48,49]) [] s && recOk (RowW.records PySem.Challenge.rw_bundlehouse_k43_flat_rows.row.toRowW) s) (kHook a6l a6y a8c).obs (kHook a6l a6y a8c).val 4268:=HD.b3i b6p b6B b6D b6x
end K43
namespace L2
open PySem PySem.Spec PyProof.Rows
noncomputable abbrev Key:=Sum Int Str
noncomputable def a5E:Key->Value->Bool
 | .inl k,v=>Value.isInt k v
 | .inr x,v=>Value.isStrOf x v
noncomputable def b5Y (w:World):Key->Int
 | .inl k=>hashInt k
 | .inr x=>hashStr w x
theorem E8:∀{k:Key}{v:Value},a5E k v=true->(∃i t,k=Sum.inl i/\v=Value.int i t)\/(∃x t,k=Sum.inr x/\v=Value.str x t)
 | .inl i,v,h=>by
  obtain⟨t,e⟩:=Value.isInt_shape (k:=i) (v:=v) h
  exact .inl ⟨i,t,rfl,e⟩
 | .inr x,v,h=>by
  obtain⟨t,e⟩:=Value.isStrOf_shape (x:=x) (v:=v) h
  exact .inr ⟨x,t,rfl,e⟩
theorem b0z(i:Int)(t:Tok):a5E (.inl i) (.int i t)=true:=by simp[a5E,Value.isInt]
theorem b0G(x:Str)(t:Tok):a5E (.inr x) (.str x t)=true:=by simp[a5E,Value.isStrOf]
theorem b4E(a b:Int):decide ((Sum.inl a:Key)=Sum.inl b)=(a==b):=by
 by_cases e:a=b
 ·subst e;simp
 ·have h:¬(Sum.inl a:Key)=Sum.inl b:=fun q=>e (Sum.inl.inj q)
  rw[decide_eq_false h]
  exact(beq_eq_false_iff_ne.mpr e).symm
theorem b4G(a b:Str):decide ((Sum.inr a:Key)=Sum.inr b)=decide (a=b):=by
 by_cases e:a=b
 ·subst e;simp
 ·have h:¬(Sum.inr a:Key)=Sum.inr b:=fun q=>e (Sum.inr.inj q)
  rw[decide_eq_false h,decide_eq_false e]
theorem b5e(a:Int)(b:Str):decide ((Sum.inl a:Key)=Sum.inr b)=false:=decide_eq_false (fun q=>nomatch q)
theorem b4U(a:Str)(b:Int):decide ((Sum.inr a:Key)=Sum.inl b)=false:=decide_eq_false (fun q=>nomatch q)
noncomputable def Z3 (prog:Program) (w:World):PySem.KeyKind prog w Key where
 is:=a5E
 hash:=b5Y w
 inj:=fun v a b ha hb=>by
  rcases E8 ha with⟨i,t,rfl,rfl⟩ | ⟨x,t,rfl,rfl⟩
  ·rcases E8 hb with⟨j,u,rfl,e⟩ | ⟨y,u,rfl,e⟩
   ·injection e with e1 _;rw[e1]
   ·exact nomatch e
  ·rcases E8 hb with⟨j,u,rfl,e⟩ | ⟨y,u,rfl,e⟩
   ·exact nomatch e
   ·injection e with e1 _;rw[e1]
 byValue:=fun k v h=>by
  rcases E8 h with⟨i,t,rfl,rfl⟩ | ⟨x,t,rfl,rfl⟩<;>rfl
 pyHash:=fun hv h=>by
  rcases E8 hv with⟨i,t,rfl,rfl⟩ | ⟨x,t,rfl,rfl⟩
  ·exact wpAny_pyHash_int h
  ·exact wpAny_pyHash_str h
 eqBool:=fun hu hv h=>by
  rcases E8 hu with⟨i,t,rfl,rfl⟩ | ⟨x,t,rfl,rfl⟩
  ·rcases E8 hv with⟨j,u,rfl,rfl⟩ | ⟨y,u,rfl,rfl⟩
   ·rw[b4E]at h;exact wpAny_eqBool_int h
   ·rw[b5e]at h;exact SeqAt.EqAt.int_str i t y u _ _ _ _ h
  ·rcases E8 hv with⟨j,u,rfl,rfl⟩ | ⟨y,u,rfl,rfl⟩
   ·rw[b4U]at h;exact SeqAt.EqAt.str_int x t j u _ _ _ _ h
   ·rw[b4G]at h;exact wpAny_eqBool_str h
 «strs»:=fun k x t v h=>by
  rcases E8 h with⟨i,u,rfl,e⟩ | ⟨y,u,rfl,e⟩
  ·exact nomatch e
  ·injection e with e1 _
   subst e1
   cases v<;>rfl
theorem a7m(prog:Program)(w:World)(i:Int)(t:Tok):(Z3 prog w).is (.inl i) (.int i t)=true:=b0z i t
theorem a4v(prog:Program)(w:World)(x:Str)(t:Tok):(Z3 prog w).is (.inr x) (.str x t)=true:=b0G x t
end L2
namespace L2
open PySem PySem.Spec PyProof.Rows
inductive V where
 | non | bl (b:Bool) | int (i:Int) | str (x:Str) | byt (b:Array UInt8) | flt (b:UInt64) | ref (a:Addr) | ty (n:String)
 deriving DecidableEq
noncomputable def W7:V->Value->Prop
 | .non,u=>u=Value.none
 | .bl b,u=>u=Value.bool b
 | .int i,u=>∃t,u=Value.int i t
 | .str x,u=>∃t,u=Value.str x t
 | .byt b,u=>∃t,u=Value.bytes b t
 | .flt b,u=>∃t,u=Value.float b t
 | .ref a,u=>u=Value.ref a
 | .ty n,u=>u=Value.type n
noncomputable abbrev W5:List V->List Value->Prop:=Paired W7
theorem W5.length{xs:List V}{us:List Value}(r:W5 xs us):xs.length=us.length:=Paired.length r
theorem W5.get:∀{xs:List V}{us:List Value}{i:Nat}{x:V},W5 xs us->xs[i]?=some x->∃u,us[i]?=some u/\W7 x u
 | _,_,_,_,.nil,e=>by simp at e
 | _,_,0,_,.cons r _,e=>by simp at e;subst e;exact⟨_,rfl,r⟩
 | _,_,i+1,x,.cons _ t,e=>by
  obtain⟨u,h1,h2⟩:=W5.get (i:=i) (x:=x) t (by simpa using e)
  exact⟨u,by simpa using h1,h2⟩
theorem W5.set{x:V}{u:Value}(r:W7 x u):∀{xs:List V}{us:List Value}(i:Nat),W5 xs us->W5 (xs.set i x) (us.set i u)
 | _,_,_,.nil=> .nil
 | _,_,0,.cons _ t=> .cons r t
 | _,_,i+1,.cons q t=> .cons q (W5.set r i t)
theorem W5.append:∀{xs ys:List V}{us ws:List Value},W5 xs us->W5 ys ws->W5 (xs++ys) (us++ws)
 | _,_,_,_,.nil,s=>s
 | _,_,_,_,.cons r t,s=> .cons r (W5.append t s)
theorem W5.take:∀{xs:List V}{us:List Value}(n:Nat),W5 xs us->W5 (xs.take n) (us.take n)
 | _,_,0,_=> .nil
 | _,_,_+1,.nil=> .nil
 | _,_,n+1,.cons r t=> .cons r (W5.take n t)
theorem W5.drop:∀{xs:List V}{us:List Value}(n:Nat),W5 xs us->W5 (xs.drop n) (us.drop n)
 | _,_,0,r=>r
 | _,_,_+1,.nil=> .nil
 | _,_,n+1,.cons _ t=>W5.drop n t
noncomputable def a5m:Option V->Option Value->Prop
 | some v,some u=>W7 v u
 | none,none=>True
 | _,_=>False
noncomputable def KV {κ:Type}:List (κ×V)->List (κ×Value)->Prop:=Paired fun(p:κ×V)(q:κ×Value)=>p.1=q.1/\W7 p.2 q.2
noncomputable def kV:Key->V
 | .inl i=> .int i
 | .inr x=> .str x
inductive HO where
 | lst (xs:List V)
 | tup (xs:List V)
 | dK (kvs:List (Key×V)) | dT (kvs:List (List Key×V))
 | set (S:Int->Bool) (n:Nat)
 | ins (C dx:Addr) (fs:List (Str×V))
 | own (x:Addr)
 | xd (fs:List (Str×V))
 | met (f x:Addr)
 | rng (lo hi:Int)
 | frz (o:Obj) (u:HO)
 | tbl (ps:Array Value)
 | ext (φ:Heap->Prop)
noncomputable abbrev Hp:=Addr->Option HO
noncomputable def upd (H:Hp) (a:Addr) (o:HO):Hp:=fun b=>if b=a then some o else H b
theorem G1{H:Hp}{a:Addr}{o:HO}:upd H a o a=some o:=by unfold upd;rw[if_pos rfl]
theorem G8{H:Hp}{a b:Addr}{o:HO}(h:b≠a):upd H a o b=H b:=by unfold upd;rw[if_neg h]
theorem b2J{H:Hp}{a:Addr}{o u:HO}:upd (upd H a o) a u=upd H a u:=by
 funext b;unfold upd;split<;>rfl
theorem a7u{H:Hp}{a b:Addr}{o u:HO}(h:H a=some o)(h':H b=some u)(d:o≠u):a≠b:=by
 intro e;subst e;rw[h]at h';exact d (Option.some.inj h')
theorem Y4{H:Hp}{a b:Addr}{o:HO}(h:H a=some o)(h':H b=none):a≠b:=by
 intro e;subst e;rw[h]at h';cases h'
section
variable(P:Program)(w:World)
noncomputable def Z7 (H:Hp) (h:Heap) (a:Addr):HO->Prop
 | .lst xs=>xs.length<=sizeLine/\∃(its:List Value)(n:Nat),W5 xs its/\h.get? a=some {cls:= .type "list",data:= .seq its.toArray n}
 | .tup xs=>xs.length<=sizeLine/\∃its:List Value,W5 xs its/\IsTup h a its.toArray
 | .dK kvs=>kvs.length<=sizeLine/\(a==sysModules)=false/\∃vs,KV kvs vs/\h.DictOf (Z3 P w) a vs
 | .dT kvs=>kvs.length<=sizeLine/\(a==sysModules)=false/\∃xs:List (List Key×Addr×Value),
   Paired (fun(p:List Key×V)(q:List Key×Addr×Value)=>p.1=q.1/\H q.2.1=some (.tup (p.1.map kV))/\W7 p.2 q.2.2) kvs xs/\
   ∃o es ep,h.get? a=some o/\o.ExactDict/\o.data= .dict es ep/\es.toList=xs.map (entryOfKey (tupleKind (Z3 P w)))/\(xs.map (·.1)).Nodup
 | .set S n=>h.SetOf (intKind P w) a S n
 | .ins C dx fs=>H dx=some (.own a)/\fs.length<=1000/\dx≠a/\h.get? a=some (PySem.W.instObj C dx)/\
   ∃mA,h.Ns1 dx mA/\(∀f,a5m (fs.lookup f) (mA f))/\PySem.Within mA (fs.map (·.1))
 | .own _=>∃o,h.get? a=some o
 | .xd fs=>∃mA,h.Ns1 a mA/\∀f,a5m (fs.lookup f) (mA f)
 | .rng lo hi=>∃t u v,h.get? a=some {cls:= .type "range",data:= .fields #[.int lo t,.int hi u,.int 1 v]}
 | .frz o u=>h.get? a=some o/\Z7 H h a u
 | .tbl ps=>h.get? a=some {cls:= .none,data:= .fields ps}
 | .met f x=>h.get? a=some (PySem.W.methodObj (.ref f) (.ref x))
 | .ext φ=>φ h/\(∃o,h.get? a=some o)/\∀h1 h2:Heap,φ h1->(∀o,h1.get? a=some o->h2.get? a=some o)->φ h2
noncomputable def HOk (H:Hp) (h:Heap):Prop:=∀a o,H a=some o->Z7 P w H h a o
end
section
variable{P:Program}{w:World}{H H':Hp}{h h':Heap}{a:Addr}{o:HO}
theorem Z7.lt(x:Z7 P w H h a o):a < h.objs.size:=by
 cases o with
 | lst xs=>obtain⟨_,_,_,_,e⟩:=x;exact Heap.lt_size e
 | tup xs=>obtain⟨_,_,_,p⟩:=x;exact p.lt
 | dK kvs=>obtain⟨_,_,_,_,o,_,_,e,_⟩:=x;exact Heap.lt_size e
 | dT kvs=>obtain⟨_,_,_,_,o,_,_,e,_⟩:=x;exact Heap.lt_size e
 | set S n=>obtain⟨o,_,_,_,e,_⟩:=x;exact Heap.lt_size e
 | ins C dx fs=>obtain⟨_,_,_,e,_⟩:=x;exact Heap.lt_size e
 | own y=>obtain⟨_,e⟩:=x;exact Heap.lt_size e
 | xd fs=>obtain⟨_,⟨_,_,_,e,_⟩,_⟩:=x;exact Heap.lt_size e
 | rng lo hi=>obtain⟨_,_,_,e⟩:=x;exact Heap.lt_size e
 | frz ob u=>obtain⟨e,_⟩:=x;exact Heap.lt_size e
 | tbl ps=>exact Heap.lt_size (show h.get? a=some _ from x)
 | met f y=>exact Heap.lt_size (show h.get? a=some _ from x)
 | ext φ=>obtain⟨_,⟨_,e⟩,_⟩:=x;exact Heap.lt_size e
theorem Paired.mapP{α β:Type}{F G:α->β->Prop}:∀{l₁:List α}{l₂:List β},Paired F l₁ l₂->(∀a b,F a b->G a b)->Paired G l₁ l₂
 | _,_,.nil,_=> .nil
 | _,_,.cons r t,f=> .cons (f _ _ r) (Paired.mapP t f)
theorem Z7.stay(x:Z7 P w H h a o)(k:∀b u,(b=a\/H b=some (.own a))->h.get? b=some u->h'.get? b=some u)
  (ho:∀b,H b=some (.own a)->H' b=some (.own a))(ht:∀b xs,H b=some (.tup xs)->H' b=some (.tup xs)):Z7 P w H' h' a o:=by
 induction o with
 | lst xs=>obtain⟨z,its,n,r,e⟩:=x;exact⟨z,its,n,r,k _ _ (.inl rfl) e⟩
 | tup xs=>obtain⟨z,its,r,ob,e,c⟩:=x;exact⟨z,its,r,ob,k _ _ (.inl rfl) e,c⟩
 | dK kvs=>obtain⟨z,y,vs,r,ob,es,ep,e,c⟩:=x;exact⟨z,y,vs,r,ob,es,ep,k _ _ (.inl rfl) e,c⟩
 | dT kvs=>
  obtain⟨z,y,xs,r,ob,es,ep,e,c⟩:=x
  exact⟨z,y,xs,Paired.mapP r fun p q z=>⟨z.1,ht _ _ z.2.1,z.2.2⟩,ob,es,ep,k _ _ (.inl rfl) e,c⟩
 | set S n=>obtain⟨ob,es,ep,t,e,c⟩:=x;exact⟨ob,es,ep,t,k _ _ (.inl rfl) e,c⟩
 | ins C dx fs=>
  obtain⟨d,z,ne,e,mA,⟨od,es,ep,e2,c⟩,r⟩:=x
  exact⟨ho _ d,z,ne,k _ _ (.inl rfl) e,mA,⟨od,es,ep,k _ _ (.inr d) e2,c⟩,r⟩
 | own y=>obtain⟨ob,e⟩:=x;exact⟨ob,k _ _ (.inl rfl) e⟩
 | xd fs=>obtain⟨mA,⟨od,es,ep,e,c⟩,r⟩:=x;exact⟨mA,⟨od,es,ep,k _ _ (.inl rfl) e,c⟩,r⟩
 | rng lo hi=>obtain⟨t,u,v,e⟩:=x;exact⟨t,u,v,k _ _ (.inl rfl) e⟩
 | frz ob u ih=>obtain⟨e,q⟩:=x;exact⟨k _ _ (.inl rfl) e,ih q⟩
 | tbl ps=>
  have e:h.get? a=some {cls:= .none,data:= .fields ps}:=x
  show h'.get? a=some {cls:= .none,data:= .fields ps}
  exact k a _ (.inl rfl) e
 | met f y=>
  have e:h.get? a=some (PySem.W.methodObj (.ref f) (.ref y)):=x
  show h'.get? a=some (PySem.W.methodObj (.ref f) (.ref y))
  exact k a _ (.inl rfl) e
 | ext φ=>obtain⟨p,⟨o,e⟩,st⟩:=x;exact⟨st _ _ p fun o q=>k _ _ (.inl rfl) q,⟨o,k _ _ (.inl rfl) e⟩,st⟩
theorem HOk.lt(x:HOk P w H h)(e:H a=some o):a < h.objs.size:=(x a o e).lt
theorem HOk.fresh(x:HOk P w H h)(e:h.objs.size<=a):H a=none:=by
 cases q:H a with
 | none=>rfl
 | some u=>exact absurd (Nat.lt_of_lt_of_le (x.lt q) e) (Nat.lt_irrefl _)
theorem HOk.kept(x:HOk P w H h)(k:∀b u,h.get? b=some u->h'.get? b=some u):HOk P w H h':=fun a o e=>
 (x a o e).stay (fun b u _ q=>k b u q) (fun _ q=>q) fun _ _ q=>q
theorem HOk.laid(x:HOk P w H h)(k:∀b u,h.get? b=some u->h'.get? b=some u)(hp:h.objs.size<=a)(new:Z7 P w (upd H a o) h' a o):HOk P w (upd H a o) h':=fun b u e=>by
 have hn:=x.fresh hp
 by_cases hb:b=a
 ·subst hb;rw[G1]at e;cases e;exact new
 ·rw[G8 hb]at e
  exact(x b u e).stay (fun c v _ q=>k c v q) (fun c q=>by rw[G8 (Y4 q hn)];exact q) fun c xs q=>by rw[G8 (Y4 q hn)];exact q
end
noncomputable def Rd (H:Hp) (a:Addr) (u:HO):Prop:=H a=some u\/∃o,H a=some (.frz o u)
theorem Rd.ok{P:Program}{w:World}{H:Hp}{h:Heap}{a:Addr}{u:HO}(r:Rd H a u)(x:HOk P w H h):Z7 P w H h a u:=by
 rcases r with r | ⟨o,r⟩
 ·exact x a u r
 ·obtain⟨_,q⟩:=x a _ r
  exact q
noncomputable def Mut:Option HO->Prop
 | some (.lst _)=>True
 | some (.dK _)=>True
 | some (.dT _)=>True
 | some (.set _ _)=>True
 | some (.ins _ _ _)=>True
 | some (.ext _)=>True
 | _=>False
section
variable{P:Program}{w:World}{H:Hp}{h h':Heap}{x e:Addr}{o':HO}
theorem HOk.write(ok:HOk P w H h)(mu:Mut (H x))(he:e=x\/H e=some (.own x))(k:∀b u,b≠e->h.get? b=some u->h'.get? b=some u)(heo:∃u,h'.get? e=some u)
  (new:Z7 P w (upd H x o') h' x o'):HOk P w (upd H x o') h':=fun b u q=>by
 have nown:∀c y,H c=some (.own y)->c≠x:=fun c y r z=>by subst z;rw[r]at mu;exact mu
 have ntup:∀c xs,H c=some (.tup xs)->c≠x:=fun c xs r z=>by subst z;rw[r]at mu;exact mu
 by_cases hb:b=x
 ·subst hb;rw[G1]at q;cases q;exact new
 ·rw[G8 hb]at q
  by_cases hbe:b=e
  ·have q':H b=some (.own x):=by
    rcases he with z | z
    ·exact absurd (hbe.trans z) hb
    ·rw[hbe];exact z
   rw[q]at q';cases q'
   obtain⟨v,hv⟩:=heo
   exact⟨v,by rw[hbe];exact hv⟩
  ·refine(ok b u q).stay (fun c v hc r=>k c v ?_ r) (fun c r=>by rw[G8 (nown c b r)];exact r) fun c xs r=>by rw[G8 (ntup c xs r)];exact r
   rcases hc with rfl | hc
   ·exact hbe
   ·rintro rfl
    rcases he with z | z
    ·exact nown c b hc z
    ·rw[hc]at z;cases z;exact hb rfl
end
structure Un(fs ex:List Addr)(H H':Hp)(h h':Heap):Prop where
 keep:∀b o,h.get? b=some o->H b=none->b∉fs->b∉ex->h'.get? b=some o
 slot:∀b o,h.get? b=some o->H b=none->b∈fs->b∉ex->∃sl,h'.get? b=some {o with slots:=sl}
 free:∀b o,h.get? b=some o->H b=none->b∉ex->H' b=none
 there:∀b o,h.get? b=some o->b∉ex->∃o',h'.get? b=some o'
 tups:∀b xs,H b=some (.tup xs)->H' b=some (.tup xs)
 frzs:∀b o u,H b=some (.frz o u)->H' b=some (.frz o u)
 tbls:∀b ps,H b=some (.tbl ps)->∃more,H' b=some (.tbl (ps++more))
section
variable{fs fs' ex ex':List Addr}{H H1 H2:Hp}{h h1 h2 h':Heap}{a x e:Addr}{o:HO}
theorem Un.any(u:Un fs ex H H1 h h1){b:Addr}{ob:Obj}(q:h.get? b=some ob)(n:H b=none)(hx:b∉ex):∃sl,h1.get? b=some {ob with slots:=sl}:=by
 by_cases hb:b∈fs
 ·exact u.slot b ob q n hb hx
 ·exact⟨ob.slots,u.keep b ob q n hb hx⟩
theorem Un.kept(k:∀b u,h.get? b=some u->h'.get? b=some u):Un fs ex H H h h':=
 ⟨fun b ob q _ _ _=>k b ob q,fun b ob q _ _ _=>⟨ob.slots,k b ob q⟩,fun _ _ _ n _=>n,fun b ob q _=>⟨ob,k b ob q⟩,fun _ _ q=>q,fun _ _ _ q=>q,fun _ ps q=>⟨#[],by rw[q];simp⟩⟩
theorem Un.refl:Un fs ex H H h h:=Un.kept fun _ _ q=>q
theorem Un.laid(k:∀b u,h.get? b=some u->h'.get? b=some u)(hp:h.objs.size<=a)(hn:H a=none):Un fs ex H (upd H a o) h h' where
 keep:=fun b u q _ _ _=>k b u q
 slot:=fun b u q _ _ _=>⟨u.slots,k b u q⟩
 free:=fun b u q n _=>by rw[G8 (Nat.ne_of_lt (Nat.lt_of_lt_of_le (Heap.lt_size q) hp))];exact n
 there:=fun b u q _=>⟨u,k b u q⟩
 tups:=fun b xs q=>by rw[G8 (Y4 q hn)];exact q
 frzs:=fun b u xs q=>by rw[G8 (Y4 q hn)];exact q
 tbls:=fun b ps q=>⟨#[],by rw[G8 (Y4 q hn),q];simp⟩
theorem Un.write(mu:Mut (H x))(he:e=x\/H e=some (.own x))(k:∀b u,b≠e->h.get? b=some u->h'.get? b=some u)(heo:∃u,h'.get? e=some u):Un fs ex H (upd H x o) h h':=by
 have hx:∀b,H b=none->b≠x:=fun b n z=>by subst z;rw[n]at mu;exact mu
 have hb:∀b,H b=none->b≠e:=fun b n z=>by
  subst z
  rcases he with r | r
  ·exact hx b n r
  ·rw[n]at r;cases r
 have hm:∀b u,H b=some u->¬Mut (some u)->b≠x:=fun b u q nm z=>by subst z;rw[q]at mu;exact nm mu
 refine⟨fun b u q n _ _=>k b u (hb b n) q,fun b u q n _ _=>⟨u.slots,k b u (hb b n) q⟩,fun b u q n _=>by rw[G8 (hx b n)];exact n,fun b u q _=>?_,
  fun b xs q=>by rw[G8 (hm b _ q fun z=>z)];exact q,fun b u xs q=>by rw[G8 (hm b _ q fun z=>z)];exact q,fun b ps q=>⟨#[],by rw[G8 (hm b _ q fun z=>z),q];simp⟩⟩
 by_cases hbe:b=e
 ·subst hbe;exact heo
 ·exact⟨u,k b u hbe q⟩
end
noncomputable def trk (h:Heap) (H:Hp):List Addr:=(List.range h.objs.size).filter fun a=>(H a).isSome
noncomputable def a6G (h:Heap) (H:Hp):Heap:=PySem.W.hideAll h (trk h H)
theorem b0p(h:Heap)(H:Hp):(a6G h H).objs.size=h.objs.size:=PySem.W.hideAll_size _ _
theorem b1x{h:Heap}{H:Hp}{b:Addr}{o:Obj}(e:h.get? b=some o)(n:H b=none):(a6G h H).get? b=some o:=
 PySem.W.hideAll_get _ e fun hm=>by
  have q:(H b).isSome=true:=(List.mem_filter.mp hm).2
  rw[n]at q;simp at q
theorem b3d{h:Heap}{H:Hp}{b:Addr}{o:Obj}(e:(a6G h H).get? b=some o):h.get? b=some o/\H b=none:=by
 have e':h.get? b=some o:=PySem.W.of_hideAll (trk h H) e
 refine⟨e',?_⟩
 cases q:H b with
 | none=>rfl
 | some x=>
  have hm:b∈trk h H:=List.mem_filter.mpr ⟨List.mem_range.mpr (Heap.lt_size e'),by simp[q]⟩
  have z:(a6G h H).get? b=none:=PySem.W.hideAll_none (trk h H) hm
  rw[z]at e;cases e
end L2
namespace L2
open PySem PySem.Spec PyProof.Rows
structure Mod(K:PySem.W.Frag)(mg:Str->Option Value)(base:Heap):Prop where
 kin:K.In base
 glob:base.Ns mainGlobals mg
 blt:∃mb,base.Ns builtinsNs mb/\∀x:Str,x≠ "__name__" ->mb x=bootBuiltins x
 nolimit:base.NoLimit
structure Cx where
 prog:Program
 w:World
 K:PySem.W.Frag
 mg:Str->Option Value
 base:Heap
 A:Around
 N:List Str
 s₀:Shared
 H₀:Hp
 env:Env
 outer:List Env
 stack:List Env
 ex:List Addr
 fn:Str->Bool
 calm:Bool
 pn:List (Addr×Obj)
 xe:Value->Shared->Prop
noncomputable def frs (l:List Env):List Addr:=l.filterMap (·.frame)
noncomputable abbrev Cx.fs (X:Cx):List Addr:=frs X.outer
noncomputable def Vis (sc:Scope) (x:Str):Prop:=sc.names.lookup x=some .local\/sc.names.lookup x=some .cell\/sc.names.lookup x=some .free
noncomputable def Loc (sc:Scope) (x:Str):Prop:=sc.names.lookup x=some .local\/sc.names.lookup x=some .cell
noncomputable def b6t (env:Env) (h:Heap) (m:Str->Option Value) (x:Str) (u:Value):Prop:=
 (env.kindOf x=some .local/\m x=some u)\/((env.kindOf x=some .cell\/env.kindOf x=some .free)/\∃c,env.cells.lookup x=some c/\h.IsCell c (some u))
structure Cx.Ok(X:Cx):Prop where
 mod:Mod X.K X.mg X.base
 kind:X.env.scope.kind= .function
 glob:X.env.globals=mainGlobals
 blt:X.env.builtins=builtinsNs
 above:X.s₀.heap.objs.size<=X.env.locals
 inj:∀x y c,X.env.cells.lookup x=some c->X.env.cells.lookup y=some c->x=y
 has:∀x,(X.env.kindOf x=some .cell\/X.env.kindOf x=some .free)->∃c,X.env.cells.lookup x=some c
 cab:∀x c,X.fn x=true->X.env.cells.lookup x=some c->X.s₀.heap.objs.size<=c
 hd:X.calm=true->X.A.handled=none
 frames:X.A.frames=some X.stack
 stk:X.stack=X.outer\/(X.stack=X.env::X.outer/\X.env.frame=some X.env.locals)
 exf:∀b∈X.ex,b≠X.env.locals/\∀x c,X.env.cells.lookup x=some c->c≠b
 bs:∀b o,X.base.get? b=some o->X.s₀.heap.get? b=some o/\X.H₀ b=none
 bsz:X.base.objs.size<=X.s₀.heap.objs.size
 noex:∀b o,X.base.get? b=some o->b∉X.ex
 exfs:∀b∈X.ex,b∉X.fs
 funs:X.s₀.heap.FunFrames X.base X.outer
 frf:∀b∈X.fs,X.H₀ b=none
structure Inv(X:Cx)(pins:List (Addr×Obj))(σ:List (Option V))(H:Hp)(s:Shared):Prop where
 ok:X.Ok
 os:s.os=X.s₀.os
 bare:AllBare s.gens
 base:Un X.fs X.ex X.H₀ H X.s₀.heap s.heap
 loc:∃m,s.heap.Ns X.env.locals m/\∀(i:Nat)(x:Str)(v:V),X.N[i]?=some x->σ[i]?=some (some v)->Vis X.env.scope x->∃u,W7 v u/\b6t X.env s.heap m x u
 cell:∀x c,X.env.cells.lookup x=some c->∃v,s.heap.IsCell c v
 free:H X.env.locals=none
 freeC:∀x c,X.env.cells.lookup x=some c->H c=none
 pin:∀p∈X.pn++pins,s.heap.get? p.1=some p.2/\H p.1=none/\p.1≠X.env.locals/\p.1∉X.fs/\∀v,p.2.data≠ .cell v
 hok:HOk X.prog X.w H s.heap
 len:σ.length=X.N.length
section
variable{X:Cx}{pins:List (Addr×Obj)}{σ:List (Option V)}{H H':Hp}{s:Shared}{h':Heap}
theorem Cx.Ok.nofr(ok:X.Ok){b:Addr}{o:Obj}(e:X.base.get? b=some o):b∉X.fs:=fun hb=>by
 have:=(ok.funs.mem hb).1
 rw[e]at this;cases this
theorem Inv.bs(I:Inv X pins σ H s):∀b o,X.base.get? b=some o->s.heap.get? b=some o/\H b=none:=fun b o e=>
 ⟨I.base.keep b o (I.ok.bs b o e).1 (I.ok.bs b o e).2 (I.ok.nofr e) (I.ok.noex b o e),I.base.free b o (I.ok.bs b o e).1 (I.ok.bs b o e).2 (I.ok.noex b o e)⟩
theorem Inv.bk(I:Inv X pins σ H s):∀b o,X.base.get? b=some o->s.heap.get? b=some o:=fun b o e=>(I.bs b o e).1
theorem Inv.mod(I:Inv X pins σ H s):Mod X.K X.mg X.base:=I.ok.mod
theorem Inv.kIn(I:Inv X pins σ H s):X.K.In s.heap:=I.ok.mod.kin.keeps I.bk
theorem Inv.lt(I:Inv X pins σ H s):X.env.locals < s.heap.objs.size:=let⟨_,hn,_⟩:=I.loc;hn.lt
theorem Inv.sz(I:Inv X pins σ H s):X.s₀.heap.objs.size<=s.heap.objs.size:=Nat.le_trans I.ok.above (Nat.le_of_lt I.lt)
theorem Inv.nofs(I:Inv X pins σ H s){a:Addr}(h:s.heap.objs.size<=a):a∉X.fs:=fun hb=>by
 obtain⟨_,o,ho,_⟩:=I.ok.funs.mem hb
 exact absurd (Nat.lt_of_lt_of_le (Heap.lt_size ho) (Nat.le_trans I.sz h)) (Nat.lt_irrefl _)
theorem Inv.cne(I:Inv X pins σ H s):∀x c,X.env.cells.lookup x=some c->c≠X.env.locals:=fun x c e z=>by
 obtain⟨v,o,ho,hd⟩:=I.cell x c e
 obtain⟨m,⟨o',es,ep,ho',hd',_⟩,_⟩:=I.loc
 rw[z,ho']at ho;cases ho;rw[hd']at hd;cases hd
theorem Inv.funs(I:Inv X pins σ H s):s.heap.FunFrames X.base X.outer:=by
 have all:∀(l:List Env),(∀b∈frs l,b∈X.fs)->X.s₀.heap.FunFrames X.base l->s.heap.FunFrames X.base l:=by
  intro l
  induction l with
  | nil=>intro _ _;trivial
  | cons env r ih=>
   intro hs hl
   obtain⟨hk,⟨L,o,hf,hn,ho,hd⟩,hr⟩:=hl
   have hL:L∈X.fs:=hs L (by unfold frs;rw[List.filterMap_cons,hf];exact List.mem_cons_self)
   obtain⟨sl,e⟩:=I.base.slot L o ho (I.ok.frf L hL) hL fun z=>I.ok.exfs L z hL
   exact⟨hk,⟨L,_,hf,hn,e,hd⟩,ih (fun b hb=>hs b (by unfold frs;rw[List.filterMap_cons,hf];exact List.mem_cons_of_mem _ hb)) hr⟩
 exact all X.outer (fun _ hb=>hb) I.ok.funs
theorem Inv.stack(I:Inv X pins σ H s):s.heap.FunFrames X.base X.stack:=by
 rcases I.ok.stk with e | ⟨e,hf⟩
 ·rw[e];exact I.funs
 ·rw[e]
  obtain⟨m,hn,_⟩:=I.loc
  refine .cons (by rw[I.ok.kind];decide) hf hn ?_ I.funs
  exact Heap.get?_none_of_le (Nat.le_trans I.ok.bsz I.ok.above)
theorem Inv.stkSub(I:Inv X pins σ H s):∀b∈frs X.stack,b∈X.env.locals::X.fs:=fun b hb=>by
 rcases I.ok.stk with e | ⟨e,hf⟩
 ·rw[e]at hb;exact List.mem_cons_of_mem _ hb
 ·rw[e]at hb
  unfold frs at hb
  rw[List.filterMap_cons,hf]at hb
  exact hb
theorem Inv.stkFree(I:Inv X pins σ H s):∀b∈frs X.stack,H b=none:=fun b hb=>by
 rcases List.mem_cons.mp (I.stkSub b hb)with e | hb
 ·rw[e];exact I.free
 ·obtain⟨_,o,ho,_⟩:=I.ok.funs.mem hb
  exact I.base.free b o ho (I.ok.frf b hb) fun z=>I.ok.exfs b z hb
theorem Inv.step{g':Array GenState}{t':Nat}{d':Drawn}{ch:List Addr}(I:Inv X pins σ H s)
  (hch:∀b∈ch,(b∈X.ex\/X.s₀.heap.objs.size<=b)/\b≠X.env.locals/\(∀x c,X.env.cells.lookup x=some c->c≠b)/\∀p∈X.pn++pins,p.1≠b)
  (keep:∀b o,b≠X.env.locals->b∉X.fs->b∉ch->s.heap.get? b=some o->H b=none->h'.get? b=some o)
  (slot:∀b o,b≠X.env.locals->b∈X.fs->b∉ch->s.heap.get? b=some o->H b=none->∃sl,h'.get? b=some {o with slots:=sl})(free:∀b o,b∉ch->s.heap.get? b=some o->H b=none->H' b=none)
  (there:∀b o,b∉ch->s.heap.get? b=some o->∃o',h'.get? b=some o')
  (tups:∀b xs,H b=some (.tup xs)->H' b=some (.tup xs))(frzs:∀b o u,H b=some (.frz o u)->H' b=some (.frz o u))(tbls:∀b ps,H b=some (.tbl ps)->∃more,H' b=some (.tbl (ps++more)))
  (ns:∀m,s.heap.Ns X.env.locals m->h'.Ns X.env.locals m)(hok:HOk X.prog X.w H' h')(hg:AllBare g'):
  Inv X pins σ H' {s with heap:=h',gens:=g',drawn:=d',toks:=t'}:=by
 have neL:∀b o,X.s₀.heap.get? b=some o->b≠X.env.locals:=fun b o e=>Nat.ne_of_lt (Nat.lt_of_lt_of_le (Heap.lt_size e) I.ok.above)
 have neC:∀b o,X.s₀.heap.get? b=some o->b∉X.ex->b∉ch:=fun b o e hx hb=>by
  rcases(hch b hb).1 with z | z
  ·exact hx z
  ·exact absurd (Nat.lt_of_lt_of_le (Heap.lt_size e) z) (Nat.lt_irrefl _)
 have cellK:∀x c,X.env.cells.lookup x=some c->∀v,s.heap.IsCell c v->h'.IsCell c v:=fun x c e v⟨o,ho,hd⟩=>by
  have nch:c∉ch:=fun z=>(hch c z).2.2.1 x c e rfl
  by_cases hc:c∈X.fs
  ·obtain⟨sl,q⟩:=slot c o (I.cne x c e) hc nch ho (I.freeC x c e)
   exact⟨_,q,hd⟩
  ·exact⟨o,keep c o (I.cne x c e) hc nch ho (I.freeC x c e),hd⟩
 refine⟨I.ok,I.os,hg,⟨fun b o e n hb hx=>?_,fun b o e n hb hx=>?_,fun b o e n hx=>?_,fun b o e hx=>?_,fun b xs e=>tups b xs (I.base.tups b xs e),fun b o xs e=>frzs b o xs (I.base.frzs b o xs e),fun b ps e=>?_⟩,?_,fun x c e=>?_,?_,fun x c e=>?_,fun p hp=>?_,hok,I.len⟩
 ·exact keep b o (neL b o e) hb (neC b o e hx) (I.base.keep b o e n hb hx) (I.base.free b o e n hx)
 ·obtain⟨sl,e1⟩:=I.base.slot b o e n hb hx
  obtain⟨sl',e2⟩:=slot b _ (neL b o e) hb (neC b o e hx) e1 (I.base.free b o e n hx)
  exact⟨sl',e2⟩
 ·obtain⟨o',e1⟩:=I.base.there b o e hx
  exact free b o' (neC b o e hx) e1 (I.base.free b o e n hx)
 ·obtain⟨o',e1⟩:=I.base.there b o e hx
  exact there b o' (neC b o e hx) e1
 ·obtain⟨m1,e1⟩:=I.base.tbls b ps e
  obtain⟨m2,e2⟩:=tbls b _ e1
  exact⟨m1++m2,by rw[e2,Array.append_assoc]⟩
 ·obtain⟨m,hn,hl⟩:=I.loc
  refine⟨m,ns m hn,fun i x v e1 e2 e3=>?_⟩
  obtain⟨u,r,l⟩:=hl i x v e1 e2 e3
  refine⟨u,r,?_⟩
  rcases l with l | ⟨k,c,e,z⟩
  ·exact .inl l
  ·exact .inr ⟨k,c,e,cellK x c e _ z⟩
 ·obtain⟨v,z⟩:=I.cell x c e
  exact⟨v,cellK x c e v z⟩
 ·obtain⟨m,⟨o,_,_,ho,_⟩,_⟩:=I.loc
  exact free _ o (fun z=>(hch _ z).2.1 rfl) ho I.free
 ·obtain⟨v,o,ho,hd⟩:=I.cell x c e
  exact free c o (fun z=>(hch c z).2.2.1 x c e rfl) ho (I.freeC x c e)
 ·obtain⟨e,n,ne,nf,d⟩:=I.pin p hp
  have nch:p.1∉ch:=fun z=>(hch p.1 z).2.2.2 p hp rfl
  exact⟨keep p.1 p.2 ne nf nch e n,free p.1 p.2 nch e n,ne,nf,d⟩
theorem Inv.un{t':Nat}(I:Inv X pins σ H s)(u:Un X.fs [] H H' s.heap h')(hok:HOk X.prog X.w H' h'):Inv X pins σ H' {s with heap:=h',toks:=t'}:=by
 obtain⟨m,⟨o,es,ep,ho,r⟩,_⟩:=id I.loc
 obtain⟨sl,hL⟩:=u.any ho I.free (by simp)
 exact I.step (g':=s.gens) (d':=s.drawn) (ch:=[]) (fun _ z=>nomatch z) (fun b o _ hb _ e n=>u.keep b o e n hb (by simp)) (fun b o _ hb _ e n=>u.slot b o e n hb (by simp)) (fun b o _ e n=>u.free b o e n (by simp)) (fun b o _ e=>u.there b o e (by simp)) u.tups u.frzs u.tbls (fun m' hm=>by
  obtain⟨o',es',ep',ho',r'⟩:=hm
  rw[ho]at ho';cases ho'
  exact⟨_,es',ep',hL,r'⟩) hok I.bare
theorem Inv.call{g':Array GenState}{t':Nat}{d':Drawn}{ch:List Addr}(I:Inv X pins σ H s)(u:Un (frs X.stack) ch H H' s.heap h')(hok:HOk X.prog X.w H' h')(hg:AllBare g')
  (hch:∀b∈ch,(b∈X.ex\/X.s₀.heap.objs.size<=b)/\b≠X.env.locals/\(∀x c,X.env.cells.lookup x=some c->c≠b)/\∀p∈X.pn++pins,p.1≠b):
  Inv X pins σ H' {s with heap:=h',gens:=g',drawn:=d',toks:=t'}:=by
 obtain⟨m,⟨o,es,ep,ho,r⟩,_⟩:=id I.loc
 obtain⟨sl,hL⟩:=u.any ho I.free fun z=>(hch _ z).2.1 rfl
 exact I.step (ch:=ch) hch (fun b o hL hb hc e n=>u.keep b o e n (fun z=>(List.mem_cons.mp (I.stkSub b z)).elim hL hb) hc) (fun b o _ _ hc e n=>u.any e n hc) (fun b o hc e n=>u.free b o e n hc) (fun b o hc e=>u.there b o e hc) u.tups u.frzs u.tbls (fun m' hm=>by
  obtain⟨o',es',ep',ho',r'⟩:=hm
  rw[ho]at ho';cases ho'
  exact⟨_,es',ep',hL,r'⟩) hok hg
theorem Inv.turned{t':Nat}{it:Addr}(I:Inv X pins σ H s)(k:∀b o,b≠it->s.heap.get? b=some o->h'.get? b=some o)(hn:H it=none)(hL:it≠X.env.locals)
  (h1:it∈X.ex\/X.s₀.heap.objs.size<=it)(h2:∀x c,X.env.cells.lookup x=some c->c≠it)(h3:∀p∈X.pn++pins,p.1≠it):Inv X pins σ H {s with heap:=h',toks:=t'}:=by
 have nit:∀b u,H b=some u->b≠it:=fun b u e z=>by rw[z,hn]at e;cases e
 refine I.step (g':=s.gens) (d':=s.drawn) (ch:=[it]) (fun b hb=>?_) (fun b o _ _ hc e _=>k b o (fun z=>hc (by simp[z])) e) (fun b o _ _ hc e _=>⟨o.slots,k b o (fun z=>hc (by simp[z])) e⟩) (fun _ _ _ _ n=>n)
  (fun b o hc e=>⟨o,k b o (fun z=>hc (by simp[z])) e⟩) (fun _ _ e=>e) (fun _ _ _ e=>e) (fun b ps e=>⟨#[],by rw[e];simp⟩) (fun m hm=>?_) (fun b u e=>?_) I.bare
 ·have e:b=it:=by simpa using hb
  subst e
  exact⟨h1,hL,h2,h3⟩
 ·obtain⟨o,es,ep,ho,r⟩:=hm
  exact⟨o,es,ep,k _ o (Ne.symm hL) ho,r⟩
 ·refine(I.hok b u e).stay (fun c v hc q=>k c v ?_ q) (fun _ q=>q) fun _ _ q=>q
  rcases hc with z | z
  ·rw[z];exact nit b u e
  ·exact nit c _ z
theorem Inv.tok(I:Inv X pins σ H s)(t:Nat):Inv X pins σ H {s with toks:=t}:=I.un (h':=s.heap) (t':=t) Un.refl I.hok
theorem Inv.kept{t':Nat}(I:Inv X pins σ H s)(k:∀b u,s.heap.get? b=some u->h'.get? b=some u):Inv X pins σ H {s with heap:=h',toks:=t'}:=I.un (Un.kept k) (I.hok.kept k)
theorem Inv.laid{a:Addr}{o:HO}{t':Nat}(I:Inv X pins σ H s)(k:∀b u,s.heap.get? b=some u->h'.get? b=some u)(hp:s.heap.objs.size<=a)(new:Z7 X.prog X.w (upd H a o) h' a o):
  Inv X pins σ (upd H a o) {s with heap:=h',toks:=t'}:=I.un (Un.laid k hp (I.hok.fresh hp)) (I.hok.laid k hp new)
theorem Inv.write{x e:Addr}{o:HO}{t':Nat}(I:Inv X pins σ H s)(mu:Mut (H x))(he:e=x\/H e=some (.own x))(k:∀b u,b≠e->s.heap.get? b=some u->h'.get? b=some u)(heo:∃u,h'.get? e=some u)
  (new:Z7 X.prog X.w (upd H x o) h' x o):Inv X pins σ (upd H x o) {s with heap:=h',toks:=t'}:=I.un (Un.write mu he k heo) (I.hok.write mu he k heo new)
theorem Inv.pins_of{pins':List (Addr×Obj)}(I:Inv X pins σ H s)(h:∀p∈pins',s.heap.get? p.1=some p.2/\H p.1=none/\p.1≠X.env.locals/\p.1∉X.fs/\∀v,p.2.data≠ .cell v):Inv X pins' σ H s:=
 ⟨I.ok,I.os,I.bare,I.base,I.loc,I.cell,I.free,I.freeC,fun p hp=>(List.mem_append.mp hp).elim (fun z=>I.pin p (List.mem_append_left _ z)) (h p),I.hok,I.len⟩
theorem a7l{N:List Str}(hN:N.Nodup){i j:Nat}{x:Str}(a:N[i]?=some x)(b:N[j]?=some x):i=j:=by
 obtain⟨h1,e1⟩:=List.getElem?_eq_some_iff.mp a
 obtain⟨h2,e2⟩:=List.getElem?_eq_some_iff.mp b
 exact(List.getElem_inj hN).mp (e1.trans e2.symm)
theorem a5M{M:Model}{A:Around}{E:Value->Shared->Prop}{i:Nat}{x:Str}{v:V}{u:Value}{Q:Unit->Shared->Prop}(I:Inv X pins σ H s)(hN:X.N.Nodup)(hi:X.N[i]?=some x)(hx:Loc X.env.scope x)(r:W7 v u)
  (h:∀s',Inv X pins (σ.set i (some v)) H s'->(∃a,Heap.SameBut a s.heap s'.heap/\(a=X.env.locals\/X.env.cells.lookup x=some a))->Q () s')(hf:X.fn x=true\/X.env.scope.names.lookup x=some .local:=by first | exact .inl rfl | exact .inr rfl | assumption):wpAny M A (storeName X.env x u) Q E s:=by
 obtain⟨m,hn,hl⟩:=id I.loc
 have hcls:(X.env.scope.kind== .class || (X.env.scope.kind== .module && X.env.locals != X.env.globals))=false:=by rw[I.ok.kind];rfl
 have hiσ:i < σ.length:=by rw[I.len];exact(List.getElem?_eq_some_iff.mp hi).1
 have cne:=I.cne
 have tracked:∀{a:Addr}{h':Heap},(∃o,s.heap.get? a=some o/\H a=none)->Heap.SameBut a s.heap h'->HOk X.prog X.w H h':=fun{a h'}ha hs b ob e=>by
  obtain⟨_,_,hfree⟩:=ha
  refine(I.hok b ob e).stay (fun c w' hc q=>(hs.2 c ?_).trans q) (fun _ q=>q) fun _ _ q=>q
  rintro rfl
  rcases hc with rfl | hc
  ·rw[hfree]at e;cases e
  ·rw[hfree]at hc;cases hc
 rcases hx with hk | hk
 ·refine wpAny_storeName_local hk hn (fun h' hn' hs=>?_) hcls
  obtain⟨oL,_,_,hoL,_⟩:=id hn
  refine h _ ⟨I.ok,I.os,I.bare,⟨fun b o e n hb hx=>?_,fun b o e n hb hx=>?_,I.base.free,fun b o e hx=>?_,I.base.tups,I.base.frzs,I.base.tbls⟩,⟨_,hn',fun j y v' e1 e2 e3=>?_⟩,fun y c e=>?_,I.free,I.freeC,fun p hp=>?_,tracked ⟨oL,hoL,I.free⟩ hs,by simpa using I.len⟩ ⟨_,hs,.inl rfl⟩
  ·exact(hs.2 b (Nat.ne_of_lt (Nat.lt_of_lt_of_le (Heap.lt_size e) I.ok.above))).trans (I.base.keep b o e n hb hx)
  ·obtain⟨sl,e1⟩:=I.base.slot b o e n hb hx
   exact⟨sl,(hs.2 b (Nat.ne_of_lt (Nat.lt_of_lt_of_le (Heap.lt_size e) I.ok.above))).trans e1⟩
  ·obtain⟨o',e1⟩:=I.base.there b o e hx
   exact⟨o',(hs.2 b (Nat.ne_of_lt (Nat.lt_of_lt_of_le (Heap.lt_size e) I.ok.above))).trans e1⟩
  ·by_cases hj:j=i
   ·subst hj
    rw[hi]at e1;cases e1
    rw[List.getElem?_set_self hiσ]at e2
    cases e2
    exact⟨u,r,.inl ⟨hk,by simp⟩⟩
   ·rw[List.getElem?_set_ne (Ne.symm hj)]at e2
    obtain⟨u',r',q⟩:=hl j y v' e1 e2 e3
    refine⟨u',r',?_⟩
    rcases q with⟨k,e⟩ | ⟨k,c,e,z⟩
    ·refine .inl ⟨k,?_⟩
     have:y≠x:=fun e=>hj (a7l hN e1 (e▸hi))
     simp[this,e]
    ·exact .inr ⟨k,c,e,z.sameBut hs (cne y c e)⟩
  ·obtain⟨w',z⟩:=I.cell y c e
   exact⟨w',z.sameBut hs (cne y c e)⟩
  ·obtain⟨e,n,ne,nf,d⟩:=I.pin p hp
   exact⟨(hs.2 p.1 ne).trans e,n,ne,nf,d⟩
 ·have hfn:X.fn x=true:=by
   rcases hf with z | z
   ·exact z
   ·rw[z]at hk;cases hk
  obtain⟨c,hc⟩:=I.ok.has x (.inl hk)
  obtain⟨w',z⟩:=I.cell x c hc
  refine wpAny_storeName_cell I.ok.kind hk hc z (fun h' hc' hs=>?_)
  obtain⟨oc,hoc,hocd⟩:=id z
  refine h {s with heap:=h'} ⟨I.ok,I.os,I.bare,⟨fun b o e n hb hx=>?_,fun b o e n hb hx=>?_,I.base.free,fun b o e hx=>?_,I.base.tups,I.base.frzs,I.base.tbls⟩,⟨m,hn.sameBut hs (Ne.symm (cne x c hc)),fun j y v' e1 e2 e3=>?_⟩,fun y c' e=>?_,I.free,I.freeC,fun p hp=>?_,tracked ⟨oc,hoc,I.freeC x c hc⟩ hs,by simpa using I.len⟩ ⟨c,hs,.inr hc⟩
  ·exact(hs.2 b (Nat.ne_of_lt (Nat.lt_of_lt_of_le (Heap.lt_size e) (I.ok.cab x c hfn hc)))).trans (I.base.keep b o e n hb hx)
  ·obtain⟨sl,e1⟩:=I.base.slot b o e n hb hx
   exact⟨sl,(hs.2 b (Nat.ne_of_lt (Nat.lt_of_lt_of_le (Heap.lt_size e) (I.ok.cab x c hfn hc)))).trans e1⟩
  ·obtain⟨o',e1⟩:=I.base.there b o e hx
   exact⟨o',(hs.2 b (Nat.ne_of_lt (Nat.lt_of_lt_of_le (Heap.lt_size e) (I.ok.cab x c hfn hc)))).trans e1⟩
  ·by_cases hj:j=i
   ·subst hj
    rw[hi]at e1;cases e1
    rw[List.getElem?_set_self hiσ]at e2
    cases e2
    exact⟨u,r,.inr ⟨.inl hk,c,hc,hc'⟩⟩
   ·rw[List.getElem?_set_ne (Ne.symm hj)]at e2
    obtain⟨u',r',q⟩:=hl j y v' e1 e2 e3
    refine⟨u',r',?_⟩
    rcases q with q | ⟨k,c',e,z'⟩
    ·exact .inl q
    ·refine .inr ⟨k,c',e,z'.sameBut hs ?_⟩
     rintro rfl
     exact hj (a7l hN e1 (I.ok.inj _ _ _ e hc▸hi))
  ·by_cases hcc:c'=c
   ·subst hcc;exact⟨_,hc'⟩
   ·obtain⟨w2,z2⟩:=I.cell y c' e
    exact⟨w2,z2.sameBut hs hcc⟩
  ·obtain⟨e,n,ne,nf,d⟩:=I.pin p hp
   refine⟨(hs.2 p.1 ?_).trans e,n,ne,nf,d⟩
   intro q
   rw[q,hoc]at e
   have q':oc=p.2:=Option.some.inj e
   exact d w' (by rw[<-q'];exact hocd)
theorem a5z{M:Model}{A:Around}{E:Value->Shared->Prop}{i:Nat}{x:Str}{v:V}{u:Value}{Q:Unit->Shared->Prop}(I:Inv X pins σ H s)(hN:X.N.Nodup)(hi:X.N[i]?=some x)(hx:Loc X.env.scope x)(r:W7 v u)
  (h:∀s',Inv X pins (σ.set i (some v)) H s'->Q () s')(hf:X.fn x=true\/X.env.scope.names.lookup x=some .local:=by first | exact .inl rfl | exact .inr rfl | assumption):wpAny M A (storeName X.env x u) Q E s:=
 a5M I hN hi hx r (fun s' I' _=>h s' I') hf
theorem Inv.call'{s':Shared}{ch:List Addr}(I:Inv X pins σ H s)(ho:s'.os=s.os)(u:Un (frs X.stack) ch H H' s.heap s'.heap)(hok:HOk X.prog X.w H' s'.heap)(hg:AllBare s'.gens)
  (hch:∀b∈ch,(b∈X.ex\/X.s₀.heap.objs.size<=b)/\b≠X.env.locals/\(∀x c,X.env.cells.lookup x=some c->c≠b)/\∀p∈X.pn++pins,p.1≠b):Inv X pins σ H' s':=by
 obtain⟨h',g',d',t',o'⟩:=s'
 have e:o'=s.os:=ho
 subst e
 exact I.call (g':=g') (t':=t') (d':=d') u hok hg hch
end
noncomputable abbrev XK:=Value->Option Addr->Hp->Prop
noncomputable abbrev St:=List (Option V)
noncomputable abbrev VK:=V->Hp->Prop
noncomputable abbrev TE:=St->Hp->VK->Prop
noncomputable abbrev TT:=St->Hp->(Bool->Hp->Prop)->Prop
noncomputable abbrev TA:=St->Hp->(List V->Hp->Prop)->Prop
structure a1B where
 nx:St->Hp->Prop
 rt:VK
 bk:St->Hp->Prop:=fun _ _=>False
 ct:St->Hp->Prop:=fun _ _=>False
noncomputable abbrev TS:=a1B->St->Hp->Prop
noncomputable def EP (X:Cx) (pins:List (Addr×Obj)) (σ:St) (Q:VK) (u:Value) (s':Shared):Prop:=∃v H',Inv X pins σ H' s'/\W7 v u/\Q v H'
noncomputable def TP (X:Cx) (pins:List (Addr×Obj)) (σ:St) (Q:Bool->Hp->Prop) (b:Bool) (s':Shared):Prop:=∃H',Inv X pins σ H' s'/\Q b H'
noncomputable def AP (X:Cx) (pins:List (Addr×Obj)) (σ:St) (Q:List V->Hp->Prop) (us:List Value) (s':Shared):Prop:=∃vs H',Inv X pins σ H' s'/\W5 vs us/\Q vs H'
noncomputable def SP (X:Cx) (pins:List (Addr×Obj)) (D:a1B) (f:Flow) (s':Shared):Prop:=
 match f with
 | .next=>∃σ' H',Inv X pins σ' H' s'/\D.nx σ' H'
 | .brk=>∃σ' H',Inv X pins σ' H' s'/\D.bk σ' H'
 | .cont=>∃σ' H',Inv X pins σ' H' s'/\D.ct σ' H'
 | .ret u=>∃v σ' H',Inv X pins σ' H' s'/\W7 v u/\D.rt v H'
noncomputable def PE (X:Cx) (e:Expr) (t:TE):Prop:=
 ∀(pins:List (Addr×Obj))(s:Shared)(σ:St)(H:Hp)(Q:VK),Inv X pins σ H s->t σ H Q->wpAny (model X.prog X.w) X.A (eval e X.env) (EP X pins σ Q) X.xe s
noncomputable def PT (X:Cx) (e:Expr) (t:TT):Prop:=
 ∀(pins:List (Addr×Obj))(s:Shared)(σ:St)(H:Hp)(Q:Bool->Hp->Prop),Inv X pins σ H s->t σ H Q->wpAny (model X.prog X.w) X.A (isTrue e X.env (eval e X.env)) (TP X pins σ Q) X.xe s
noncomputable def PW (X:Cx) (e:Expr) (t:TT):Prop:=
 ∀(whole:Sem Value)(pins:List (Addr×Obj))(s:Shared)(σ:St)(H:Hp)(Q:Bool->Hp->Prop),Inv X pins σ H s->t σ H Q->wpAny (model X.prog X.w) X.A (isTrue e X.env whole) (TP X pins σ Q) X.xe s
theorem PW.pt{X:Cx}{e:Expr}{t:TT}(h:PW X e t):PT X e t:=h _
noncomputable def PA (X:Cx) (es:List Expr) (t:TA):Prop:=
 ∀(pos:Pos)(pins:List (Addr×Obj))(s:Shared)(σ:St)(H:Hp)(Q:List V->Hp->Prop),Inv X pins σ H s->t σ H Q->wpAny (model X.prog X.w) X.A (spliced (backTo pos (starEach es X.env))) (AP X pins σ Q) X.xe s
noncomputable def PS (X:Cx) (st:Stmt) (t:TS):Prop:=
 ∀(pins:List (Addr×Obj))(s:Shared)(σ:St)(H:Hp)(D:a1B),Inv X pins σ H s->t D σ H->wpAny (model X.prog X.w) X.A (exec st X.env) (SP X pins D) X.xe s
noncomputable def PSs (X:Cx) (st:List Stmt) (t:TS):Prop:=
 ∀(pins:List (Addr×Obj))(s:Shared)(σ:St)(H:Hp)(D:a1B),Inv X pins σ H s->t D σ H->wpAny (model X.prog X.w) X.A (execs st X.env) (SP X pins D) X.xe s
theorem thn{α:Type}{t:Sem α}{Q Q':α->Shared->Prop}{M:Model}{A:Around}{E:Value->Shared->Prop}{s:Shared}(h:wpAny M A t Q E s)(hQ:∀a s,Q a s->Q' a s):wpAny M A t Q' E s:=wpAny_mono h hQ fun _ _ x=>x
end L2
namespace L2
open PySem PySem.Spec PyProof.Rows
section
variable{X:Cx}
noncomputable def b5w (i:Nat):TE:=fun σ H Q=>∃v,σ[i]?=some (some v)/\Q v H
noncomputable def tC (v:V):TE:=fun _ H Q=>Q v H
theorem b4N{i:Nat}{x:Str}{pos:Pos}(hN:X.N[i]?=some x)(hv:Vis X.env.scope x)(hd:(x==("__debug__":Str))=false:=by decide)(hcd:(x==("__classdict__":Str))=false:=by decide):PE X (.Name x pos) (b5w i):=by
 intro pins s σ H Q I h
 obtain⟨v,e,h⟩:=h
 obtain⟨m,hn,hl⟩:=I.loc
 obtain⟨u,r,l⟩:=hl i x v hN e hv
 have fin:EP X pins σ Q u s:=⟨v,H,I,r,h⟩
 rcases l with⟨hk,hm⟩ | ⟨hk,c,hc,hcell⟩
 ·exact wpAny_Name (wpAny_loadName_local I.ok.kind hk hn hm fin) hd
 ·rcases hk with hk | hk
  ·exact wpAny_Name (wpAny_loadName_cell I.ok.kind hk hc hcell fin) hd
  ·exact wpAny_Name (wpAny_loadName_free I.ok.kind hk hc hcell fin hcd) hd
theorem G2{i j pos}:PE X (.Constant (.int i) j pos) (tC (.int i)):=fun _ _ _ H _ I h=>wpAny_Constant_int ⟨.int i,H,I.tok _,⟨_,rfl⟩,h⟩
theorem a0O{b j pos}:PE X (.Constant (.bool b) j pos) (tC (.bl b)):=fun _ _ _ H _ I h=>Constant_bool ⟨.bl b,H,I,rfl,h⟩
theorem a6C{j pos}:PE X (.Constant .none j pos) (tC .non):=fun _ _ _ H _ I h=>Constant_none ⟨.non,H,I,rfl,h⟩
theorem R6{x j pos}:PE X (.Constant (.str x) j pos) (tC (.str x)):=fun _ _ _ H _ I h=>Calls.Constant_str ⟨.str x,H,I.tok _,⟨_,rfl⟩,h⟩
noncomputable def Gl (X:Cx) (x:Str):Prop:=X.env.kindOf x=some .globalImplicit
theorem b3M{E:Value->Shared->Prop}{pins:List (Addr×Obj)}{s:Shared}{σ:St}{H:Hp}{x:Str}{u:Value}{pos:Pos}{Q:Value->Shared->Prop}(I:Inv X pins σ H s)(hg:Gl X x)(hm:X.mg x=some u)(h:Q u s)
  (hd:(x==("__debug__":Str))=false:=by decide):wpAny (model X.prog X.w) X.A (eval (.Name x pos) X.env) Q E s:=
 Calls.Name_function_global I.ok.kind hg (Calls.loadGlobal_global (by rw[I.ok.glob];exact I.mod.glob.keeps I.bk) hm h) hd
theorem a1b{E:Value->Shared->Prop}{pins:List (Addr×Obj)}{s:Shared}{σ:St}{H:Hp}{x:Str}{u:Value}{pos:Pos}{Q:Value->Shared->Prop}(I:Inv X pins σ H s)(hg:Gl X x)(hm:X.mg x=none)(hv:bootBuiltins x=some u)(h:Q u s)
  (hn:x≠ "__name__":=by decide)(hd:(x==("__debug__":Str))=false:=by decide):wpAny (model X.prog X.w) X.A (eval (.Name x pos) X.env) Q E s:=by
 obtain⟨mb,h1,h2⟩:=I.mod.blt
 exact Calls.Name_function_global I.ok.kind hg (Calls.loadGlobal_builtin (by rw[I.ok.glob];exact I.mod.glob.keeps I.bk) hm (by rw[I.ok.blt];exact h1.keeps I.bk) ((h2 x hn).trans hv) h) hd
theorem a0w{x:Str}{v:V}{u:Value}{pos:Pos}(hg:Gl X x)(hm:X.mg x=none)(hv:bootBuiltins x=some u)(r:W7 v u)(hn:x≠ "__name__":=by decide)(hd:(x==("__debug__":Str))=false:=by decide):PE X (.Name x pos) (tC v):=
 fun _ _ _ H _ I h=>a1b I hg hm hv ⟨v,H,I,r,h⟩ hn hd
variable{a b:Expr}{ta tb:TE}{pos:Pos}
noncomputable def PC (X:Cx) (op:CmpOp) (a b:Expr) (t:TE):Prop:=
 ∀(pins:List (Addr×Obj))(s:Shared)(σ:St)(H:Hp)(Q:VK),Inv X pins σ H s->t σ H Q->
  wpAny (model X.prog X.w) X.A (eval a X.env) (fun v s₁=>wpAny (model X.prog X.w) X.A (eval b X.env) (fun u s₂=>wpAny (model X.prog X.w) X.A (compareOp op v u) (EP X pins σ Q) X.xe s₂) X.xe s₁) X.xe s
theorem b1c(b:Expr){op:CmpOp}(h:op≠ .In)(h2:op≠ .NotIn):behindInMarks op b=false:=by
 have e1:(op==CmpOp.In)=false:=by cases op<;>first | rfl | exact absurd rfl h
 have e2:(op==CmpOp.NotIn)=false:=by cases op<;>first | rfl | exact absurd rfl h2
 cases b<;>simp[behindInMarks,e1,e2]
noncomputable def b6u (ta:TE):TE:=fun σ H Q=>ta σ H fun x H1=>Q (.bl (decide (x= .non))) H1
theorem W7.none_iff{x:V}{v:Value}(r:W7 x v):(v==Value.none)=decide (x= .non):=by
 cases x with
 | non=>cases r;rfl
 | bl _=>cases r;rfl
 | int _=>obtain⟨t,rfl⟩:=r;rfl
 | str _=>obtain⟨t,rfl⟩:=r;rfl
 | byt _=>obtain⟨t,rfl⟩:=r;rfl
 | flt _=>obtain⟨t,rfl⟩:=r;rfl
 | ref _=>cases r;rfl
 | ty _=>cases r;rfl
theorem b2d{j pos'}(ha:PE X a ta):PC X .Is a (.Constant .none j pos') (b6u ta):=by
 intro pins s σ H Q I h
 refine thn (ha pins s σ H _ I h) fun v s1⟨x,H1,I1,r1,q1⟩=>?_
 exact Constant_none (is_none_gen ⟨.bl _,H1,I1,by rw[r1.none_iff];rfl,q1⟩)
noncomputable def tB (t:TE):TT:=fun σ H Q=>t σ H fun x H1=>∃c,x= .bl c/\Q c H1
theorem a2m{op:CmpOp}{t:TE}(h:PC X op a b t)(h1:behindInMarks op b=false:=by first | exact b1c _ (by decide) (by decide) | rfl):PT X (.Compare a [op] [b] pos) (tB t):=by
 intro pins s σ H Q I hw
 refine wpAny_isTrue_Compare1 (thn (h pins s σ H _ I hw) fun v s1 h1=>thn h1 fun u s2 h2=>thn h2 fun c s3⟨x,H1,I1,r1,q1⟩=>?_) h1
 obtain⟨d,rfl,q⟩:=q1
 cases r1
 exact wpAny_truthy_bool ⟨H1,I1,q⟩
theorem a0s{e:Expr}{t:TE}(h:PE X e t)(he:∀whole,isTrue e X.env whole=(do let v<-whole;standAt e.pos;holding [v] (truthy v)):=by intro _;rfl):PT X e (tB t):=by
 intro pins s σ H Q I hw
 refine isTrue_plain (thn (h pins s σ H _ I hw) fun v s1⟨x,H1,I1,r1,q1⟩=>?_) (he _)
 obtain⟨d,rfl,q⟩:=q1
 cases r1
 exact wpAny_truthy_bool ⟨H1,I1,q⟩
variable{tA tB':TT}{rest:List Expr}
noncomputable def b0O (t u:TT):TT:=fun σ H Q=>t σ H fun c H1=>if c=true then u σ H1 Q else Q false H1
noncomputable def tOr (t u:TT):TT:=fun σ H Q=>t σ H fun c H1=>if c=true then Q true H1 else u σ H1 Q
noncomputable def b6a (t:TT):TT:=fun σ H Q=>t σ H fun c H1=>Q (!c) H1
theorem a0k(ha:PT X a tA):PW X (.BoolOp .And [a] pos) tA:=by
 intro wh pins s σ H Q I h
 refine isTrue_and (thn (ha pins s σ H Q I h) fun c s1 e=>?_)
 cases c with
 | true=>exact isTrue_and_nil e
 | false=>exact e
theorem a1v(ha:PT X a tA):PW X (.BoolOp .Or [a] pos) tA:=by
 intro wh pins s σ H Q I h
 refine isTrue_or (thn (ha pins s σ H Q I h) fun c s1 e=>?_)
 cases c with
 | false=>exact isTrue_or_nil e
 | true=>exact e
theorem a0Y(ha:PT X a tA)(hb:PW X (.BoolOp .And (b::rest) pos) tB'):PW X (.BoolOp .And (a::b::rest) pos) (b0O tA tB'):=by
 intro wh pins s σ H Q I h
 refine isTrue_and (thn (ha pins s σ H _ I h) fun c s1⟨H1,I1,q1⟩=>?_)
 cases c with
 | true=>exact hb wh pins s1 σ H1 Q I1 q1
 | false=>exact⟨H1,I1,q1⟩
theorem a2l(ha:PT X a tA)(hb:PW X (.BoolOp .Or (b::rest) pos) tB'):PW X (.BoolOp .Or (a::b::rest) pos) (tOr tA tB'):=by
 intro wh pins s σ H Q I h
 refine isTrue_or (thn (ha pins s σ H _ I h) fun c s1⟨H1,I1,q1⟩=>?_)
 cases c with
 | true=>exact⟨H1,I1,q1⟩
 | false=>exact hb wh pins s1 σ H1 Q I1 q1
theorem a1V(ha:PT X a tA):PT X (.UnaryOp .Not a pos) (b6a tA):=by
 intro pins s σ H Q I h
 exact isTrue_not (ha pins s σ H (fun c H1=>Q (!c) H1) I h)
noncomputable def b5v (ta tb:TE):TE:=fun σ H Q=>ta σ H fun x H1=>∃c,x= .bl c/\if c=true then tb σ H1 Q else Q (.bl false) H1
noncomputable def b5C (ta:TE):TE:=fun σ H Q=>ta σ H fun x H1=>∃c,x= .bl c/\Q (.bl (!c)) H1
theorem b4p{op}{t:TE}(h:PE X a t):PE X (.BoolOp op [a] pos) t:=fun pins s σ H Q I hw=>BoolOp_one (h pins s σ H Q I hw)
theorem b2l(ha:PE X a ta)(hb:PE X (.BoolOp .And (b::rest) pos) tb):PE X (.BoolOp .And (a::b::rest) pos) (b5v ta tb):=by
 intro pins s σ H Q I h
 refine BoolOp_and (thn (ha pins s σ H _ I h) fun v s1⟨x,H1,I1,r1,q1⟩=>?_)
 obtain⟨c,rfl,q1⟩:=q1
 cases r1
 refine wpAny_truthy_bool ?_
 cases c with
 | true=>exact hb pins s1 σ H1 Q I1 q1
 | false=>exact⟨.bl false,H1,I1,rfl,q1⟩
theorem b4L(ha:PE X a ta):PE X (.UnaryOp .Not a pos) (b5C ta):=by
 intro pins s σ H Q I h
 refine UnaryOp_ (thn (ha pins s σ H _ I h) fun v s1⟨x,H1,I1,r1,q1⟩=>?_)
 obtain⟨c,rfl,q1⟩:=q1
 cases r1
 exact not_of (wpAny_truthy_bool ⟨.bl (!c),H1,I1,rfl,q1⟩)
noncomputable def tIf (t:TT) (ta tb:TE):TE:=fun σ H Q=>t σ H fun c H1=>if c=true then ta σ H1 Q else tb σ H1 Q
theorem b1p{c:Expr}(hc:PT X c tA)(ha:PE X a ta)(hb:PE X b tb):PE X (.IfExp c a b pos) (tIf tA ta tb):=by
 intro pins s σ H Q I h
 refine wpAny_IfExp (thn (hc pins s σ H _ I h) fun d s1⟨H1,I1,q1⟩=>?_)
 cases d with
 | true=>exact ha pins s1 σ H1 Q I1 q1
 | false=>exact hb pins s1 σ H1 Q I1 q1
end
end L2
namespace L2
open PySem PySem.Spec PyProof.Rows
noncomputable def SqL (K:PySem.W.Frag) (H:Hp) (a:Addr) (xs:List V):Prop:=
 Rd H a (.lst xs)\/
  ∃(o:Obj)(its:Array Value)(n:Nat),K.lookup a=some o/\o.cls= .type "list"/\o.dict=none/\o.data= .seq its n/\its.size<=sizeLine/\W5 xs its.toList
noncomputable def SqT (K:PySem.W.Frag) (H:Hp) (a:Addr) (xs:List V):Prop:=
 Rd H a (.tup xs)\/
  ∃(o:Obj)(its:Array Value)(n:Nat),K.lookup a=some o/\o.cls= .type "tuple"/\o.data= .seq its n/\its.size<=sizeLine/\W5 xs its.toList
noncomputable def b6n:Value->Option V
 | .none=>some .non
 | .bool b=>some (.bl b)
 | .int i _=>some (.int i)
 | .str x _=>some (.str x)
 | .bytes b _=>some (.byt b)
 | .float b _=>some (.flt b)
 | .ref a=>some (.ref a)
 | .type n=>some (.ty n)
 | _=>none
theorem W7.abs{x:V}{u:Value}(r:W7 x u):b6n u=some x:=by
 cases x with
 | non=>cases r;rfl
 | bl _=>cases r;rfl
 | int _=>obtain⟨t,rfl⟩:=r;rfl
 | str _=>obtain⟨t,rfl⟩:=r;rfl
 | byt _=>obtain⟨t,rfl⟩:=r;rfl
 | flt _=>obtain⟨t,rfl⟩:=r;rfl
 | ref _=>cases r;rfl
 | ty _=>cases r;rfl
theorem W7.inj{x y:V}{u:Value}(r:W7 x u)(q:W7 y u):x=y:=Option.some.inj (r.abs.symm.trans q.abs)
theorem W5.inj:∀{xs ys:List V}{us:List Value},W5 xs us->W5 ys us->xs=ys
 | _,_,_,.nil,.nil=>rfl
 | _,_,_,.cons r t,.cons r' t'=>by rw[r.inj r',W5.inj t t']
section
variable{X:Cx}{pins:List (Addr×Obj)}{σ:St}{H:Hp}{s:Shared}{a:Addr}{xs ys:List V}
theorem SqL.of{K:PySem.W.Frag}(h:H a=some (.lst xs)):SqL K H a xs:= .inl (.inl h)
theorem SqT.of{K:PySem.W.Frag}(h:H a=some (.tup xs)):SqT K H a xs:= .inl (.inl h)
theorem Inv.list(I:Inv X pins σ H s)(h:SqL X.K H a xs):∃its:List Value,W5 xs its/\PlainL s.heap a its.toArray/\xs.length<=sizeLine:=by
 rcases h with h | ⟨o,its,n,hk,hc,hd,hs,hz,r⟩
 ·obtain⟨z,its,n,r,e⟩:=h.ok I.hok
  exact⟨its,r,⟨_,n,e,rfl,rfl,rfl⟩,z⟩
 ·refine⟨its.toList,r,⟨o,n,I.kIn a o hk,hc,hd,by simpa using hs⟩,?_⟩
  have e:=r.length
  simp only[Array.length_toList]at e
  omega
theorem Inv.tuple(I:Inv X pins σ H s)(h:SqT X.K H a xs):∃its:List Value,W5 xs its/\IsTup s.heap a its.toArray/\xs.length<=sizeLine:=by
 rcases h with h | ⟨o,its,n,hk,hc,hs,hz,r⟩
 ·obtain⟨z,its,r,p⟩:=h.ok I.hok
  exact⟨its,r,p,z⟩
 ·refine⟨its.toList,r,⟨o,I.kIn a o hk,hc,n,by simpa using hs⟩,?_⟩
  have e:=r.length
  simp only[Array.length_toList]at e
  omega
theorem Inv.list_inj(I:Inv X pins σ H s)(h:SqL X.K H a xs)(h':SqL X.K H a ys):xs=ys:=by
 obtain⟨its,r,⟨o,n,e,_,_,d⟩,_⟩:=I.list h
 obtain⟨its',r',⟨o',n',e',_,_,d'⟩,_⟩:=I.list h'
 rw[e]at e';cases e'
 rw[d]at d'
 injection d' with d1 _
 have:its=its':=by simpa using congrArg Array.toList d1
 subst this
 exact r.inj r'
theorem Inv.tuple_inj(I:Inv X pins σ H s)(h:SqT X.K H a xs)(h':SqT X.K H a ys):xs=ys:=by
 obtain⟨its,r,⟨o,e,_,n,d⟩,_⟩:=I.tuple h
 obtain⟨its',r',⟨o',e',_,n',d'⟩,_⟩:=I.tuple h'
 rw[e]at e';cases e'
 rw[d]at d'
 injection d' with d1 _
 have:its=its':=by simpa using congrArg Array.toList d1
 subst this
 exact r.inj r'
end
noncomputable abbrev Cx.wish (X:Cx) (E:Value->Shared->Prop):Cx:={X with xe:=E}
noncomputable abbrev Cx.nox (X:Cx):Cx:=X.wish fun _ _=>False
theorem Cx.Ok.wish{X:Cx}(ok:X.Ok)(E:Value->Shared->Prop):(X.wish E).Ok:=
 ⟨ok.mod,ok.kind,ok.glob,ok.blt,ok.above,ok.inj,ok.has,ok.cab,ok.hd,ok.frames,ok.stk,ok.exf,ok.bs,ok.bsz,ok.noex,ok.exfs,ok.funs,ok.frf⟩
theorem Cx.Ok.unwish{X:Cx}{E:Value->Shared->Prop}(ok:(X.wish E).Ok):X.Ok:=
 ⟨ok.mod,ok.kind,ok.glob,ok.blt,ok.above,ok.inj,ok.has,ok.cab,ok.hd,ok.frames,ok.stk,ok.exf,ok.bs,ok.bsz,ok.noex,ok.exfs,ok.funs,ok.frf⟩
section
variable{X:Cx}{pins:List (Addr×Obj)}{σ:St}{H:Hp}{s:Shared}{E:Value->Shared->Prop}
theorem Inv.wish(I:Inv X pins σ H s)(E:Value->Shared->Prop):Inv (X.wish E) pins σ H s:=⟨I.ok.wish E,I.os,I.bare,I.base,I.loc,I.cell,I.free,I.freeC,I.pin,I.hok,I.len⟩
theorem Inv.unwish(I:Inv (X.wish E) pins σ H s):Inv X pins σ H s:=⟨I.ok.unwish,I.os,I.bare,I.base,I.loc,I.cell,I.free,I.freeC,I.pin,I.hok,I.len⟩
theorem SP.unwish{D:a1B}{f:Flow}{s':Shared}(h:SP (X.wish E) pins D f s'):SP X pins D f s':=by
 cases f with
 | next=>obtain⟨σ',H',I,q⟩:=h;exact⟨σ',H',I.unwish,q⟩
 | brk=>obtain⟨σ',H',I,q⟩:=h;exact⟨σ',H',I.unwish,q⟩
 | cont=>obtain⟨σ',H',I,q⟩:=h;exact⟨σ',H',I.unwish,q⟩
 | ret u=>obtain⟨v,σ',H',I,r,q⟩:=h;exact⟨v,σ',H',I.unwish,r,q⟩
theorem PSs.nox{st:List Stmt}{t:TS}(h:PSs X.nox st t):PSs X st t:=fun pins s σ H D I hw=>
 wpAny_mono (h pins s σ H D (I.wish _) hw) (fun _ _ q=>q.unwish) fun _ _ z=>False.elim z
end
section
variable{X:Cx}{st:Stmt}{rest:List Stmt}{t u:TS}{e:Expr}{te:TE}{pos:Pos}
noncomputable def a4s:TS:=fun D σ H=>D.nx σ H
noncomputable def a5L (t u:TS):TS:=fun D σ H=>t {D with nx:=u D} σ H
theorem R8:PSs X [] a4s:=fun _ _ σ H _ I h=>wpAny_execs_nil ⟨σ,H,I,h⟩
theorem G3(h1:PS X st t)(h2:PSs X rest u):PSs X (st::rest) (a5L t u):=by
 intro pins s σ H D I h
 refine wpAny_execs_cons (thn (h1 pins s σ H {D with nx:=u D} I h) fun f s1 q=>?_)
 cases f with
 | next=>
  obtain⟨σ',H',I',q⟩:=q
  exact h2 pins s1 σ' H' D I' q
 | ret v=>exact q
 | brk=>exact q
 | cont=>exact q
theorem G5(h1:PS X st t):PSs X [st] t:=by
 intro pins s σ H D I h
 refine wpAny_execs_cons (thn (h1 pins s σ H D I h) fun f s1 q=>?_)
 cases f with
 | next=>exact wpAny_execs_nil q
 | ret v=>exact q
 | brk=>exact q
 | cont=>exact q
theorem Inv.quiet{pins:List (Addr×Obj)}{σ:St}{H:Hp}{s:Shared}(I:Inv X pins σ H s):interactive X.env=false:=by simp[interactive,I.ok.kind]
noncomputable def b5O (te:TE):TS:=fun D σ H=>te σ H fun _ H1=>D.nx σ H1
theorem Z1(he:PE X e te)(hs:swapsWith e none pos.line X.env=pure false:=by rfl):PS X (.Expr e pos) (b5O te):=by
 intro pins s σ H D I h
 exact wpAny_Expr_any (thn (he pins s σ H _ I h) fun v s1⟨x,H1,I1,r1,q1⟩=>⟨σ,H1,I1,q1⟩) I.quiet hs
noncomputable def b6j (te:TE):TS:=fun D σ H=>te σ H D.rt
theorem R4(he:PE X e te):PS X (.Return (some e) pos) (b6j te):=by
 intro pins s σ H D I h
 exact wpAny_Return_some (thn (he pins s σ H _ I h) fun v s1⟨x,H1,I1,r1,q1⟩=>⟨x,σ,H1,I1,r1,q1⟩)
noncomputable def b5q:TS:=fun D _ H=>D.rt .non H
theorem b3r:PS X (.Return none pos) b5q:=fun _ _ σ H _ I h=>wpAny_Return_none ⟨.non,σ,H,I,rfl,h⟩
noncomputable def a6J (c:TT) (t u:TS):TS:=fun D σ H=>c σ H fun b H1=>if b=true then t D σ H1 else u D σ H1
theorem U8{c:Expr}{a b:List Stmt}{tc:TT}(hc:PT X c tc)(ha:PSs X a t)(hb:PSs X b u):PS X (.If c a b pos) (a6J tc t u):=by
 intro pins s σ H D I h
 refine wpAny_If (thn (hc pins s σ H _ I h) fun d s1⟨H1,I1,q1⟩=>?_)
 cases d with
 | true=>exact ha pins s1 σ H1 D I1 q1
 | false=>exact hb pins s1 σ H1 D I1 q1
noncomputable def b4B:TS:=fun _ _ _=>False
theorem b1n:PS X st b4B:=fun _ _ _ _ _ _ h=>h.elim
end
noncomputable abbrev TG:=V->St->Hp->(St->Hp->Prop)->Prop
noncomputable abbrev TGs:=List V->St->Hp->(St->Hp->Prop)->Prop
noncomputable def PG (X:Cx) (target:Expr) (t:TG):Prop:=
 ∀(pins:List (Addr×Obj))(s:Shared)(σ:St)(H:Hp)(v:V)(u:Value)(Q:St->Hp->Prop),Inv X pins σ H s->W7 v u->t v σ H Q->
  wpAny (model X.prog X.w) X.A (assign target X.env u) (fun _ s'=>∃σ' H',Inv X pins σ' H' s'/\Q σ' H') X.xe s
noncomputable def PGs (X:Cx) (ts:List Expr) (t:TGs):Prop:=
 ∀(pins:List (Addr×Obj))(s:Shared)(σ:St)(H:Hp)(vs:List V)(us:List Value)(Q:St->Hp->Prop),Inv X pins σ H s->W5 vs us->t vs σ H Q->
  wpAny (model X.prog X.w) X.A (assignInOrder ((assignEach ts X.env).map (·.2)) us) (fun _ s'=>∃σ' H',Inv X pins σ' H' s'/\Q σ' H') X.xe s
noncomputable abbrev b4q:=V->V->V->Hp->(Hp->Prop)->Prop
noncomputable def b5J (X:Cx) (t:b4q):Prop:=
 ∀(pins:List (Addr×Obj))(s:Shared)(σ:St)(H:Hp)(o i v:V)(ov iv u:Value)(Q:Hp->Prop),Inv X pins σ H s->W7 o ov->W7 i iv->W7 v u->t o i v H Q->
  wpAny (model X.prog X.w) X.A (setItem ov iv u) (fun _ s'=>∃H',Inv X pins σ H' s'/\Q H') X.xe s
noncomputable abbrev TIp:=V->V->Hp->VK->Prop
noncomputable def PIp (X:Cx) (op:Operator) (t:TIp):Prop:=
 ∀(pins:List (Addr×Obj))(s:Shared)(σ:St)(H:Hp)(x y:V)(v u:Value)(Q:VK),Inv X pins σ H s->W7 x v->W7 y u->t x y H Q->
  wpAny (model X.prog X.w) X.A (inplaceOp op v u) (EP X pins σ Q) X.xe s
section
variable{X:Cx}{pos:Pos}
noncomputable def B0 (i:Nat):TG:=fun v σ H Q=>Q (σ.set i (some v)) H
theorem I0{i:Nat}{x:Str}(hN:X.N.Nodup)(hi:X.N[i]?=some x)(hx:Loc X.env.scope x)(hf:X.fn x=true\/X.env.scope.names.lookup x=some .local:=by first | exact .inl rfl | exact .inr rfl | assumption):PG X (.Name x pos) (B0 i):=by
 intro pins s σ H v u Q I r h
 exact wpAny_assign_Name (a5z I hN hi hx r (fun s' I'=>⟨_,H,I',h⟩) hf)
noncomputable def b6A:TGs:=fun vs σ H Q=>vs=[]/\Q σ H
noncomputable def b5A (t:TG) (u:TGs):TGs:=fun vs σ H Q=>∃v r,vs=v::r/\t v σ H fun σ' H'=>u r σ' H' Q
theorem Y1:PGs X [] b6A:=by
 intro pins s σ H vs us Q I r h
 obtain⟨e,h⟩:=h
 subst e
 cases r
 exact assignInOrder_nil ⟨σ,H,I,h⟩
theorem J0{e:Expr}{es:List Expr}{t:TG}{u:TGs}(h1:PG X e t)(h2:PGs X es u)
  (hs:(assignEach (e::es) X.env).map (·.2)=assign e X.env::(assignEach es X.env).map (·.2):=by rfl):PGs X (e::es) (b5A t u):=by
 intro pins s σ H vs us Q I r h
 obtain⟨v,vr,e1,h⟩:=h
 subst e1
 cases r with
 | cons r rr=>
  rw[hs]
  refine assignInOrder_cons (thn (h1 pins s σ H _ _ _ I r h) fun _ s1⟨σ1,H1,I1,q1⟩=>?_)
  exact h2 pins s1 σ1 H1 _ _ Q I1 rr q1
noncomputable def b5n (K:PySem.W.Frag) (n:Nat) (t:TGs):TG:=fun v σ H Q=>∃a xs,v= .ref a/\SqT K H a xs/\xs.length=n/\t xs σ H Q
theorem E2{es:List Expr}{k:Nat}{t:TGs}{n:Nat}(hc:X.calm=true)(h:PGs X es t)
  (hn:(assignEach es X.env).length=n:=by rfl)(hst:(assignEach es X.env).findIdx? (·.1)=none:=by rfl):PG X (.Tuple es k pos) (b5n X.K n t):=by
 intro pins s σ H v u Q I r hw
 obtain⟨a,xs,e1,hq,hl,hw⟩:=hw
 subst e1
 cases r
 obtain⟨its,rv,ht,hz⟩:=I.tuple hq
 refine assign_Tuple_tuple (I.ok.hd hc) ht (by simp[hn,<-hl,rv.length]) hst fun h' hx=>?_
 have I1:Inv X pins σ H {s with heap:=h'}:=I.kept (t':=s.toks) fun b o e=>hx b o (Nat.ne_of_lt (Heap.lt_size e)) e
 exact h pins _ σ H xs _ Q I1 (by simpa using rv) hw
noncomputable def b6v (to ti:TE) (t:b4q):TG:=fun v σ H Q=>to σ H fun o H1=>ti σ H1 fun i H2=>t o i v H2 fun H3=>Q σ H3
theorem b4V{o i:Expr}{to ti:TE}{t:b4q}(ho:PE X o to)(hi:PE X i ti)(hs:b5J X t)
  (ha:∀v,assign (.Subscript o i pos) X.env v=(do
   let ov<-holding [v] (eval o X.env)
   let iv<-holding [v,ov] (eval i X.env)
   standAt pos
   holding [v,ov,iv] (setItem ov iv v)
   release [v,ov,iv] []):=by intro _;rfl):PG X (.Subscript o i pos) (b6v to ti t):=by
 intro pins s σ H v u Q I r h
 rw[ha]
 refine wpAny_bind (wpAny_holding (thn (ho pins s σ H _ I h) fun ov s1⟨x,H1,I1,r1,q1⟩=>?_))
 refine wpAny_bind (wpAny_holding (thn (hi pins s1 σ H1 _ I1 q1) fun iv s2⟨y,H2,I2,r2,q2⟩=>?_))
 refine wpAny_bind (wpAny_standAt (wpAny_bind (wpAny_holding (thn (hs pins s2 σ H2 x y v ov iv u _ I2 r1 r2 r q2) fun _ s3⟨H3,I3,q3⟩=>?_))))
 exact wpAny_release ⟨σ,H3,I3,q3⟩
noncomputable def a8Y (te:TE) (g:TG):TS:=fun D σ H=>te σ H fun x H1=>g x σ H1 D.nx
theorem a8V{tg e:Expr}{te:TE}{g:TG}(he:PE X e te)(hg:PG X tg g)(hs:swapsWithSole [tg] e pos.line X.env=pure false:=by rfl)(hw:swappedStores [tg] e X.env=pure none:=by rfl)
  (h1:(assignEach [tg] X.env).map (·.2)=[assign tg X.env]:=by rfl):PS X (.Assign [tg] e pos) (a8Y te g):=by
 intro pins s σ H D I h
 refine wpAny_Assign_stores (thn (he pins s σ H _ I h) fun v s1⟨x,H1,I1,r1,q1⟩=>?_) hs hw
 rw[h1]
 exact thn (hg pins s1 σ H1 x v _ I1 r1 q1) fun _ s2 q=>q
theorem I9{i:Nat}{x:Str}{e:Expr}{te:TE}{pos':Pos}(hN:X.N.Nodup)(hi:X.N[i]?=some x)(hx:Loc X.env.scope x)(he:PE X e te)(hs:swapsWith e (some (.Name x pos')) pos.line X.env=pure false:=by rfl)(hf:X.fn x=true\/X.env.scope.names.lookup x=some .local:=by first | exact .inl rfl | exact .inr rfl | assumption):
  PS X (.Assign [.Name x pos'] e pos) (a8Y te (B0 i)):=by
 intro pins s σ H D I h
 refine wpAny_Assign_Name (thn (he pins s σ H _ I h) fun v s1⟨y,H1,I1,r1,q1⟩=>?_) hs
 exact a5z I1 hN hi hx r1 (fun s2 I2=>⟨_,H1,I2,q1⟩) hf
noncomputable def b6h (i:Nat) (te:TE) (ti:TIp):TS:=fun D σ H=>∃x,σ[i]?=some (some x)/\te σ H fun y H1=>ti x y H1 fun z H2=>D.nx (σ.set i (some z)) H2
theorem b5c{i:Nat}{x:Str}{e:Expr}{te:TE}{op:Operator}{ti:TIp}{pos':Pos}(hN:X.N.Nodup)(hi:X.N[i]?=some x)(hx:Loc X.env.scope x)(he:PE X e te)(ho:PIp X op ti)(hf:X.fn x=true\/X.env.scope.names.lookup x=some .local:=by first | exact .inl rfl | exact .inr rfl | assumption):
  PS X (.AugAssign (.Name x pos') op e pos) (b6h i te ti):=by
 intro pins s σ H D I h
 obtain⟨v,e1,h⟩:=h
 obtain⟨m,hn,hl⟩:=I.loc
 have vis:Vis X.env.scope x:=by rcases hx with k | k;exact .inl k;exact .inr (.inl k)
 obtain⟨u,r,l⟩:=hl i x v hi e1 vis
 refine wpAny_AugAssign_Name ?_
 have go:wpAny (model X.prog X.w) X.A (eval e X.env) (fun w s₂=>wpAny (model X.prog X.w) X.A (inplaceOp op u w) (fun r s₃=>wpAny (model X.prog X.w) X.A (storeName X.env x r) (fun _=>SP X pins D .next) X.xe s₃) X.xe s₂) X.xe s:=by
  refine thn (he pins s σ H _ I h) fun w s1⟨y,H1,I1,r1,q1⟩=>?_
  refine thn (ho pins s1 σ H1 v y u w _ I1 r r1 q1) fun z s2⟨zv,H2,I2,r2,q2⟩=>?_
  exact a5z I2 hN hi hx r2 (fun s3 I3=>⟨_,H2,I3,q2⟩) hf
 rcases l with⟨hk,hm⟩ | ⟨hk,c,hc,hcell⟩
 ·exact wpAny_loadName_local I.ok.kind hk hn hm go
 ·rcases hk with hk | hk
  ·exact wpAny_loadName_cell I.ok.kind hk hc hcell go
  ·rcases hx with k | k
   ·have:X.env.scope.names.lookup x=some .free:=hk
    rw[k]at this;cases this
   ·have:X.env.scope.names.lookup x=some .free:=hk
    rw[k]at this;cases this
noncomputable def ipI (f:Int->Int->Int):TIp:=fun x y H Q=>∃i j,x= .int i/\y= .int j/\Q (.int (f i j)) H
theorem b4K:PIp X .Add (ipI fun i j=>i+j):=by
 intro pins s σ H x y v u Q I r1 r2 h
 obtain⟨i,j,e1,e2,q⟩:=h
 subst e1;subst e2
 obtain⟨t,rfl⟩:=r1
 obtain⟨t',rfl⟩:=r2
 exact iadd_int ⟨.int _,H,I.tok _,⟨_,rfl⟩,q⟩
end
section
variable{X:Cx}{pos:Pos}
noncomputable def a4r (c:TT) (tb:TS):TS:=fun D σ H=>∃W:Nat->St->Hp->Prop,(∃m,W m σ H)/\∀m σ H,W m σ H->
 c σ H fun b H1=>if b=true then∃N:St->Hp->Prop,(∀σ' H',N σ' H'->∃m',m' < m/\W m' σ' H')/\tb {D with nx:=N,ct:=N,bk:=D.nx} σ H1 else D.nx σ H1
theorem a1c{c:Expr}{body:List Stmt}{tc:TT}{tb:TS}(hp:PassesOwn (model X.prog X.w) X.A X.env X.xe)(hc:PT X c tc)(hb:PSs X body tb):PS X (.While c body [] pos) (a4r tc tb):=by
 intro pins s σ H D I h
 obtain⟨W,⟨m0,w0⟩,turn⟩:=h
 refine wpAny_While (codeAny_whileLoop (fun n s'=>∃σ' H',Inv X pins σ' H' s'/\W n σ' H') ?_ m0 ⟨σ,H,I,w0⟩)
 rintro n s1 ⟨σ1,H1,I1,w1⟩
 refine wpAny_passesOwn hp (thn (hc pins s1 σ1 H1 _ I1 (turn n σ1 H1 w1)) fun b s2⟨H2,I2,q2⟩=>?_)
 cases b with
 | true=>
  obtain⟨N,hN,q2⟩:=q2
  rw[if_pos rfl]
  refine wpAny_passesOwn hp (thn (hb pins s2 σ1 H2 _ I2 q2) fun f s3 q3=>?_)
  cases f with
  | next=>
   obtain⟨σ3,H3,I3,n3⟩:=q3
   obtain⟨m',hm,w3⟩:=hN σ3 H3 n3
   exact⟨m',hm,σ3,H3,I3,w3⟩
  | cont=>
   obtain⟨σ3,H3,I3,n3⟩:=q3
   obtain⟨m',hm,w3⟩:=hN σ3 H3 n3
   exact⟨m',hm,σ3,H3,I3,w3⟩
  | brk=>exact q3
  | ret v=>exact q3
 | false=>
  rw[if_neg Bool.false_ne_true]
  exact wpAny_execs_nil ⟨σ1,H2,I2,q2⟩
end
structure It where
 go:Nat->Hp->Prop
 yld:Nat->Hp->V->Hp->Prop
 stop:Nat->Hp->Prop
noncomputable def a3l (X:Cx) (pins:List (Addr×Obj)) (H:Hp) (b:Addr):Prop:=
 H b=none/\b≠X.env.locals/\b∉X.fs/\(b∈X.ex\/X.s₀.heap.objs.size<=b)/\(∀x c,X.env.cells.lookup x=some c->c≠b)/\∀p∈X.pn++pins,p.1≠b
theorem Inv.fpOk{X:Cx}{pins:List (Addr×Obj)}{σ:St}{H H':Hp}{s:Shared}{b:Addr}(I:Inv X pins σ H s)(hb:s.heap.objs.size<=b)(hn:H' b=none):a3l X pins H' b:=by
 refine⟨hn,Nat.ne_of_gt (Nat.lt_of_lt_of_le I.lt hb),I.nofs hb,.inr (Nat.le_trans I.sz hb),fun x c e z=>?_,fun p hp z=>?_⟩
 ·obtain⟨v,q⟩:=I.cell x c e
  exact absurd (Nat.lt_of_lt_of_le q.lt (by rw[z];exact hb)) (Nat.lt_irrefl _)
 ·exact absurd (Nat.lt_of_lt_of_le (Heap.lt_size (I.pin p hp).1) (by rw[z];exact hb)) (Nat.lt_irrefl _)
structure a7Q(P:Program)(w:World)(K:PySem.W.Frag)(tg:Expr)(J:It)(fp:List Addr)(it:Addr)(tn:Nat->Heap->Prop):Prop where
 mem:it∈fp
 obj:∀i h,tn i h->∀b∈fp,∃o,h.get? b=some o/\∀v,o.data≠ .cell v
 keep:∀i h h',tn i h->(∀b∈fp,∀o,h.get? b=some o->h'.get? b=some o)->tn i h'
 item:∀(X:Cx),X.prog=P->X.w=w->X.K=K->X.calm=true->∀(i:Nat)(pins:List (Addr×Obj))(s:Shared)(σ:St)(H:Hp)(E:Value->Shared->Prop),Inv X pins σ H s->(∀b∈fp,a3l X pins H b)->tn i s.heap->J.go i H->
  wpAny (model P w) X.A (pyNext (.ref it)) (fun r s1=>∃u,r=some u/\
   wpAny (model P w) X.A (letOwnedTupleGo tg (.ref it) u) (fun _ s2=>∃x H',Inv X pins σ H' s2/\W7 x u/\J.yld i H x H'/\tn (i+1) s2.heap/\∀b∈fp,H' b=none) E s1) E s
 done:∀(X:Cx),X.prog=P->X.w=w->X.K=K->X.calm=true->∀(i:Nat)(pins:List (Addr×Obj))(s:Shared)(σ:St)(H:Hp)(E:Value->Shared->Prop),Inv X pins σ H s->(∀b∈fp,a3l X pins H b)->tn i s.heap->J.stop i H->
  wpAny (model P w) X.A (pyNext (.ref it)) (fun r s1=>r=none/\Inv X pins σ H s1) E s
 self:∀(A:Around)(i:Nat)(s:Shared)(Q:Value->Shared->Prop)(E:Value->Shared->Prop),tn i s.heap->Q (.ref it) s->wpAny (model P w) A (pyIter (.ref it)) Q E s
noncomputable abbrev TI:=St->Hp->(It->Hp->Prop)->Prop
noncomputable def PIE (X:Cx) (pins:List (Addr×Obj)) (σ:St) (tg:Expr) (R:It->Hp->Prop) (itv:Value) (s2:Shared):Prop:=
 ∃(it:Addr)(fp:List Addr)(tn:Nat->Heap->Prop)(J:It)(H':Hp),itv= .ref it/\Inv X pins σ H' s2/\a7Q X.prog X.w X.K tg J fp it tn/\tn 0 s2.heap/\(∀b∈fp,a3l X pins H' b)/\R J H'
noncomputable def PI (X:Cx) (tg iter:Expr) (wi:TI):Prop:=
 ∀(pins:List (Addr×Obj))(s:Shared)(σ:St)(H:Hp)(R:It->Hp->Prop),Inv X pins σ H s->wi σ H R->
  wpAny (model X.prog X.w) X.A (eval iter X.env) (fun v s1=>wpAny (model X.prog X.w) X.A (pyIter v) (PIE X pins σ tg R) X.xe s1) X.xe s
theorem a9z{M:Model}{A:Around}{E:Value->Shared->Prop}{s:Shared}{tg:Expr}{it:Addr}{u:Value}{o:Obj}{n:String}{vs:Array Value}{Q:Unit->Shared->Prop}(ho:s.heap.get? it=some o)(hc:o.cls= .type n)(hd:o.data= .fields vs)
  (hn:["enumerate","zip","dict_itemiterator","dict_reverseitemiterator","odict_iterator","itertools.zip_longest","itertools.pairwise"].contains n=false)(hQ:Q () s):wpAny M A (letOwnedTupleGo tg (.ref it) u) Q E s:=by
 unfold letOwnedTupleGo
 cases tg<;>first
  | exact wpAny_pure hQ
  | (cases u<;>first
    | exact wpAny_pure hQ
    | (refine wpAny_bind (wpAny_load ho ?_)
       rw[hc,hd]
       show wpAny M A (if(["enumerate","zip","dict_itemiterator","dict_reverseitemiterator","odict_iterator","itertools.zip_longest","itertools.pairwise"].contains n && vs[0]?==some (rawInt _))=true then _ else _) Q E s
       rw[if_neg (by intro h;rw[hn,Bool.false_and]at h;cases h)]
       exact wpAny_pure hQ))
noncomputable def Itl (K:PySem.W.Frag) (a:Addr):It:=
 ⟨fun i H=>∃xs x,SqL K H a xs/\xs[i]?=some x,fun i H x H'=>H'=H/\∀xs,SqL K H a xs->xs[i]?=some x,fun i H=>∃xs,SqL K H a xs/\xs.length<=i⟩
noncomputable def Itt (K:PySem.W.Frag) (a:Addr):It:=
 ⟨fun i H=>∃xs x,SqT K H a xs/\xs[i]?=some x,fun i H x H'=>H'=H/\∀xs,SqT K H a xs->xs[i]?=some x,fun i H=>∃xs,SqT K H a xs/\xs.length<=i⟩
noncomputable def Itr (lo:Int) (n:Nat):It:=⟨fun i _=>i < n,fun i H x H'=>H'=H/\x= .int (lo+i),fun i _=>n<=i⟩
theorem b0R{P:Program}{w:World}{K:PySem.W.Frag}{tg:Expr}(a it:Addr):a7Q P w K tg (Itl K a) [it] it (fun i h=>h.IsListIter it a i)where
 mem:=by simp
 obj:=fun i h st b hb=>by
  have e:b=it:=by simpa using hb
  subst e
  obtain⟨o,e,c,d⟩:=st
  exact⟨o,e,fun v z=>by rw[d]at z;cases z⟩
 keep:=fun i h h' st k=>st.at fun o e=>k it (by simp) o e
 item:=by
  intro X hP hw hK hc i pins s σ H E I hf st hg
  subst hP hw hK
  obtain⟨xs,x,hq,hx⟩:=hg
  obtain⟨its,rv,p,hz⟩:=I.list hq
  obtain⟨u,hu,ru⟩:=rv.get hx
  obtain⟨f0,f1,f2,f3,f4,f5⟩:=hf it (by simp)
  refine wpAny_pyNext_list_item st p.isList (x:=u) (by simpa using hu) fun h' st' sb=>?_
  have I1:Inv X pins σ H {s with heap:=h'}:=I.turned (t':=s.toks) (fun b o hb e=>(sb.2 b hb).trans e) f0 f1 f3 f4 f5
  obtain⟨o,e,c,d⟩:=id st'
  exact⟨u,rfl,a9z (s:={s with heap:=h'}) e c d (by decide) ⟨x,H,I1,ru,⟨rfl,fun ys hy=>by rw[I.list_inj hy hq];exact hx⟩,st',fun b hb=>(hf b hb).1⟩⟩
 done:=by
  intro X hP hw hK hc i pins s σ H E I hf st hg
  subst hP hw hK
  obtain⟨xs,hq,hx⟩:=hg
  obtain⟨its,rv,p,hz⟩:=I.list hq
  obtain⟨f0,f1,f2,f3,f4,f5⟩:=hf it (by simp)
  have hl:=rv.length
  exact wpAny_pyNext_list_end (I.ok.hd hc) st p.isList (by simp;omega) fun h' eb=>⟨rfl,I.turned (t':=s.toks) (fun b o hb e=>eb b o hb e) f0 f1 f3 f4 f5⟩
 self:=fun _ _ _ _ _ st h=>wpAny_pyIter_listiter st h
theorem a8K{P:Program}{w:World}{K:PySem.W.Frag}{tg:Expr}(a it:Addr):a7Q P w K tg (Itt K a) [it] it (fun i h=>h.IsTupleIter it a i)where
 mem:=by simp
 obj:=fun i h st b hb=>by
  have e:b=it:=by simpa using hb
  subst e
  obtain⟨o,e,c,d⟩:=st
  exact⟨o,e,fun v z=>by rw[d]at z;cases z⟩
 keep:=fun i h h' st k=>st.at fun o e=>k it (by simp) o e
 item:=by
  intro X hP hw hK hc i pins s σ H E I hf st hg
  subst hP hw hK
  obtain⟨xs,x,hq,hx⟩:=hg
  obtain⟨its,rv,p,hz⟩:=I.tuple hq
  obtain⟨u,hu,ru⟩:=rv.get hx
  obtain⟨f0,f1,f2,f3,f4,f5⟩:=hf it (by simp)
  refine wpAny_pyNext_tuple_item st (show s.heap.IsTuple a its.toArray from p) (x:=u) (by simpa using hu) fun h' st' sb=>?_
  have I1:Inv X pins σ H {s with heap:=h'}:=I.turned (t':=s.toks) (fun b o hb e=>(sb.2 b hb).trans e) f0 f1 f3 f4 f5
  obtain⟨o,e,c,d⟩:=id st'
  exact⟨u,rfl,a9z (s:={s with heap:=h'}) e c d (by decide) ⟨x,H,I1,ru,⟨rfl,fun ys hy=>by rw[I.tuple_inj hy hq];exact hx⟩,st',fun b hb=>(hf b hb).1⟩⟩
 done:=by
  intro X hP hw hK hc i pins s σ H E I hf st hg
  subst hP hw hK
  obtain⟨xs,hq,hx⟩:=hg
  obtain⟨its,rv,p,hz⟩:=I.tuple hq
  obtain⟨f0,f1,f2,f3,f4,f5⟩:=hf it (by simp)
  have hl:=rv.length
  exact wpAny_pyNext_tuple_end (I.ok.hd hc) st (show s.heap.IsTuple a its.toArray from p) (by simp;omega) fun h' eb=>⟨rfl,I.turned (t':=s.toks) (fun b o hb e=>eb b o hb e) f0 f1 f3 f4 f5⟩
 self:=fun _ _ _ _ _ st h=>wpAny_pyIter_tupleiter st h
theorem a9b{P:Program}{w:World}{K:PySem.W.Frag}{tg:Expr}(it:Addr)(lo:Int)(n:Nat):a7Q P w K tg (Itr lo n) [it] it (fun i h=>IsRangeIter h it (lo+(i:Nat)*1) ((n:Int) - (i:Nat)) 1)where
 mem:=by simp
 obj:=fun i h st b hb=>by
  have e:b=it:=by simpa using hb
  subst e
  exact⟨_,st,fun v z=>by
   have z':Data.fields _=Data.cell v:=z
   cases z'⟩
 keep:=fun i h h' st k=>k it (by simp) _ st
 item:=by
  intro X hP hw hK hc i pins s σ H E I hf st hg
  subst hP hw hK
  obtain⟨f0,f1,f2,f3,f4,f5⟩:=hf it (by simp)
  have W:=Walks.range (prog:=X.prog) (w:=X.w) (I.ok.hd hc) it lo 1 n
  refine W.item i s _ _ hg st fun v h' tk hv st' kk=>?_
  obtain⟨t,rfl⟩:=hv
  have I1:Inv X pins σ H {s with heap:=h',toks:=tk}:=I.turned (fun b o hb e=>kk b o (by simpa using hb) e) f0 f1 f3 f4 f5
  refine⟨_,rfl,a9z (s:={s with heap:=h',toks:=tk}) (n:="range_iterator") st' rfl rfl (by decide) ⟨.int (lo+i),H,I1,⟨t,?_⟩,⟨rfl,rfl⟩,st',fun b hb=>(hf b hb).1⟩⟩
  rw[Int.mul_one]
 done:=by
  intro X hP hw hK hc i pins s σ H E I hf st hg
  subst hP hw hK
  obtain⟨f0,f1,f2,f3,f4,f5⟩:=hf it (by simp)
  exact wpAny_pyNext_range_end (I.ok.hd hc) st (by have:n<=i:=hg;omega) fun h' eb=>⟨rfl,I.turned (t':=s.toks) (fun b o hb e=>eb b o hb e) f0 f1 f3 f4 f5⟩
 self:=fun _ _ _ _ _ st h=>wpAny_pyIter_rangeiter st h
end L2
namespace L2
open PySem PySem.Spec PyProof.Rows
section
variable{X:Cx}{tg:Expr}
noncomputable def b5i (K:PySem.W.Frag) (tl:TE):TI:=fun σ H R=>tl σ H fun x H1=>∃a,x= .ref a/\(∃xs,SqL K H1 a xs)/\R (Itl K a) H1
noncomputable def b5D (K:PySem.W.Frag) (tl:TE):TI:=fun σ H R=>tl σ H fun x H1=>∃a,x= .ref a/\(∃xs,SqT K H1 a xs)/\R (Itt K a) H1
theorem a1T{l:Expr}{tl:TE}(hl:PE X l tl):PI X tg l (b5i X.K tl):=by
 intro pins s σ H R I h
 refine thn (hl pins s σ H _ I h) fun v s1⟨x,H1,I1,r1,q1⟩=>?_
 obtain⟨a,e,⟨xs,hq⟩,q⟩:=q1
 subst e
 cases r1
 obtain⟨its,rv,p,hz⟩:=I1.list hq
 refine wpAny_pyIter_list p.isList ?_
 refine⟨s1.heap.objs.size,[s1.heap.objs.size],_,_,H1,rfl,I1.kept (t':=s1.toks) fun b o e=>Heap.get?_push_of_some _ e,b0R a _,⟨_,Heap.get?_push_size _ rfl,rfl,rfl⟩,fun b hb=>?_,q⟩
 have e:b=s1.heap.objs.size:=by simpa using hb
 subst e
 exact I1.fpOk (Nat.le_refl _) (I1.hok.fresh (Nat.le_refl _))
theorem F1{l:Expr}{tl:TE}(hl:PE X l tl):PI X tg l (b5D X.K tl):=by
 intro pins s σ H R I h
 refine thn (hl pins s σ H _ I h) fun v s1⟨x,H1,I1,r1,q1⟩=>?_
 obtain⟨a,e,⟨xs,hq⟩,q⟩:=q1
 subst e
 cases r1
 obtain⟨its,rv,p,hz⟩:=I1.tuple hq
 refine wpAny_pyIter_tuple (show s1.heap.IsTuple a its.toArray from p) ?_
 refine⟨s1.heap.objs.size,[s1.heap.objs.size],_,_,H1,rfl,I1.kept (t':=s1.toks) fun b o e=>Heap.get?_push_of_some _ e,a8K a _,⟨_,Heap.get?_push_size _ rfl,rfl,rfl⟩,fun b hb=>?_,q⟩
 have e:b=s1.heap.objs.size:=by simpa using hb
 subst e
 exact I1.fpOk (Nat.le_refl _) (I1.hok.fresh (Nat.le_refl _))
theorem a7Z{pins:List (Addr×Obj)}{σ:St}{H:Hp}{s:Shared}{R:It->Hp->Prop}{E:Value->Shared->Prop}{lo hi:Int}{t u v:Tok}{tk:Nat}(I:Inv X pins σ H s)(h1: -(2 ^ 62)<=lo)(h2:lo < 2 ^ 62)(h3: -(2 ^ 62)<=hi)(h4:hi < 2 ^ 62)
  (q:R (Itr lo (hi - lo).toNat) H):wpAny (model X.prog X.w) X.A (pyIter (.ref s.heap.objs.size)) (PIE X pins σ tg R) E {s with heap:=s.heap.push {cls:= .type "range",data:= .fields #[.int lo t,.int hi u,.int 1 v]},toks:=tk}:=by
 refine wpAny_pyIter_range (IsRange.new ..) (small_one h1 h2 h3 h4) ?_
 have I1:Inv X pins σ H {s with heap:=s.heap.push {cls:= .type "range",data:= .fields #[.int lo t,.int hi u,.int 1 v]},toks:=tk}:=I.kept fun b o e=>Heap.get?_push_of_some _ e
 refine⟨(s.heap.push {cls:= .type "range",data:= .fields #[.int lo t,.int hi u,.int 1 v]}).objs.size,[(s.heap.push {cls:= .type "range",data:= .fields #[.int lo t,.int hi u,.int 1 v]}).objs.size],_,_,H,rfl,
  I1.kept (t':=tk) fun b o e=>Heap.get?_push_of_some _ e,a9b _ lo (hi - lo).toNat,?_,fun b hb=>?_,q⟩
 ·have e1:lo+((0:Nat):Int)*1=lo:=by simp
  have e2:(((hi - lo).toNat:Nat):Int) - ((0:Nat):Int)=Builtin.Range.rangeSize lo hi 1:=by rw[rangeSize_one];split<;>omega
  show IsRangeIter _ _ (lo+((0:Nat):Int)*1) ((((hi - lo).toNat:Nat):Int) - ((0:Nat):Int)) 1
  rw[e1,e2]
  exact Heap.get?_push_size _ rfl
 ·have e:b=(s.heap.push {cls:= .type "range",data:= .fields #[.int lo t,.int hi u,.int 1 v]}).objs.size:=by simpa using hb
  subst e
  exact I1.fpOk (Nat.le_refl _) (I1.hok.fresh (Nat.le_refl _))
noncomputable def b5y (ta:TA):TI:=fun σ H R=>ta σ H fun vs H1=>∃j:Int,vs=[.int j]/\ -(2 ^ 62)<=j/\j < 2 ^ 62/\R (Itr 0 j.toNat) H1
noncomputable def b5R (ta:TA):TI:=fun σ H R=>ta σ H fun vs H1=>∃i j:Int,vs=[.int i,.int j]/\(-(2 ^ 62)<=i/\i < 2 ^ 62/\ -(2 ^ 62)<=j/\j < 2 ^ 62)/\R (Itr i (j - i).toNat) H1
theorem a0f{a:Expr}{ta:TA}{p pos:Pos}(hg:Gl X "range")(hm:X.mg "range"=none)(ha:PA X [a] ta)(hs:starEach [a] X.env=[(false,eval a X.env)]:=by rfl):PI X tg (.Call (.Name "range" p) [a] [] pos) (b5y ta):=by
 intro pins s σ H R I h
 refine Call_ (a1b I hg hm boot_range (PyProof.Rows.callWith_type1 (thn (ha pos pins s σ H _ I h) fun us s1⟨vs,H1,I1,r1,q1⟩=>?_) hs rfl))
 obtain⟨j,e,q1,q2,q⟩:=q1
 subst e
 cases r1 with
 | cons r rr=>
  cases rr
  obtain⟨t,rfl⟩:=r
  exact call_range_1 (a7Z I1 (by omega) (by omega) q1 q2 (by simpa using q))
theorem b0o{a b:Expr}{ta:TA}{p pos:Pos}(hg:Gl X "range")(hm:X.mg "range"=none)(ha:PA X [a,b] ta)(hs:starEach [a,b] X.env=[(false,eval a X.env),(false,eval b X.env)]:=by rfl)(hs2:starEach [b] X.env=[(false,eval b X.env)]:=by rfl):
  PI X tg (.Call (.Name "range" p) [a,b] [] pos) (b5R ta):=by
 intro pins s σ H R I h
 refine Call_ (a1b I hg hm boot_range (PyProof.Rows.callWith_type1 (thn (ha pos pins s σ H _ I h) fun us s1⟨vs,H1,I1,r1,q1⟩=>?_) (by rw[hs,hs2]) (by rw[hs2];rfl)))
 obtain⟨i,j,e,⟨q1,q2,q3,q4⟩,q⟩:=q1
 subst e
 cases r1 with
 | cons r rr=>
  cases rr with
  | cons r' rr=>
   cases rr
   obtain⟨t,rfl⟩:=r
   obtain⟨t',rfl⟩:=r'
   exact call_range_2 (a7Z I1 q1 q2 q3 q4 q)
noncomputable def b6w (wi:TI) (g:TG) (tb:TS):TS:=fun D σ H=>wi σ H fun J H1=>∃W:Nat->Nat->St->Hp->Prop,(∃m,W 0 m σ H1)/\∀i m σ H,W i m σ H->
 (J.stop i H/\D.nx σ H)\/(J.go i H/\∃N:St->Hp->Prop,(∀σ' H',N σ' H'->∃m',m' < m/\W (i+1) m' σ' H')/\∀x H',J.yld i H x H'->g x σ H' fun σ2 H2=>tb {D with nx:=N,ct:=N,bk:=D.nx} σ2 H2)
noncomputable def a4W (fp:List Addr) (h:Heap):List (Addr×Obj):=fp.filterMap fun b=>(h.get? b).map fun o=>(b,o)
theorem a1Z{fp:List Addr}{h:Heap}{b:Addr}{o:Obj}(hb:b∈fp)(e:h.get? b=some o):(b,o)∈a4W fp h:=List.mem_filterMap.mpr ⟨b,hb,by rw[e];rfl⟩
theorem a9G{fp:List Addr}{h:Heap}{p:Addr×Obj}(hp:p∈a4W fp h):p.1∈fp/\h.get? p.1=some p.2:=by
 obtain⟨b,hb,e⟩:=List.mem_filterMap.mp hp
 cases q:h.get? b with
 | none=>rw[q]at e;cases e
 | some o=>
  rw[q]at e
  have e':(b,o)=p:=Option.some.inj e
  subst e'
  exact⟨hb,q⟩
theorem Inv.pinned{pins:List (Addr×Obj)}{σ:St}{H:Hp}{s:Shared}{fp:List Addr}(I:Inv X pins σ H s)(hf:∀b∈fp,a3l X pins H b)(ho:∀b∈fp,∃o,s.heap.get? b=some o/\∀v,o.data≠ .cell v):Inv X (pins++a4W fp s.heap) σ H s:=
 I.pins_of fun p hp=>(List.mem_append.mp hp).elim (fun z=>I.pin p (List.mem_append_right _ z)) fun z=>by
  obtain⟨hb,e⟩:=a9G z
  obtain⟨f0,f1,f2,_⟩:=hf p.1 hb
  obtain⟨o,e',d⟩:=ho p.1 hb
  rw[e]at e';cases e'
  exact⟨e,f0,f1,f2,d⟩
theorem Inv.unpinned{pins pl:List (Addr×Obj)}{σ:St}{H:Hp}{s:Shared}(I:Inv X (pins++pl) σ H s):Inv X pins σ H s:=I.pins_of fun p hp=>I.pin p (List.mem_append_right _ (List.mem_append_left _ hp))
theorem Y0{iter:Expr}{body:List Stmt}{wi:TI}{g:TG}{tb:TS}{pos:Pos}(hp:PassesOwn (model X.prog X.w) X.A X.env X.xe)(hc:X.calm=true)(hi:PI X tg iter wi)(hg:PG X tg g)(hb:PSs X body tb)
  (hs:∀x,foldedSetIterable iter X.env x=pure x:=by intro _;rfl):PS X (.For tg iter body [] pos) (b6w wi g tb):=by
 intro pins s σ H D I h
 refine wpAny_For (thn (hi pins s σ H _ I h) fun v s1 h1=>thn h1 fun itv s2 h2=>?_) hs
 obtain⟨it,fp,tn,J,H2,e,I2,T,st2,f2,W,⟨m0,w0⟩,turn⟩:=h2
 subst e
 have stat:∀{H':Hp},(∀b∈fp,H' b=none)->∀b∈fp,a3l X pins H' b:=fun hn b hb=>⟨hn b hb,(f2 b hb).2⟩
 refine codeAny_forLoop_any (fun n s'=>∃i σ' H',Inv X pins σ' H' s'/\tn i s'.heap/\(∀b∈fp,H' b=none)/\W i n σ' H') ?_ m0 ⟨0,σ,H2,I2,st2,fun b hb=>(f2 b hb).1,w0⟩
 rintro n s3 ⟨i,σ3,H3,I3,st3,fr3,w3⟩
 rcases turn i n σ3 H3 w3 with⟨stop,qn⟩ | ⟨go,N,hN,step⟩
 ·refine wpAny_passesOwn hp (thn (T.done X rfl rfl rfl hc i pins s3 σ3 H3 X.xe I3 (stat fr3) st3 stop) fun r s4⟨hr,I4⟩=>?_)
  subst hr
  exact wpAny_execs_nil ⟨σ3,H3,I4,qn⟩
 ·refine wpAny_passesOwn hp (thn (T.item X rfl rfl rfl hc i pins s3 σ3 H3 X.xe I3 (stat fr3) st3 go) fun r s4⟨u,hr,h4⟩=>?_)
  subst hr
  refine wpAny_passesOwn hp (thn h4 fun _ s5⟨x,H5,I5,r5,y5,st5,fr5⟩=>?_)
  have I5':=I5.pinned (stat fr5) (T.obj _ _ st5)
  refine wpAny_passesOwn hp (thn (hg _ s5 σ3 H5 x u _ I5' r5 (step x H5 y5)) fun _ s6⟨σ6,H6,I6,q6⟩=>?_)
  refine wpAny_passesOwn hp (thn (hb _ s6 σ6 H6 _ I6 q6) fun f s7 q7=>?_)
  have again:∀{σ7:St}{H7:Hp},Inv X (pins++a4W fp s5.heap) σ7 H7 s7->N σ7 H7->∃m,m < n/\∃i σ' H',Inv X pins σ' H' s7/\tn i s7.heap/\(∀b∈fp,H' b=none)/\W i m σ' H':=fun{σ7 H7}I7 n7=>by
   obtain⟨m',hm,w7⟩:=hN σ7 H7 n7
   refine⟨m',hm,i+1,σ7,H7,I7.unpinned,T.keep _ _ _ st5 fun b hb o e=>(I7.pin (b,o) (List.mem_append_right _ (List.mem_append_right _ (a1Z hb e)))).1,fun b hb=>?_,w7⟩
   obtain⟨o,e,d⟩:=T.obj _ _ st5 b hb
   exact(I7.pin (b,o) (List.mem_append_right _ (List.mem_append_right _ (a1Z hb e)))).2.1
  cases f with
  | next=>obtain⟨σ7,H7,I7,n7⟩:=q7;exact again I7 n7
  | cont=>obtain⟨σ7,H7,I7,n7⟩:=q7;exact again I7 n7
  | brk=>obtain⟨σ7,H7,I7,q7⟩:=q7;exact⟨σ7,H7,I7.unpinned,q7⟩
  | ret v=>obtain⟨x7,σ7,H7,I7,r7,q7⟩:=q7;exact⟨x7,σ7,H7,I7.unpinned,r7,q7⟩
end
theorem a2k{K:PySem.W.Frag}{a:Addr}{xs:List V}{g:TG}{tb:TS}{D:a1B}{σ:St}{H:Hp}(Pv:Nat->St->Hp->Prop)(h0:Pv 0 σ H)(hl:∀i σ H,i<=xs.length->Pv i σ H->SqL K H a xs)
  (hs:∀i x σ H,xs[i]?=some x->Pv i σ H->g x σ H fun σ2 H2=>tb {D with nx:=Pv (i+1),ct:=Pv (i+1),bk:=D.nx} σ2 H2)(hd:∀σ H,Pv xs.length σ H->D.nx σ H):
  ∃W:Nat->Nat->St->Hp->Prop,(∃m,W 0 m σ H)/\∀i m σ H,W i m σ H->
   ((Itl K a).stop i H/\D.nx σ H)\/((Itl K a).go i H/\∃N:St->Hp->Prop,(∀σ' H',N σ' H'->∃m',m' < m/\W (i+1) m' σ' H')/\∀x H',(Itl K a).yld i H x H'->g x σ H' fun σ2 H2=>tb {D with nx:=N,ct:=N,bk:=D.nx} σ2 H2):=by
 refine⟨fun i m σ H=>m=xs.length - i/\i<=xs.length/\Pv i σ H,⟨xs.length,by simp,Nat.zero_le _,h0⟩,?_⟩
 rintro i m σ H ⟨rfl,hi,p⟩
 have q:=hl i σ H hi p
 by_cases hlt:i < xs.length
 ·refine .inr ⟨⟨xs,xs[i],q,by simp[hlt]⟩,Pv (i+1),fun σ' H' p'=>⟨xs.length - (i+1),by omega,rfl,hlt,p'⟩,fun x H' y=>?_⟩
  obtain⟨e,y⟩:=y
  subst e
  exact hs i x σ _ (y xs q) p
 ·have e:i=xs.length:=by omega
  subst e
  exact .inl ⟨⟨xs,q,Nat.le_refl _⟩,hd σ H p⟩
theorem E6{K:PySem.W.Frag}{a:Addr}{xs:List V}{g:TG}{tb:TS}{D:a1B}{σ:St}{H:Hp}(Pv:Nat->St->Hp->Prop)(h0:Pv 0 σ H)(hl:∀i σ H,i<=xs.length->Pv i σ H->SqT K H a xs)
  (hs:∀i x σ H,xs[i]?=some x->Pv i σ H->g x σ H fun σ2 H2=>tb {D with nx:=Pv (i+1),ct:=Pv (i+1),bk:=D.nx} σ2 H2)(hd:∀σ H,Pv xs.length σ H->D.nx σ H):
  ∃W:Nat->Nat->St->Hp->Prop,(∃m,W 0 m σ H)/\∀i m σ H,W i m σ H->
   ((Itt K a).stop i H/\D.nx σ H)\/((Itt K a).go i H/\∃N:St->Hp->Prop,(∀σ' H',N σ' H'->∃m',m' < m/\W (i+1) m' σ' H')/\∀x H',(Itt K a).yld i H x H'->g x σ H' fun σ2 H2=>tb {D with nx:=N,ct:=N,bk:=D.nx} σ2 H2):=by
 refine⟨fun i m σ H=>m=xs.length - i/\i<=xs.length/\Pv i σ H,⟨xs.length,by simp,Nat.zero_le _,h0⟩,?_⟩
 rintro i m σ H ⟨rfl,hi,p⟩
 have q:=hl i σ H hi p
 by_cases hlt:i < xs.length
 ·refine .inr ⟨⟨xs,xs[i],q,by simp[hlt]⟩,Pv (i+1),fun σ' H' p'=>⟨xs.length - (i+1),by omega,rfl,hlt,p'⟩,fun x H' y=>?_⟩
  obtain⟨e,y⟩:=y
  subst e
  exact hs i x σ _ (y xs q) p
 ·have e:i=xs.length:=by omega
  subst e
  exact .inl ⟨⟨xs,q,Nat.le_refl _⟩,hd σ H p⟩
theorem B7{lo:Int}{n:Nat}{g:TG}{tb:TS}{D:a1B}{σ:St}{H:Hp}(Pv:Nat->St->Hp->Prop)(h0:Pv 0 σ H)
  (hs:∀i σ H,i < n->Pv i σ H->g (.int (lo+i)) σ H fun σ2 H2=>tb {D with nx:=Pv (i+1),ct:=Pv (i+1),bk:=D.nx} σ2 H2)(hd:∀σ H,Pv n σ H->D.nx σ H):
  ∃W:Nat->Nat->St->Hp->Prop,(∃m,W 0 m σ H)/\∀i m σ H,W i m σ H->
   ((Itr lo n).stop i H/\D.nx σ H)\/((Itr lo n).go i H/\∃N:St->Hp->Prop,(∀σ' H',N σ' H'->∃m',m' < m/\W (i+1) m' σ' H')/\∀x H',(Itr lo n).yld i H x H'->g x σ H' fun σ2 H2=>tb {D with nx:=N,ct:=N,bk:=D.nx} σ2 H2):=by
 refine⟨fun i m σ H=>m=n - i/\i<=n/\Pv i σ H,⟨n,by simp,Nat.zero_le _,h0⟩,?_⟩
 rintro i m σ H ⟨rfl,hi,p⟩
 by_cases hlt:i < n
 ·refine .inr ⟨hlt,Pv (i+1),fun σ' H' p'=>⟨n - (i+1),by omega,rfl,hlt,p'⟩,fun x H' y=>?_⟩
  obtain⟨e,y⟩:=y
  subst e y
  exact hs i σ _ hlt p
 ·have e:i=n:=by omega
  subst e
  exact .inl ⟨Nat.le_refl _,hd σ H p⟩
theorem a1J{c:TT}{tb:TS}{D:a1B}{σ:St}{H:Hp}(Pv:St->Hp->Prop)(μ:St->Hp->Nat)(h0:Pv σ H)
  (hs:∀σ H,Pv σ H->c σ H fun b H1=>if b=true then tb {D with nx:=fun σ' H'=>Pv σ' H'/\μ σ' H' < μ σ H,ct:=fun σ' H'=>Pv σ' H'/\μ σ' H' < μ σ H,bk:=D.nx} σ H1 else D.nx σ H1)
  (mono:∀σ H Q Q',(∀b H1,Q b H1->Q' b H1)->c σ H Q->c σ H Q'):a4r c tb D σ H:=by
 refine⟨fun m σ H=>m=μ σ H/\Pv σ H,⟨_,rfl,h0⟩,?_⟩
 rintro m σ H ⟨rfl,p⟩
 refine mono σ H _ _ (fun b H1 q=>?_) (hs σ H p)
 cases b with
 | true=>exact⟨_,fun σ' H'⟨p',l⟩=>⟨_,l,rfl,p'⟩,q⟩
 | false=>exact q
end L2
namespace L2
open PySem PySem.Spec PyProof.Rows
noncomputable abbrev R2:=V->V->Hp->VK->Prop
noncomputable def OpR (X:Cx) (f:Value->Value->Sem Value) (r:R2):Prop:=
 ∀(pins:List (Addr×Obj))(s:Shared)(σ:St)(H:Hp)(x y:V)(v u:Value)(Q:VK),Inv X pins σ H s->W7 x v->W7 y u->r x y H Q->
  wpAny (model X.prog X.w) X.A (f v u) (EP X pins σ Q) X.xe s
noncomputable def UnR (X:Cx) (f:Value->Sem Value) (r:V->Hp->VK->Prop):Prop:=
 ∀(pins:List (Addr×Obj))(s:Shared)(σ:St)(H:Hp)(x:V)(v:Value)(Q:VK),Inv X pins σ H s->W7 x v->r x H Q->
  wpAny (model X.prog X.w) X.A (f v) (EP X pins σ Q) X.xe s
noncomputable def a1o (X:Cx) (f:Value) (r:List V->Hp->VK->Prop):Prop:=
 ∀(pins:List (Addr×Obj))(s:Shared)(σ:St)(H:Hp)(xs:List V)(us:List Value)(Q:VK),Inv X pins σ H s->W5 xs us->r xs H Q->
  wpAny (model X.prog X.w) X.A (call f us) (EP X pins σ Q) X.xe s
noncomputable def b6d (X:Cx) (r:V->Hp->(Bool->Hp->Prop)->Prop):Prop:=
 ∀(pins:List (Addr×Obj))(s:Shared)(σ:St)(H:Hp)(x:V)(v:Value)(Q:Bool->Hp->Prop),Inv X pins σ H s->W7 x v->r x H Q->
  wpAny (model X.prog X.w) X.A (truthy v) (TP X pins σ Q) X.xe s
noncomputable def tOp (r:R2) (ta tb:TE):TE:=fun σ H Q=>ta σ H fun x H1=>tb σ H1 fun y H2=>r x y H2 Q
noncomputable def tUn (r:V->Hp->VK->Prop) (ta:TE):TE:=fun σ H Q=>ta σ H fun x H1=>r x H1 Q
noncomputable def rI (C:Int->Int->Prop) (g:Int->Int->V):R2:=fun x y H Q=>∃i j,x= .int i/\y= .int j/\C i j/\Q (g i j) H
noncomputable def rI0 (g:Int->Int->V):R2:=fun x y H Q=>∃i j,x= .int i/\y= .int j/\Q (g i j) H
noncomputable def rU (g:Int->V):V->Hp->VK->Prop:=fun x H Q=>∃i,x= .int i/\Q (g i) H
section
variable{X:Cx}{a b c:Expr}{ta tb tc:TE}{pos:Pos}
theorem b4t(ha:PE X a ta)(hb:PE X b tb){pins:List (Addr×Obj)}{s:Shared}{σ:St}{H:Hp}{R:V->V->Hp->Prop}(I:Inv X pins σ H s)
  (h:ta σ H fun x H1=>tb σ H1 fun y H2=>R x y H2){Q:Value->Shared->Prop}{f:Value->Value->Sem Value}
  (hf:∀v u s2 x y H2,Inv X pins σ H2 s2->W7 x v->W7 y u->R x y H2->wpAny (model X.prog X.w) X.A (f v u) Q X.xe s2):
  wpAny (model X.prog X.w) X.A (eval a X.env) (fun v s₁=>wpAny (model X.prog X.w) X.A (eval b X.env) (fun u s₂=>wpAny (model X.prog X.w) X.A (f v u) Q X.xe s₂) X.xe s₁) X.xe s:=by
 refine thn (ha pins s σ H _ I h) fun v s1⟨x,H1,I1,r1,q1⟩=>?_
 refine thn (hb pins s1 σ H1 _ I1 q1) fun u s2⟨y,H2,I2,r2,q2⟩=>?_
 exact hf v u s2 x y H2 I2 r1 r2 q2
theorem J1{op:Operator}{r:R2}(ho:OpR X (binaryOp op) r)(ha:PE X a ta)(hb:PE X b tb):PE X (.BinOp a op b pos) (tOp r ta tb):=by
 intro pins s σ H Q I h
 exact wpAny_BinOp (b4t ha hb I h fun v u s2 x y H2 I2 rx ry q=>ho pins s2 σ H2 x y v u Q I2 rx ry q)
theorem a7t{op:UnaryOp}{r:V->Hp->VK->Prop}(ho:UnR X (unaryOp op) r)(ha:PE X a ta):PE X (.UnaryOp op a pos) (tUn r ta):=by
 intro pins s σ H Q I h
 exact UnaryOp_ (thn (ha pins s σ H _ I h) fun v s1⟨x,H1,I1,r1,q1⟩=>ho pins s1 σ H1 x v Q I1 r1 q1)
theorem opI{f:Value->Value->Sem Value}{C:Int->Int->Prop}{g:Int->Int->Int}
  (rule:∀(i j:Int)(t u:Tok)(s:Shared)(Q:Value->Shared->Prop)(E:Value->Shared->Prop),C i j->Q (.int (g i j) s.toks) {s with toks:=s.toks+1}->wpAny (model X.prog X.w) X.A (f (.int i t) (.int j u)) Q E s):
  OpR X f (rI C fun i j=> .int (g i j)):=by
 intro pins s σ H x y v u Q I rx ry h
 obtain⟨i,j,rfl,rfl,hc,q⟩:=h
 obtain⟨t,rfl⟩:=rx
 obtain⟨t',rfl⟩:=ry
 exact rule i j t t' s _ _ hc ⟨.int (g i j),H,I.tok _,⟨_,rfl⟩,q⟩
theorem b5H{f:Value->Value->Sem Value}{g:Int->Int->Int}
  (rule:∀(i j:Int)(t u:Tok)(s:Shared)(Q:Value->Shared->Prop)(E:Value->Shared->Prop),Q (.int (g i j) s.toks) {s with toks:=s.toks+1}->wpAny (model X.prog X.w) X.A (f (.int i t) (.int j u)) Q E s):
  OpR X f (rI0 fun i j=> .int (g i j)):=by
 intro pins s σ H x y v u Q I rx ry h
 obtain⟨i,j,rfl,rfl,q⟩:=h
 obtain⟨t,rfl⟩:=rx
 obtain⟨t',rfl⟩:=ry
 exact rule i j t t' s _ _ ⟨.int (g i j),H,I.tok _,⟨_,rfl⟩,q⟩
theorem b5N{f:Value->Value->Sem Value}{g:Int->Int->Bool}
  (rule:∀(i j:Int)(t u:Tok)(s:Shared)(Q:Value->Shared->Prop)(E:Value->Shared->Prop),Q (.bool (g i j)) s->wpAny (model X.prog X.w) X.A (f (.int i t) (.int j u)) Q E s):
  OpR X f (rI0 fun i j=> .bl (g i j)):=by
 intro pins s σ H x y v u Q I rx ry h
 obtain⟨i,j,rfl,rfl,q⟩:=h
 obtain⟨t,rfl⟩:=rx
 obtain⟨t',rfl⟩:=ry
 exact rule i j t t' s _ _ ⟨.bl (g i j),H,I,rfl,q⟩
noncomputable def b6r (i j:Int):Prop:=0 < j/\j < 1073741824
noncomputable def b6C (i j:Int):Prop:=0<=j/\j<=1000000/\i.natAbs < 2 ^ 64
noncomputable def b4M (i j:Int):Prop:=(-(2 ^ 64) < i/\i < 2 ^ 64)\/(-(2 ^ 64) < j/\j < 2 ^ 64)
theorem b4M.ok{i j:Int}(h:b4M i j):IntMulOk i j:=by
 rcases h with⟨h1,h2⟩ | ⟨h1,h2⟩
 ·exact .of_left (intBits_le_64 h1 h2)
 ·exact .of_right (intBits_le_64 h1 h2)
theorem O0:OpR X (binaryOp .Add) (rI0 fun i j=> .int (i+j)):=b5H fun _ _ _ _ _ _ _ q=>add_int q
theorem b4o:OpR X (binaryOp .Sub) (rI0 fun i j=> .int (i - j)):=b5H fun _ _ _ _ _ _ _ q=>sub_int q
theorem F7:OpR X (binaryOp .Mult) (rI b4M fun i j=> .int (i*j)):=opI fun _ _ _ _ _ _ _ hc q=>mul_int q hc.ok
theorem Y7:OpR X (binaryOp .FloorDiv) (rI b6r fun i j=> .int (i/j)):=opI fun i j _ _ _ _ _ hc q=>by
 have h1:(0:Int) < j:=hc.1
 have h2:j < 1073741824:=hc.2
 exact floordiv_int (by omega) (by rw[Int.fdiv_eq_ediv_of_nonneg i (by omega)];exact q) (.inl (PyProof.noPylong_small (by omega)))
theorem U5:OpR X (binaryOp .Mod) (rI (fun _ j=>0 < j) fun i j=> .int (i % j)):=opI fun i j _ _ _ _ _ hc q=>by
 have h1:(0:Int) < j:=hc
 exact mod_int' (by omega) (by rw[Int.fmod_eq_emod_of_nonneg i (by omega)];exact q)
theorem b4l:OpR X (binaryOp .Pow) (rI b6C fun i j=> .int (i ^ j.toNat)):=opI fun _ _ _ _ _ _ _ hc q=>pow_int_small hc.1 hc.2.1 hc.2.2 q
theorem unI{f:Value->Sem Value}{g:Int->Int}
  (rule:∀(i:Int)(t:Tok)(s:Shared)(Q:Value->Shared->Prop)(E:Value->Shared->Prop),Q (.int (g i) s.toks) {s with toks:=s.toks+1}->wpAny (model X.prog X.w) X.A (f (.int i t)) Q E s):
  UnR X f (rU fun i=> .int (g i)):=by
 intro pins s σ H x v Q I rx h
 obtain⟨i,rfl,q⟩:=h
 obtain⟨t,rfl⟩:=rx
 exact rule i t s _ _ ⟨.int (g i),H,I.tok _,⟨_,rfl⟩,q⟩
theorem a4Q:UnR X (unaryOp .USub) (rU fun i=> .int (-i)):=unI fun _ _ _ _ _ q=>neg_int q
end
noncomputable def b5I:V->V->Bool
 | .non,.non=>true | .non,.int _=>true | .int _,.non=>true | .non,.bl _=>true | .bl _,.non=>true | .non,.str _=>true | .str _,.non=>true
 | .int _,.int _=>true | .bl _,.bl _=>true | .str _,.str _=>true | .byt _,.byt _=>true
 | .int _,.str _=>true | .str _,.int _=>true | .bl _,.str _=>true | .str _,.bl _=>true
 | _,_=>false
noncomputable def rEq:R2:=fun x y H Q=>b5I x y=true/\Q (.bl (decide (x=y))) H
noncomputable def rNe:R2:=fun x y H Q=>b5I x y=true/\Q (.bl (!decide (x=y))) H
theorem a9l{i j:Int}:decide (V.int i=V.int j)=(i==j):=by
 rw[Bool.eq_iff_iff]
 simp
theorem b0Z{i j:Bool}:decide (V.bl i=V.bl j)=(i==j):=by
 rw[Bool.eq_iff_iff]
 simp
theorem a9s{i j:Str}:decide (V.str i=V.str j)=(i==j):=by
 rw[Bool.eq_iff_iff]
 simp
theorem a9p{i j:Array UInt8}:decide (V.byt i=V.byt j)=(i.toList==j.toList):=by
 rw[Bool.eq_iff_iff]
 cases i
 cases j
 simp
section
variable{X:Cx}{a b c:Expr}{ta tb tc:TE}{pos:Pos}
theorem Z6{pins:List (Addr×Obj)}{σ:St}{H:Hp}{s:Shared}{Q:VK}{k k':Bool}(I:Inv X pins σ H s)(q:Q (.bl k) H)(e:k=k'):EP X pins σ Q (.bool k') s:=by
 subst e
 exact⟨.bl k,H,I,rfl,q⟩
theorem Z8:OpR X (compareOp .Eq) rEq:=by
 intro pins s σ H x y v u Q I rx ry h
 obtain⟨hs,q⟩:=h
 cases x with
 | non=>
  cases rx
  cases y with
  | non=>cases ry;exact PySem.EqNone.eq_none_none (Z6 I q (by simp))
  | bl j=>cases ry;exact PySem.EqNone.eq_none_bool (Z6 I q (by simp))
  | int j=>obtain⟨t',rfl⟩:=ry;exact PySem.EqNone.eq_none_int (Z6 I q (by simp))
  | str j=>obtain⟨t',rfl⟩:=ry;exact PySem.EqNone.eq_none_str (Z6 I q (by simp))
  | _=>exact absurd (show false=true from hs) Bool.false_ne_true
 | bl i=>
  cases rx
  cases y with
  | non=>cases ry;exact PySem.EqNone.eq_bool_none (Z6 I q (by simp))
  | bl j=>cases ry;exact eq_bool (Z6 I q b0Z)
  | str j=>obtain⟨t',rfl⟩:=ry;exact PySem.EqMixed.eq_bool_str (Z6 I q (by simp))
  | _=>exact absurd (show false=true from hs) Bool.false_ne_true
 | int i=>
  obtain⟨t,rfl⟩:=rx
  cases y with
  | non=>cases ry;exact PySem.EqNone.eq_int_none (Z6 I q (by simp))
  | int j=>obtain⟨t',rfl⟩:=ry;exact eq_int (Z6 I q a9l)
  | str j=>obtain⟨t',rfl⟩:=ry;exact PySem.EqMixed.eq_int_str (Z6 I q (by simp))
  | _=>exact absurd (show false=true from hs) Bool.false_ne_true
 | str i=>
  obtain⟨t,rfl⟩:=rx
  cases y with
  | non=>cases ry;exact PySem.EqNone.eq_str_none (Z6 I q (by simp))
  | bl j=>cases ry;exact PySem.EqMixed.eq_str_bool (Z6 I q (by simp))
  | int j=>obtain⟨t',rfl⟩:=ry;exact PySem.EqMixed.eq_str_int (Z6 I q (by simp))
  | str j=>obtain⟨t',rfl⟩:=ry;exact eq_str (Z6 I q a9s)
  | _=>exact absurd (show false=true from hs) Bool.false_ne_true
 | byt i=>
  obtain⟨t,rfl⟩:=rx
  cases y with
  | byt j=>obtain⟨t',rfl⟩:=ry;exact PySem.W.eq_bytes (Z6 I q a9p)
  | _=>exact absurd (show false=true from hs) Bool.false_ne_true
 | _=>cases y<;>exact absurd (show false=true from hs) Bool.false_ne_true
theorem a5v:OpR X (compareOp .NotEq) rNe:=by
 intro pins s σ H x y v u Q I rx ry h
 obtain⟨hs,q⟩:=h
 cases x with
 | non=>
  cases rx
  cases y with
  | non=>cases ry;exact PySem.EqNone.ne_none_none (Z6 I q (by simp))
  | bl j=>cases ry;exact PySem.EqNone.ne_none_bool (Z6 I q (by simp))
  | int j=>obtain⟨t',rfl⟩:=ry;exact PySem.EqNone.ne_none_int (Z6 I q (by simp))
  | str j=>obtain⟨t',rfl⟩:=ry;exact PySem.EqNone.ne_none_str (Z6 I q (by simp))
  | _=>exact absurd (show false=true from hs) Bool.false_ne_true
 | bl i=>
  cases rx
  cases y with
  | non=>cases ry;exact PySem.EqNone.ne_bool_none (Z6 I q (by simp))
  | bl j=>cases ry;exact ne_bool (Z6 I q (congrArg not b0Z))
  | str j=>obtain⟨t',rfl⟩:=ry;exact PySem.EqMixed.ne_bool_str (Z6 I q (by simp))
  | _=>exact absurd (show false=true from hs) Bool.false_ne_true
 | int i=>
  obtain⟨t,rfl⟩:=rx
  cases y with
  | non=>cases ry;exact PySem.EqNone.ne_int_none (Z6 I q (by simp))
  | int j=>obtain⟨t',rfl⟩:=ry;exact ne_int (Z6 I q (congrArg not a9l))
  | str j=>obtain⟨t',rfl⟩:=ry;exact PySem.EqMixed.ne_int_str (Z6 I q (by simp))
  | _=>exact absurd (show false=true from hs) Bool.false_ne_true
 | str i=>
  obtain⟨t,rfl⟩:=rx
  cases y with
  | non=>cases ry;exact PySem.EqNone.ne_str_none (Z6 I q (by simp))
  | bl j=>cases ry;exact PySem.EqMixed.ne_str_bool (Z6 I q (by simp))
  | int j=>obtain⟨t',rfl⟩:=ry;exact PySem.EqMixed.ne_str_int (Z6 I q (by simp))
  | str j=>obtain⟨t',rfl⟩:=ry;exact ne_str (Z6 I q (congrArg not a9s))
  | _=>exact absurd (show false=true from hs) Bool.false_ne_true
 | byt i=>
  obtain⟨t,rfl⟩:=rx
  cases y with
  | byt j=>obtain⟨t',rfl⟩:=ry;exact PySem.W.ne_bytes (Z6 I q (congrArg not a9p))
  | _=>exact absurd (show false=true from hs) Bool.false_ne_true
 | _=>cases y<;>exact absurd (show false=true from hs) Bool.false_ne_true
theorem a5N:OpR X (compareOp .Lt) (rI0 fun i j=> .bl (decide (i < j))):=b5N fun _ _ _ _ _ _ _ q=>lt_int q
theorem a4t:OpR X (compareOp .Gt) (rI0 fun i j=> .bl (decide (j < i))):=b5N fun _ _ _ _ _ _ _ q=>gt_int q
theorem R7(b:Expr){op:CmpOp}(h:op≠ .In:=by decide)(h2:op≠ .NotIn:=by decide):behindInMarks op b=false:=by
 have e1:(op==CmpOp.In)=false:=by cases op<;>first | rfl | exact absurd rfl h
 have e2:(op==CmpOp.NotIn)=false:=by cases op<;>first | rfl | exact absurd rfl h2
 cases b<;>simp[behindInMarks,e1,e2]
theorem a6I{op:CmpOp}{r:R2}(ho:OpR X (compareOp op) r)(ha:PE X a ta)(hb:PE X b tb)(hm:behindInMarks op b=false):PE X (.Compare a [op] [b] pos) (tOp r ta tb):=by
 intro pins s σ H Q I h
 exact wpAny_Compare1 (b4t ha hb I h fun v u s2 x y H2 I2 rx ry q=>ho pins s2 σ H2 x y v u Q I2 rx ry q) hm
noncomputable def b5F (t:TE):TT:=fun σ H Q=>t σ H fun x H'=>∃k,x= .bl k/\Q k H'
theorem J7{op:CmpOp}{r:R2}(ho:OpR X (compareOp op) r)(ha:PE X a ta)(hb:PE X b tb)(hm:behindInMarks op b=false):PT X (.Compare a [op] [b] pos) (b5F (tOp r ta tb)):=by
 intro pins s σ H Q I h
 refine wpAny_isTrue_Compare1 (thn (ha pins s σ H _ I h) fun v s1⟨x,H1,I1,r1,q1⟩=>thn (hb pins s1 σ H1 _ I1 q1) fun u s2⟨y,H2,I2,r2,q2⟩=>
  thn (ho pins s2 σ H2 x y v u _ I2 r1 r2 q2) fun c s3⟨z,H3,I3,r3,k,e,q3⟩=>?_) hm
 subst e
 cases r3
 exact wpAny_truthy_bool ⟨H3,I3,q3⟩
noncomputable def b5K (K:PySem.W.Frag) (x:V) (H:Hp) (k:Bool):Prop:=
 match x with
 | .non=>k=false
 | .bl b=>k=b
 | .int i=>k=(i != 0)
 | .str y=>y.length<=sizeLine/\k=((y.length:Int) != 0)
 | .byt y=>y.size<=sizeLine/\k=((y.size:Int) != 0)
 | .ref p=>(∃xs,SqL K H p xs/\k= !xs.isEmpty)\/(∃xs,SqT K H p xs/\k= !xs.isEmpty)\/∃kvs,H p=some (.dK kvs)/\k= !kvs.isEmpty
 | _=>False
theorem a8P{κ:Type}{kvs:List (κ×V)}{vs:List (κ×Value)}(r:KV kvs vs):(!vs.isEmpty)= !kvs.isEmpty:=by
 cases r<;>rfl
theorem a5j{xs:List V}{its:List Value}(r:W5 xs its):(!its.toArray.isEmpty)= !xs.isEmpty:=by
 cases r<;>simp
theorem a4g:(sizeLine:Nat) < 2 ^ 63:=by rw[sizeLine_eq];decide
theorem b4e:b6d X (fun x H Q=>∃k,b5K X.K x H k/\Q k H):=by
 intro pins s σ H x v Q I rx h
 obtain⟨k,e,q⟩:=h
 have hl:=a4g
 have hs:sizeLine=16777216:=sizeLine_eq
 cases x with
 | non=>
  cases rx
  have e':k=false:=e
  subst e'
  exact truthy_none ⟨H,I,q⟩
 | bl b=>
  cases rx
  have e':k=b:=e
  subst e'
  exact wpAny_truthy_bool ⟨H,I,q⟩
 | int i=>
  obtain⟨t,rfl⟩:=rx
  have e':k=(i != 0):=e
  subst e'
  exact PySem.P.truthy_int ⟨H,I,q⟩
 | str y=>
  obtain⟨t,rfl⟩:=rx
  obtain⟨hy,e'⟩:y.length<=sizeLine/\k=((y.length:Int) != 0):=e
  subst e'
  exact PySem.P.truthy_str (by omega) ⟨H,I.tok _,q⟩
 | byt y=>
  obtain⟨t,rfl⟩:=rx
  obtain⟨hy,e'⟩:y.size<=sizeLine/\k=((y.size:Int) != 0):=e
  subst e'
  exact PySem.W.truthy_bytes (by omega) ⟨H,I.tok _,q⟩
 | ref p=>
  cases rx
  have e':(∃xs,SqL X.K H p xs/\k= !xs.isEmpty)\/(∃xs,SqT X.K H p xs/\k= !xs.isEmpty)\/∃kvs,H p=some (.dK kvs)/\k= !kvs.isEmpty:=e
  rcases e' with⟨xs,hx,e'⟩ | ⟨xs,hx,e'⟩ | ⟨kvs,hx,e'⟩
  ·subst e'
   obtain⟨its,r,pl,hz⟩:=I.list hx
   have hlen:=r.length
   exact wpAny_truthy_list pl.isList (by simp only[List.size_toArray];omega) ⟨H,I.tok _,by rw[a5j r];exact q⟩
  ·subst e'
   obtain⟨its,r,pl,hz⟩:=I.tuple hx
   have hlen:=r.length
   exact truthy_tuple pl (by simp only[List.size_toArray];omega) ⟨H,I.tok _,by rw[a5j r];exact q⟩
  ·subst e'
   obtain⟨hz,hS,vs,r,m⟩:kvs.length<=sizeLine/\(p==sysModules)=false/\∃vs,KV kvs vs/\s.heap.DictOf (Z3 X.prog X.w) p vs:=I.hok p _ hx
   have hlen:kvs.length=vs.length:=Paired.length r
   exact wpAny_truthy_dict hS m (by omega) ⟨H,I.tok _,by rw[a8P r];exact q⟩
 | _=>exact(show False from e).elim
theorem a7K(ha:PE X a ta)(he:∀whole,isTrue a X.env whole=(do let v<-whole;standAt a.pos;holding [v] (truthy v))):
  PT X a (fun σ H Q=>ta σ H fun x H'=>∃k,b5K X.K x H' k/\Q k H'):=by
 intro pins s σ H Q I h
 exact isTrue_plain (thn (ha pins s σ H _ I h) fun v s1⟨x,H1,I1,r1,q1⟩=>b4e pins s1 σ H1 x v Q I1 r1 q1) (he _)
theorem B2:OpR X (binaryOp .Add) (fun x y H Q=>∃i j,x= .str i/\y= .str j/\i.length+j.length<=sizeLine/\Q (.str (i++j)) H):=by
 intro pins s σ H x y v u Q I rx ry h
 obtain⟨i,j,rfl,rfl,hz,q⟩:=h
 obtain⟨t,rfl⟩:=rx
 obtain⟨t',rfl⟩:=ry
 exact add_str (fun t' tk=>⟨.str (i++j),H,I.tok _,⟨_,rfl⟩,q⟩) hz
theorem a3z{x:V}{us:List Value}(r:W5 [x] us):∃u,us=[u]/\W7 x u:=by
 cases r with
 | cons r1 r2=>cases r2;exact⟨_,rfl,r1⟩
theorem b1X{x y:V}{us:List Value}(r:W5 [x,y] us):∃u w',us=[u,w']/\W7 x u/\W7 y w':=by
 cases r with
 | cons r1 r2=>
  cases r2 with
  | cons r3 r4=>cases r4;exact⟨_,_,rfl,r1,r3⟩
theorem a5S(hc:X.calm=true):a1o X (.builtin "max") (fun xs H Q=>∃i j,xs=[.int i,.int j]/\Q (.int (if j > i then j else i)) H):=by
 intro pins s σ H xs us Q I r h
 obtain⟨i,j,rfl,q⟩:=h
 obtain⟨u,w',rfl,⟨t,rfl⟩,⟨t',rfl⟩⟩:=b1X r
 refine max_two_ints (I.ok.hd hc) fun h' tk k=>⟨_,H,I.kept k,?_,q⟩
 by_cases hj:j > i
 ·rw[if_pos hj,if_pos hj];exact⟨_,rfl⟩
 ·rw[if_neg hj,if_neg hj];exact⟨_,rfl⟩
theorem a4n(hc:X.calm=true):a1o X (.builtin "min") (fun xs H Q=>∃i j,xs=[.int i,.int j]/\Q (.int (if j < i then j else i)) H):=by
 intro pins s σ H xs us Q I r h
 obtain⟨i,j,rfl,q⟩:=h
 obtain⟨u,w',rfl,⟨t,rfl⟩,⟨t',rfl⟩⟩:=b1X r
 refine min_two_ints (I.ok.hd hc) fun h' tk k=>⟨_,H,I.kept k,?_,q⟩
 by_cases hj:j < i
 ·rw[if_pos hj,if_pos hj];exact⟨_,rfl⟩
 ·rw[if_neg hj,if_neg hj];exact⟨_,rfl⟩
theorem b0g:a1o X (.type "int") (fun xs H Q=>(∃i,xs=[.int i]/\Q (.int i) H)\/∃k,xs=[.bl k]/\Q (.int (if k then 1 else 0)) H):=by
 intro pins s σ H xs us Q I r h
 rcases h with⟨i,rfl,q⟩ | ⟨k,rfl,q⟩
 ·obtain⟨u,rfl,t,rfl⟩:=a3z r
  exact call_int_int ⟨.int i,H,I,⟨_,rfl⟩,q⟩
 ·obtain⟨u,rfl,r1⟩:=a3z r
  cases r1
  exact call_int_bool ⟨.int (if k then 1 else 0),H,I.tok _,⟨_,rfl⟩,q⟩
theorem a0P:a1o X (.type "str") (fun xs H Q=>∃i,xs=[.int i]/\i.natAbs.log2 < 1920/\Q (.str (toString i)) H):=by
 intro pins s σ H xs us Q I r h
 obtain⟨i,rfl,hz,q⟩:=h
 obtain⟨u,rfl,t,rfl⟩:=a3z r
 exact PySem.P.str_of_int hz ⟨.str _,H,I.tok _,⟨_,rfl⟩,q⟩
end
end L2
namespace L2
open PySem PySem.Spec PyProof.Rows
structure b4j(h:Heap)(x dx C:Addr)(mA:Str->Option Value):Prop where
 obj:h.get? x=some (PySem.W.instObj C dx)
 ns:h.Ns1 dx mA
 ne:dx≠x
theorem b0v{h:Heap}{dx:Addr}{mA:Str->Option Value}(n:h.Ns1 dx mA):∃od,h.get? dx=some od/\∀name,PySem.W.lookIn name od=some (mA name):=by
 obtain⟨o,es,ep,ho,hd,hk,_,hm⟩:=n
 refine⟨o,ho,fun name=>?_⟩
 have e:=hm name
 unfold nsFind findBy at e
 rw[<-Array.find?_toList]at e
 unfold PySem.W.lookIn
 rw[hd]
 dsimp only
 split
 ·rename_i y q
  rw[q]at e
  exact congrArg some e
 ·rename_i q
  rw[q]at e
  have a:es.toList.any (·.refKey)=false:=by
   rw[List.any_eq_false]
   intro y hy
   obtain⟨z,t,hkey⟩:=hk y (Array.mem_toList_iff.mp hy)
   simp[DictEntry.refKey,hkey]
  have a':¬es.toList.any (·.refKey)=true:=by rw[a];exact Bool.false_ne_true
  rw[if_neg a']
  exact congrArg some e
theorem b4j.look{h:Heap}{x dx C:Addr}{mA:Str->Option Value}(I:b4j h x dx C mA):∃od,PySem.W.InstAt h x (PySem.W.instObj C dx) C (some od)/\∀name,PySem.W.lookIn name od=some (mA name):=
 let⟨od,ho,hl⟩:=b0v I.ns
 ⟨od,⟨I.obj,rfl,rfl,ho⟩,hl⟩
section
variable{prog:Program}{w:World}{A:Around}{E:Value->Shared->Prop}{s:Shared}{K:PySem.W.Frag}{x dx C f:Addr}{mA:Str->Option Value}{name:Str}{v:Value}
end
theorem a5m.some_of{v:V}{o:Option Value}(r:a5m (some v) o):∃u,o=some u/\W7 v u:=by
 cases o with
 | none=>exact(show False from r).elim
 | some u=>exact⟨u,rfl,r⟩
section
variable{P:Program}{w:World}{H H':Hp}{h h':Heap}{a C dx:Addr}{fs fs':List (Str×V)}
theorem b3b(hok:HOk P w H h)(e:H a=some (.ins C dx fs)):∃mA,b4j h a dx C mA/\(∀f,a5m (fs.lookup f) (mA f))/\PySem.Within mA (fs.map (·.1))/\fs.length<=1000/\H dx=some (.own a):=by
 obtain⟨d,z,ne,ob,mA,n,r,q⟩:=(show Z7 P w H h a (.ins C dx fs)from hok a _ e)
 exact⟨mA,⟨ob,n,ne⟩,r,q,z,d⟩
end
structure Cls(K:PySem.W.Frag)(C:Addr):Prop where
 pg:PySem.W.plainGet K C Str.empty=true
 hd:PySem.W.hasDictIn K C=true
 po:PySem.W.plainOver K C=true
 sa:PySem.W.findIn K (.ref C) "__setattr__"=some (some (.builtin "object.__setattr__"))
theorem Cls.get{K:PySem.W.Frag}{C:Addr}(c:Cls K C)(f:Str):PySem.W.plainGet K C f=true:=c.pg
section
variable{X:Cx}{pins:List (Addr×Obj)}{σ:St}{H:Hp}{s:Shared}{a C dx:Addr}{fs:List (Str×V)}{f:Str}{v:V}{A:Around}{E:Value->Shared->Prop}
end
section
variable{X:Cx}{o e value:Expr}{f:Str}{pos pos' tpos:Pos}{ta tv:TE}
end
section
variable{X:Cx}{pins:List (Addr×Obj)}{σ:St}{H:Hp}{s:Shared}{A:Around}{E:Value->Shared->Prop}{Q:Value->Shared->Prop}{c:Value}{b:Bool}
inductive a3Z (K:PySem.W.Frag) (H:Hp):V->Value->Prop where
 | non:a3Z K H .non (.type "NoneType")
 | bl (x:Bool):a3Z K H (.bl x) (.type "bool")
 | int (i:Int):a3Z K H (.int i) (.type "int")
 | str (x:Str):a3Z K H (.str x) (.type "str")
 | flt (x:UInt64):a3Z K H (.flt x) (.type "float")
 | lst {a:Addr} {xs:List V} (e:H a=some (.lst xs)):a3Z K H (.ref a) (.type "list")
 | frz {a:Addr} {o:Obj} {xs:List V} (e:H a=some (.frz o (.lst xs))):a3Z K H (.ref a) (.type "list")
 | tup {a:Addr} {xs:List V} (e:H a=some (.tup xs)):a3Z K H (.ref a) (.type "tuple")
 | dK {a:Addr} {kvs:List (Key×V)} (e:H a=some (.dK kvs)):a3Z K H (.ref a) (.type "dict")
 | dT {a:Addr} {kvs:List (List Key×V)} (e:H a=some (.dT kvs)):a3Z K H (.ref a) (.type "dict")
 | ins {a C dx:Addr} {fs:List (Str×V)} (e:H a=some (.ins C dx fs)) (cl:Cls K C) (ha:PySem.W.findIn K (.ref C) "__class__"=some (some (.builtin "object.__class__")))
   (hn:PySem.W.specialIn K (.builtin "object.__class__") "__get__"=some (some (.builtin "getset_descriptor.__get__"))) (htk:PySem.W.takesIn K (.builtin "object.__class__")=some true)
   (hm:PySem.W.mroIn K C (.type "object")=some true):a3Z K H (.ref a) (.ref C)
theorem a9W{x:V}{u t:Value}(I:Inv X pins σ H s)(rx:W7 x u)(ty:a3Z X.K H x t)(e:PySem.W.kitOne X.K t c=some b)(h:∀tk,Q (.bool b) {s with toks:=tk}):
  wpAny (model X.prog X.w) A (call (.builtin "isinstance") [u,c]) Q E s:=by
 cases ty with
 | non=>cases(show u=Value.none from rx);exact PySem.W.kia_one PySem.W.kitx_none I.kIn True.intro e (fun z=>nomatch z) h
 | bl y=>cases(show u=Value.bool y from rx);exact PySem.W.kia_one PySem.W.kitx_bool I.kIn True.intro e (fun z=>nomatch z) h
 | int i=>obtain⟨t,q⟩:=(show∃t,u=Value.int i t from rx);cases q;exact PySem.W.kia_one PySem.W.kitx_int I.kIn True.intro e (fun z=>nomatch z) h
 | str y=>obtain⟨t,q⟩:=(show∃t,u=Value.str y t from rx);cases q;exact PySem.W.kia_one PySem.W.kitx_str I.kIn True.intro e (fun z=>nomatch z) h
 | flt y=>obtain⟨t,q⟩:=(show∃t,u=Value.float y t from rx);cases q;exact PySem.W.kia_one PySem.W.kitx_float I.kIn True.intro e (fun z=>nomatch z) h
 | @lst a xs ea=>
  cases(show u=Value.ref a from rx)
  obtain⟨_,_,n,_,h1⟩:=(show Z7 X.prog X.w H s.heap a (.lst xs)from I.hok a _ ea)
  exact PySem.W.kia_one PySem.W.kitx_list I.kIn ⟨_,h1,rfl⟩ e (fun z=>nomatch z) h
 | @frz a ob xs ea=>
  cases(show u=Value.ref a from rx)
  obtain⟨_,_,_,n,_,h1⟩:=(show Z7 X.prog X.w H s.heap a (.frz ob (.lst xs))from I.hok a _ ea)
  exact PySem.W.kia_one PySem.W.kitx_list I.kIn ⟨_,h1,rfl⟩ e (fun z=>nomatch z) h
 | @tup a xs ea=>
  cases(show u=Value.ref a from rx)
  obtain⟨_,_,_,p⟩:=(show Z7 X.prog X.w H s.heap a (.tup xs)from I.hok a _ ea)
  obtain⟨o,h1,h2,_⟩:=p
  exact PySem.W.kia_one PySem.W.kitx_tuple I.kIn ⟨o,h1,h2⟩ e (fun z=>nomatch z) h
 | @dK a kvs ea=>
  cases(show u=Value.ref a from rx)
  obtain⟨_,_,vs,_,p⟩:=(show Z7 X.prog X.w H s.heap a (.dK kvs)from I.hok a _ ea)
  obtain⟨o,es,ep,h1,h2,_⟩:=p
  exact PySem.W.kia_one PySem.W.kitx_dict I.kIn ⟨o,h1,h2.1⟩ e (fun z=>nomatch z) h
 | @dT a kvs ea=>
  cases(show u=Value.ref a from rx)
  obtain⟨_,_,xs,_,o,es,ep,h1,h2,_⟩:=(show Z7 X.prog X.w H s.heap a (.dT kvs)from I.hok a _ ea)
  exact PySem.W.kia_one PySem.W.kitx_dict I.kIn ⟨o,h1,h2.1⟩ e (fun z=>nomatch z) h
 | @ins a C dx fs ea cl ha hn htk hm=>
  cases(show u=Value.ref a from rx)
  obtain⟨mA,O,_⟩:=b3b I.hok ea
  obtain⟨od,J,_⟩:=O.look
  exact PySem.W.kia_one (PySem.W.kitx_own (cl.get _) cl.hd ha hn htk hm) I.kIn J e (fun z=>nomatch z) h
end
end L2
namespace L2
open PySem PySem.Spec PyProof.Rows
structure a1L(k:Nat)(A:Around):Prop where
 hd:A.handled=none
 dp:A.depth+3*k+5 < recursionLimit
 un:A.units+16*k+200 < cLine
theorem a1L.mono{j k:Nat}{A:Around}(r:a1L k A)(h:j<=k):a1L j A:=⟨r.hd,by have:=r.dp;omega,by have:=r.un;omega⟩
theorem a1L.deeper{k:Nat}{A:Around}(r:a1L (k+1) A)(env:Env):a1L k (A.deeper env):=
 ⟨r.hd,by have:=r.dp;show A.depth+1+3*k+5 < _;omega,by have:=r.un;show A.units+3+16*k+200 < _;omega⟩
theorem a1L.depth{k:Nat}{A:Around}(r:a1L k A):A.depth < recursionLimit:=by have:=r.dp;omega
theorem a1L.units{k:Nat}{A:Around}(r:a1L k A):A.units+64 < cLine:=by have:=r.un;omega
noncomputable def b6k:TA:=fun _ H Q=>Q [] H
noncomputable def b5k (ta:TE) (tr:TA):TA:=fun σ H Q=>ta σ H fun x H1=>tr σ H1 fun xs H2=>Q (x::xs) H2
section
variable{X:Cx}{e:Expr}{es:List Expr}{te:TE}{t:TA}{pos:Pos}
theorem G4:PA X [] b6k:=fun _ _ _ _ H Q I h=>Calls.spliced_nil ⟨[],H,I,.nil,h⟩
theorem G0(ha:PE X e te)(hr:PA X es t)(hs:starEach (e::es) X.env=(false,eval e X.env)::starEach es X.env:=by rfl):PA X (e::es) (b5k te t):=by
 intro pos pins s σ H Q I h
 rw[hs]
 show wpAny _ _ (spliced ((false,eval e X.env)::backTo pos (starEach es X.env))) _ _ s
 refine Calls.spliced_cons (thn (ha pins s σ H _ I h) fun u s1⟨x,H1,I1,r1,q1⟩=>?_)
 exact thn (hr pos pins s1 σ H1 _ I1 q1) fun us s2⟨xs,H2,I2,r2,q2⟩=>⟨x::xs,H2,I2,.cons r1 r2,q2⟩
noncomputable def b6s (t:TA):TE:=fun σ H Q=>t σ H fun xs H1=>xs.length<=sizeLine/\∀p,H1 p=none->Q (.ref p) (upd H1 p (.tup xs))
noncomputable def b6q (t:TA):TE:=fun σ H Q=>t σ H fun xs H1=>xs.length<=sizeLine/\∀p,H1 p=none->Q (.ref p) (upd H1 p (.lst xs))
theorem R9{x1}(h:PA X es t):PE X (.Tuple es x1 pos) (b6s t):=by
 intro pins s σ H Q I hq
 refine wpAny_Tuple_spliced (thn (h pos pins s σ H _ I hq) fun us s1⟨xs,H1,I1,r,z,q⟩=>⟨by rw[<-r.length];exact z,?_⟩)
 have hf:H1 s1.heap.objs.size=none:=I1.hok.fresh (Nat.le_refl _)
 refine⟨.ref s1.heap.objs.size,upd H1 s1.heap.objs.size (.tup xs),I1.laid (t':=s1.toks) (fun b u e=>Heap.get?_push_of_some _ e) (Nat.le_refl _) ?_,rfl,q _ hf⟩
 exact⟨z,us,r,⟨_,Heap.get?_push_size _ rfl,rfl,_,rfl⟩⟩
theorem Y5(h:PA X es t):PE X (.List es pos) (b6q t):=by
 intro pins s σ H Q I hq
 refine wpAny_List_spliced (thn (h pos pins s σ H _ I hq) fun us s1⟨xs,H1,I1,r,z,q⟩=>⟨by rw[<-r.length];exact z,?_⟩)
 have hf:H1 s1.heap.objs.size=none:=I1.hok.fresh (Nat.le_refl _)
 refine⟨.ref s1.heap.objs.size,upd H1 s1.heap.objs.size (.lst xs),I1.laid (t':=s1.toks) (fun b u e=>Heap.get?_push_of_some _ e) (Nat.le_refl _) ?_,rfl,q _ hf⟩
 exact⟨z,us,0,r,Heap.get?_push_size _ rfl⟩
end
noncomputable abbrev Sp:=List V->Hp->VK->XK->Prop
noncomputable abbrev CXT:=List Env->Hp->Shared->XK->Value->Shared->Prop
structure b2U(P:Program)(w:World)(K:PySem.W.Frag)(mg:Str->Option Value)(base:Heap)(A:Around)(outer:List Env)(s:Shared)(H:Hp):Prop where
 frames:A.frames=some outer
 mod:Mod K mg base
 bs:∀b o,base.get? b=some o->s.heap.get? b=some o/\H b=none
 bsz:base.objs.size<=s.heap.objs.size
 funs:s.heap.FunFrames base outer
 frf:∀b∈frs outer,H b=none
 hok:HOk P w H s.heap
 bare:AllBare s.gens
noncomputable def CE (outer:List Env) (P:Program) (w:World) (H:Hp) (s:Shared) (Q:VK) (u:Value) (s':Shared):Prop:=
 ∃v H',s'.os=s.os/\AllBare s'.gens/\Un (frs outer) [] H H' s.heap s'.heap/\HOk P w H' s'.heap/\W7 v u/\Q v H'
noncomputable def CR (CX:CXT) (outer:List Env) (P:Program) (w:World) (H:Hp) (s:Shared) (Q:VK) (E:XK) (r:Result) (s':Shared):Prop:=
 match r with
 | .ok (.ret u)=>CE outer P w H s Q u s'
 | .ok _=>False
 | .error e=>CX outer H s E e s'
structure a5I(P:Program)(w:World)(K:PySem.W.Frag)(mg:Str->Option Value)(base:Heap)(CX:CXT)(k:Nat)(f:Addr)(fd:FuncData)(ps:List Str)(sp:Sp):Prop where
 len:∀vs H Q E,sp vs H Q E->vs.length=ps.length
 run:∀(A:Around)(outer:List Env)(s:Shared)(H:Hp)(args:Args)(us:List Value)(vs:List V)(Q:VK)(E:XK),a1L k A->b2U P w K mg base A outer s H->BindsTo s fd args (ps.zip us)->W5 vs us->sp vs H Q E->
  codeAny (model P w) A (.call (.ref f) args) (CR CX outer P w H s Q E) s
section
variable{X:Cx}{pins:List (Addr×Obj)}{σ:St}{H:Hp}{s s':Shared}
theorem Inv.env0(I:Inv X pins σ H s):b2U X.prog X.w X.K X.mg X.base X.A X.stack s H:=
 ⟨I.ok.frames,I.ok.mod,I.bs,Nat.le_trans I.ok.bsz I.sz,I.stack,I.stkFree,I.hok,I.bare⟩
theorem Inv.after{Q:VK}{u:Value}(I:Inv X pins σ H s)(h:CE X.stack X.prog X.w H s Q u s'):EP X pins σ Q u s':=by
 obtain⟨v,H',os,bare,un,hok,r,q⟩:=h
 obtain⟨hh,g,d,t,os'⟩:=s'
 obtain rfl:os'=s.os:=os
 exact⟨v,H',I.call (h':=hh) (g':=g) (d':=d) (t':=t) (ch:=[]) un hok bare (fun b z=>absurd z (by simp)),r,q⟩
end
noncomputable def b3Y (sp:Sp) (dvs:List V) (E:XK) (t:TA):TE:=fun σ H Q=>t σ H fun vs H1=>sp (vs++dvs) H1 Q E
noncomputable def a6n (K:PySem.W.Frag) (fd:FuncData) (ps:List Str) (ds:List Value):Prop:=
 ∀(s:Shared)(us:List Value),K.In s.heap->(us++ds).length=ps.length->BindsTo s fd ⟨us,[]⟩ (ps.zip (us++ds))
theorem a6n.all{K:PySem.W.Frag}{fd:FuncData}{ps:List Str}(h:∀us:List Value,us.length=ps.length->bindArgs fd ⟨us,[]⟩=pure (ps.zip us)):a6n K fd ps []:=fun s us _ hl=>by
 rw[List.append_nil]at hl⊢
 exact .of_eq (h us hl)
noncomputable def a8R (CX:CXT) (X:Cx) (E:XK):Prop:=∀(pins:List (Addr×Obj))(σ:St)(H:Hp)(s:Shared)(e:Value)(s':Shared),Inv X pins σ H s->CX X.stack H s E e s'->X.xe e s'
section
variable{X:Cx}{CX:CXT}{k:Nat}{f C:Addr}{fd:FuncData}{ps:List Str}{sp:Sp}{dvs:List V}{ds:List Value}{E:XK}{x m:Str}{p pos apos:Pos}{e o:Expr}{es:List Expr}{ta:TE}{t:TA}
theorem b4C{pins:List (Addr×Obj)}{σ:St}{H:Hp}{s:Shared}{Q:VK}{us:List Value}{vs:List V}(F:a5I X.prog X.w X.K X.mg X.base CX k f fd ps sp)(hr:a1L k X.A)(hb:a6n X.K fd ps ds)(hd:W5 dvs ds)(hx:a8R CX X E)
  (I:Inv X pins σ H s)(r:W5 vs us)(h:sp (vs++dvs) H Q E):wpAny (model X.prog X.w) X.A (call (.ref f) us) (EP X pins σ Q) X.xe s:=by
 have r2:W5 (vs++dvs) (us++ds):=r.append hd
 have hl:(us++ds).length=ps.length:=by rw[<-r2.length];exact F.len _ _ _ _ h
 refine wpAny_call (codeAny_mono (F.run X.A X.stack s H ⟨us,[]⟩ (us++ds) (vs++dvs) Q E hr I.env0 (hb s us I.kIn hl) r2 h) fun r s' hq=>?_)
 cases r with
 | error e=>exact hx pins σ H s e s' I hq
 | ok fl=>
  cases fl with
  | ret u=>exact I.after hq
  | next=>exact False.elim hq
  | brk=>exact False.elim hq
  | cont=>exact False.elim hq
theorem b2X(F:a5I X.prog X.w X.K X.mg X.base CX k f fd ps sp)(hr:a1L k X.A)(hg:Gl X x)(hm:X.mg x=some (.ref f))(hk:PySem.W.keepIn X.K (.ref f)=true)(hb:a6n X.K fd ps ds)(hd:W5 dvs ds)(hx:a8R CX X E)
  (ha:PA X (e::es) t)(hdb:(x==("__debug__":Str))=false:=by decide)(he:starEach (e::es) X.env=(false,eval e X.env)::starEach es X.env:=by rfl)(hpl:(backTo pos (starEach es X.env)).any (·.1)=false:=by rfl):
  PE X (.Call (.Name x p) (e::es) [] pos) (b3Y sp dvs E t):=by
 intro pins s σ H Q I h
 refine wpAny_Call_Name_kw (b3M I hg hm ?_ hdb)
 refine PySem.W.callWith_K (h₀:=X.base) I.ok.mod.kin hk (thn (ha pos pins s σ H _ I h) fun us s1⟨vs,H1,I1,r,q⟩=>⟨I1.kIn,?_⟩) he hpl
 exact b4C F hr hb hd hx I1 r q
end
section
variable{X:Cx}{CX:CXT}{k:Nat}{f C:Addr}{fd:FuncData}{ps ks:List Str}{sp:Sp}{E:XK}{x m:Str}{p pos apos kpos:Pos}{e o:Expr}{es:List Expr}{kws:List Keyword}{te ta:TE}{t tk:TA}{nm:Option Str}
variable{g:List Value->List Value->List Value}{gV:List V->List V->List V}
end
structure U1(N P:List Str)(sc:Scope):Prop where
 kind:sc.kind= .function
 co:sc.isCoroutine=false
 gen:sc.isGenerator=false
 nd:N.Nodup
 pre:N.take P.length=P
 par:∀x∈P,sc.names.lookup x=some .local\/sc.names.lookup x=some .cell
 nofree:∀y∈sc.names,y.2≠ .free
theorem a5T{kindOf:Str->Option NameKind}{x:Str}:∀{binds:List (Str×Value)}{m:Str->Option Value},(∀v,(x,v)∉binds)->bindL kindOf binds m x=m x
 | [],_,_=>rfl
 | (n,v)::r,m,h=>by
  unfold bindL
  rw[a5T fun w hw=>h w (List.mem_cons_of_mem _ hw)]
  split
  ·have:x≠n:=by rintro rfl;exact h v List.mem_cons_self
   simp[this]
  ·rfl
theorem a5V{kindOf:Str->Option NameKind}{x:Str}:∀{binds:List (Str×Value)}{m:Str->Option Value},(∀v,(x,v)∉binds)->bindC kindOf binds m x=m x
 | [],_,_=>rfl
 | (n,v)::r,m,h=>by
  unfold bindC
  rw[a5V fun w hw=>h w (List.mem_cons_of_mem _ hw)]
  split
  ·rfl
  ·have:x≠n:=by rintro rfl;exact h v List.mem_cons_self
   simp[this]
theorem a5Y{kindOf:Str->Option NameKind}{x:Str}{v:Value}:∀{P:List Str}{vs:List Value}{i:Nat}{m:Str->Option Value},P.Nodup->P[i]?=some x->vs[i]?=some v->kindOf x=some .local->
  bindL kindOf (P.zip vs) m x=some v
 | [],_,_,_,_,h,_,_=>by simp at h
 | _::_,[],_,_,_,_,h,_=>by simp at h
 | p::P,w::vs,0,m,nd,h1,h2,hk=>by
  simp at h1 h2;subst h1;subst h2
  show bindL kindOf ((p,w)::P.zip vs) m p=_
  unfold bindL
  rw[a5T fun v hv=>(List.nodup_cons.mp nd).1 (List.of_mem_zip hv).1,if_pos hk]
  simp
 | p::P,w::vs,i+1,m,nd,h1,h2,hk=>by
  show bindL kindOf ((p,w)::P.zip vs) m x=_
  unfold bindL
  exact a5Y (i:=i) (List.nodup_cons.mp nd).2 (by simpa using h1) (by simpa using h2) hk
theorem a6e{kindOf:Str->Option NameKind}{x:Str}{v:Value}:∀{P:List Str}{vs:List Value}{i:Nat}{m:Str->Option Value},P.Nodup->P[i]?=some x->vs[i]?=some v->kindOf x≠some .local->
  bindC kindOf (P.zip vs) m x=some v
 | [],_,_,_,_,h,_,_=>by simp at h
 | _::_,[],_,_,_,_,h,_=>by simp at h
 | p::P,w::vs,0,m,nd,h1,h2,hk=>by
  simp at h1 h2;subst h1;subst h2
  show bindC kindOf ((p,w)::P.zip vs) m p=_
  unfold bindC
  rw[a5V fun v hv=>(List.nodup_cons.mp nd).1 (List.of_mem_zip hv).1,if_neg hk]
  simp
 | p::P,w::vs,i+1,m,nd,h1,h2,hk=>by
  show bindC kindOf ((p,w)::P.zip vs) m x=_
  unfold bindC
  exact a6e (i:=i) (List.nodup_cons.mp nd).2 (by simpa using h1) (by simpa using h2) hk
noncomputable def a3K (N:List Str) (vs:List V):St:=vs.map some++List.replicate (N.length - vs.length) none
noncomputable def a8m (CX:CXT) (P:Program) (w:World) (K:PySem.W.Frag) (mg:Str->Option Value) (base:Heap) (N:List Str) (qual:Str) (scope:Scope) (f:Addr) (cd:Value) (A:Around) (outer:List Env) (s:Shared) (H:Hp) (E:XK):Cx where
 prog:=P
 w:=w
 K:=K
 mg:=mg
 base:=base
 A:=A.deeper (envOfC qual scope s.heap.objs.size f cd)
 N:=N
 s₀:=s
 H₀:=H
 env:=envOfC qual scope s.heap.objs.size f cd
 outer:=outer
 stack:=envOfC qual scope s.heap.objs.size f cd::outer
 ex:=[]
 calm:=true
 fn:=fun _=>true
 pn:=[]
 xe:=fun e s'=>wpAny (model P w) (A.deeper (envOfC qual scope s.heap.objs.size f cd)) (leaving (envOfC qual scope s.heap.objs.size f cd) e) (fun _ s''=>CX outer H s E e s'') (fun e' s''=>CX outer H s E e' s'') s'
theorem a7W{sc:Scope}{n:Nat}{x:Str}(h:sc.names.lookup x=some .cell):∃c,(cellsFrom n sc.names []).lookup x=some c:=by
 have q:=PySem.W.cellsFrom_some sc.names n [] (.inl h)
 exact Option.isSome_iff_exists.mp q
theorem a9X{CX:CXT}{P:Program}{w:World}{K:PySem.W.Frag}{mg:Str->Option Value}{base:Heap}{N ps:List Str}{qual:Str}{scope:Scope}{f:Addr}{cd:Value}{A:Around}{outer:List Env}{s s1:Shared}{H:Hp}{E:XK}{us:List Value}{vs:List V}
  (S:U1 N ps scope)(hd:A.handled=none)(e0:b2U P w K mg base A outer s H)(hl:vs.length=ps.length)(r:W5 vs us)
  (x:InCallC s s.heap.objs.size (bindL (envOfC qual scope s.heap.objs.size f cd).kindOf (ps.zip us) fun _=>none) (cellsFrom (s.heap.objs.size+1) scope.names []) (bindC (envOfC qual scope s.heap.objs.size f cd).kindOf (ps.zip us) fun _=>none) s1):
  Inv (a8m CX P w K mg base N qual scope f cd A outer s H E) [] (a3K N vs) H s1:=by
 have hpl:ps.length<=N.length:=by have:=congrArg List.length S.pre;rw[List.length_take]at this;omega
 obtain⟨h1,tk,rfl,hk⟩:=x.done
 have noA:∀b:Addr,b∉(a8m CX P w K mg base N qual scope f cd A outer s H E).ex:=fun b z=>absurd (show b∈([]:List Addr)from z) (by simp)
 refine⟨⟨e0.mod,S.kind,rfl,rfl,Nat.le_refl _,fun y z c h1 h2=>?_,fun y hy=>?_,fun y c _ h=>?_,fun _=>hd,Around.frames_deeper e0.frames,.inr ⟨rfl,rfl⟩,fun b z=>absurd z (noA b),e0.bs,e0.bsz,fun b _ _=>noA b,fun b z=>absurd z (noA b),e0.funs,e0.frf⟩,
  rfl,e0.bare,Un.kept hk,⟨_,x.toInCall.ns,fun i y v h1 h2 h3=>?_⟩,fun y c h=>⟨_,x.cell y c h⟩,e0.hok.fresh (Nat.le_refl _),fun y c h=>?_,fun p hp=>absurd (show p∈([]:List (Addr×Obj))from hp) (by simp),e0.hok.kept hk,?_⟩
 ·exact name_of_addr x.apart (PySem.mem_of_lookup h1) (PySem.mem_of_lookup h2)
 ·have hy:scope.names.lookup y=some .cell\/scope.names.lookup y=some .free:=hy
  rcases hy with hy | hy
  ·exact a7W hy
  ·exact absurd rfl (S.nofree _ (PySem.mem_of_lookup hy))
 ·exact Nat.le_of_lt (x.above y c (PySem.mem_of_lookup h))
 ·have hi:i < vs.length:=by
   unfold a3K at h2
   by_cases hi:i < vs.length
   ·exact hi
   ·rw[List.getElem?_append_right (by simpa using hi)]at h2
    rw[List.getElem?_replicate]at h2
    split at h2<;>cases h2
  have ha:vs[i]?=some v:=by
   unfold a3K at h2
   rw[List.getElem?_append_left (by simpa using hi),List.getElem?_map]at h2
   cases e:vs[i]? with
   | none=>rw[e]at h2;cases h2
   | some a=>rw[e]at h2;cases h2;rfl
  obtain⟨u,hu,rv⟩:=r.get ha
  have hp:ps[i]?=some y:=by
   rw[<-S.pre,List.getElem?_take_of_lt (by omega)];exact h1
  have ndP:ps.Nodup:=by rw[<-S.pre];exact S.nd.sublist (List.take_sublist _ _)
  refine⟨u,rv,?_⟩
  rcases S.par y (List.mem_of_getElem? hp)with k | k
  ·exact .inl ⟨k,a5Y ndP hp hu k⟩
  ·obtain⟨c,e⟩:=a7W (n:=s.heap.objs.size+1) k
   refine .inr ⟨.inl k,c,e,?_⟩
   have q:=x.cell y c e
   rw[a6e ndP hp hu (by show scope.names.lookup y≠_;rw[k];decide)]at q
   exact q
 ·exact e0.hok.fresh (Nat.le_of_lt (x.above y c (PySem.mem_of_lookup h)))
 ·unfold a3K
  show _=N.length
  rw[List.length_append,List.length_map,List.length_replicate]
  omega
theorem b5r{CX:CXT}{P:Program}{w:World}{K:PySem.W.Frag}{mg:Str->Option Value}{base:Heap}{k:Nat}{f:Addr}{name qual:Str}{params:Arguments}{body:List Stmt}{scope:Scope}{dV kV doc pm cdv ct oc:Value}{an od:Option Addr}
  {osl:Array (Option Value)}{N ps:List Str}{sp:Sp}(lk:K.lookup f=some ⟨oc,od,.func (PySem.W.fnOf name qual params body scope dV kV doc pm an cdv ct),osl⟩)(hcd:PySem.W.codeIn K cdv qual=true)(S:U1 N ps scope)
  (len:∀vs H Q E,sp vs H Q E->vs.length=ps.length)
  (hbody:∀(A:Around)(outer:List Env)(s:Shared)(H:Hp)(vs:List V)(Q:VK)(E:XK),a1L k (A.deeper (envOfC qual scope s.heap.objs.size f cdv))->sp vs H Q E->
   ∃t,PSs (a8m CX P w K mg base N qual scope f cdv A outer s H E) body t/\t {nx:=fun _ H'=>Q .non H',rt:=Q} (a3K N vs) H):
  a5I P w K mg base CX (k+1) f (PySem.W.fnOf name qual params body scope dV kV doc pm an cdv ct) ps sp:=by
 refine⟨len,fun A outer s H args us vs Q E hr e0 hb r hsp=>?_⟩
 have hl:=len _ _ _ _ hsp
 have KX:K.In s.heap:=e0.mod.kin.keeps fun b o e=>(e0.bs b o e).1
 have lim:s.heap.NoLimit:=e0.mod.nolimit.keeps fun b o e=>(e0.bs b o e).1
 have hkind:∀y∈ps.zip us,scope.names.lookup y.1=some .local\/(scope.names.lookup y.1=some .cell/\((cellsFrom (s.heap.objs.size+1) scope.names []).lookup y.1).isSome=true):=fun⟨n,v⟩hy=>by
  rcases S.par n (List.of_mem_zip hy).1 with q | q
  ·exact .inl q
  ·exact .inr ⟨q,PySem.W.cellsFrom_some _ _ _ (.inl q)⟩
 refine codeAny_call_function hr.depth (KX _ _ lk) rfl S.co S.gen rfl (PySem.W.codeRec_of KX hcd) (hb _ _ _ _ ?_)
 refine wpAny_newFunctionEnv_cells S.kind hkind fun env he s1 x=>?_
 subst he
 refine⟨lim.keeps x.toInCall.keep,codeAny_func ?_⟩
 obtain⟨t,ht,hq⟩:=hbody A outer s H vs Q E (hr.deeper _) hsp
 have I:Inv (a8m CX P w K mg base N qual scope f cdv A outer s H E) [] (a3K N vs) H s1:=a9X S hr.hd e0 hl r x
 refine wpAny_mono (ht [] s1 (a3K N vs) H _ I hq) (fun fl s' hs=>?_) fun e s' hs=>hs
 have fin:∀{σ':St}{H':Hp}{v:V}{u:Value},Inv (a8m CX P w K mg base N qual scope f cdv A outer s H E) [] σ' H' s'->W7 v u->Q v H'->CE outer P w H s Q u s':=
  fun{σ' H' v u}J rv q=>⟨v,H',J.os,J.bare,J.base,J.hok,rv,q⟩
 cases fl with
 | ret u=>
  obtain⟨v,σ',H',J,rv,q⟩:=hs
  exact fin J rv q
 | next=>
  obtain⟨σ',H',J,q⟩:=hs
  exact fin (v:=V.non) (u:=Value.none) J rfl q
 | brk=>
  obtain⟨_,_,_,q⟩:=hs
  exact False.elim q
 | cont=>
  obtain⟨_,_,_,q⟩:=hs
  exact False.elim q
end L2
namespace L2
open PySem PySem.Spec PyProof.Rows
section
variable{X:Cx}{x:Str}{p pos:Pos}{e:Expr}{es:List Expr}{t:TA}{id T:String}{r:List V->Hp->VK->Prop}
noncomputable def tCB (r:List V->Hp->VK->Prop) (t:TA):TE:=fun σ H Q=>t σ H fun vs H1=>r vs H1 Q
theorem R3(hc:a1o X (.builtin id) r)(hg:Gl X x)(hm:X.mg x=none)(hv:bootBuiltins x=some (.builtin id))(ha:PA X (e::es) t)(hn:x≠ "__name__":=by decide)(hdb:(x==("__debug__":Str))=false:=by decide)
  (he:starEach (e::es) X.env=(false,eval e X.env)::starEach es X.env:=by rfl)(hpl:(backTo pos (starEach es X.env)).any (·.1)=false:=by rfl):PE X (.Call (.Name x p) (e::es) [] pos) (tCB r t):=by
 intro pins s σ H Q I h
 refine wpAny_Call_Name_kw (a1b I hg hm hv ?_ hn hdb)
 exact PyProof.Rows.callWith_builtin1 (thn (ha pos pins s σ H _ I h) fun us s1⟨vs,H1,I1,r1,q1⟩=>hc pins s1 σ H1 vs us Q I1 r1 q1) he hpl
theorem U6(hc:a1o X (.type T) r)(hg:Gl X x)(hm:X.mg x=none)(hv:bootBuiltins x=some (.type T))(ha:PA X (e::es) t)(hn:x≠ "__name__":=by decide)(hdb:(x==("__debug__":Str))=false:=by decide)
  (he:starEach (e::es) X.env=(false,eval e X.env)::starEach es X.env:=by rfl)(hpl:(backTo pos (starEach es X.env)).any (·.1)=false:=by rfl):PE X (.Call (.Name x p) (e::es) [] pos) (tCB r t):=by
 intro pins s σ H Q I h
 refine wpAny_Call_Name_kw (a1b I hg hm hv ?_ hn hdb)
 exact PyProof.Rows.callWith_type1 (thn (ha pos pins s σ H _ I h) fun us s1⟨vs,H1,I1,r1,q1⟩=>hc pins s1 σ H1 vs us Q I1 r1 q1) he hpl
end
end L2
namespace HT
open PySem PyProof.Rows
section
open PySem.SeqAt
open PySem.AutoSeq1 (wpAny_loadPart')
open PySem.MeetsSeq PySem.MeetsSeq2 PySem.MeetsSeq3
end
section
variable{prog:Program}{w:World}{A:Around}{E:Value->Shared->Prop}{s:Shared}
noncomputable def sIx (n d:Nat):Option Int->Nat
 | none=>d
 | some v=>if v < 0 then(v+(n:Int)).toNat else min v.toNat n
theorem b4Y(n d:Nat)(hd:d<=n)(o:Option Int):sIx n d o<=n:=by
 cases o with
 | none=>exact hd
 | some v=>
  show(if v < 0 then(v+(n:Int)).toNat else min v.toNat n)<=n
  by_cases hv:v < 0
  ·rw[if_pos hv];omega
  ·rw[if_neg hv];exact Nat.min_le_right _ _
theorem a9r(v:Int)(n d:Nat):(if v < 0 then max (v+(n:Int)) 0 else min v (n:Int))=((sIx n d (some v):Nat):Int):=by
 show(if v < 0 then max (v+(n:Int)) 0 else min v (n:Int))=(((if v < 0 then(v+(n:Int)).toNat else min v.toNat n):Nat):Int)
 by_cases hv:v < 0
 ·simp only[if_pos hv];omega
 ·simp only[if_neg hv];omega
theorem a3b{v:Value}{o:Option Int}{Q:Option Int->Shared->Prop}(p:IsPart v o)(h:Q o s):wpAny (model prog w) A (Builtin.Slice.slicePartIndex v) Q E s:=by
 cases p with
 | none=>exact slicePart_none h
 | int i t=>exact slicePart_int h
end
end HT
namespace L2
open PySem PySem.Spec PyProof.Rows
noncomputable abbrev TO:=St->Hp->(Option Int->Hp->Prop)->Prop
noncomputable def PO (X:Cx) (e:Option Expr) (t:TO):Prop:=
 ∀(pins:List (Addr×Obj))(s:Shared)(σ:St)(H:Hp)(Q:Option Int->Hp->Prop),Inv X pins σ H s->t σ H Q->
  wpAny (model X.prog X.w) X.A (evalPart e X.env) (fun u s'=>∃o H',Inv X pins σ H' s'/\IsPart u o/\Q o H') X.xe s
noncomputable def b3P:TO:=fun _ H Q=>Q none H
noncomputable def b5B (t:TE):TO:=fun σ H Q=>t σ H fun x H1=>∃i,x= .int i/\Q (some i) H1
section
variable{X:Cx}{e:Expr}{te:TE}{lo hi:Option Expr}{tl th:TO}{pos p2:Pos}
theorem b2Y:PO X none b3P:=by
 intro pins s σ H Q I h
 rw[evalPart_none]
 exact wpAny_pure ⟨none,H,I,.none,h⟩
theorem a9q(h:PE X e te):PO X (some e) (b5B te):=by
 intro pins s σ H Q I hw
 rw[evalPart_some]
 refine thn (h pins s σ H _ I hw) fun u s1⟨x,H1,I1,r1,q1⟩=>?_
 obtain⟨i,rfl,q⟩:=q1
 obtain⟨t,rfl⟩:=r1
 exact⟨some i,H1,I1,.int i t,q⟩
end
end L2
namespace L2
open PySem PySem.Spec PyProof.Rows
noncomputable def ixN (n:Nat) (i:Int):Option Nat:=if 0<=i then(if i < n then some i.toNat else none)else if -(n:Int)<=i then some (i+n).toNat else none
noncomputable def atI {α:Type} (xs:List α) (i:Int):Option α:=(ixN xs.length i).bind fun j=>xs[j]?
theorem a9v{n:Nat}{i:Int}{j:Nat}(h:ixN n i=some j):seqIndex? i n=some j/\j < n/\ -(n:Int)<=i/\i < n:=by
 unfold ixN at h
 by_cases h0:0<=i
 ·rw[if_pos h0]at h
  by_cases h1:i < n
  ·rw[if_pos h1]at h
   have e:i.toNat=j:=Option.some.inj h
   exact⟨by rw[seqIndex_of h0 h1,e],by omega,by omega,h1⟩
  ·rw[if_neg h1]at h;cases h
 ·rw[if_neg h0]at h
  by_cases h1: -(n:Int)<=i
  ·rw[if_pos h1]at h
   have e:(i+n).toNat=j:=Option.some.inj h
   exact⟨by rw[seqIndex_neg (by omega) h1,e],by omega,h1,by omega⟩
  ·rw[if_neg h1]at h;cases h
theorem a6S{α:Type}{xs:List α}{i:Int}{v:α}(h:atI xs i=some v):∃j,seqIndex? i xs.length=some j/\xs[j]?=some v/\j < xs.length/\ -(xs.length:Int)<=i/\i < xs.length:=by
 unfold atI at h
 cases e:ixN xs.length i with
 | none=>rw[e]at h;cases h
 | some j=>
  rw[e]at h
  obtain⟨h1,h2,h3,h4⟩:=a9v e
  exact⟨j,h1,h,h2,h3,h4⟩
theorem U3{α:Type}{xs:List α}{j:Nat}{v:α}(h:xs[j]?=some v):atI xs (j:Int)=some v:=by
 have hj:j < xs.length:=(List.getElem?_eq_some_iff.mp h).1
 have e:ixN xs.length (j:Int)=some j:=by
  unfold ixN
  rw[if_pos (by omega),if_pos (by omega)];simp
 unfold atI;rw[e];exact h
noncomputable def b2M (b:Expr):Prop:=∀o i,subscripted b false o i=operate [o,i] (getItem o i)
noncomputable def IxR (X:Cx) (r:R2):Prop:=
 ∀(value slice:Expr)(pins:List (Addr×Obj))(s:Shared)(σ:St)(H:Hp)(x y:V)(v u:Value)(Q:VK),Inv X pins σ H s->W7 x v->W7 y u->r x y H Q->
  subscripted slice false v u=operate [v,u] (getItem v u)->wpAny (model X.prog X.w) X.A (subscriptTail value slice v u) (EP X pins σ Q) X.xe s
noncomputable def MtR (X:Cx) (id:String) (r:V->List V->Hp->VK->Prop):Prop:=
 ∀(pins:List (Addr×Obj))(s:Shared)(σ:St)(H:Hp)(x:V)(xs:List V)(v:Value)(us:List Value)(Q:VK),Inv X pins σ H s->W7 x v->W5 xs us->r x xs H Q->
  wpAny (model X.prog X.w) X.A (call (.builtin id) (v::us)) (EP X pins σ Q) X.xe s
section
variable{X:Cx}{a b:Expr}{ta tb:TE}{pos:Pos}
theorem G9{r:R2}(hr:IxR X r)(ha:PE X a ta)(hb:PE X b tb)(hs:b2M b):PE X (.Subscript a b pos) (tOp r ta tb):=by
 intro pins s σ H Q I h
 exact Subscript_ (b4t ha hb I h fun v u s2 x y H2 I2 rx ry q=>hr a b pins s2 σ H2 x y v u Q I2 rx ry q (hs _ _))
noncomputable def b6c (K:PySem.W.Frag):R2:=fun x y H Q=>∃p xs i v,x= .ref p/\y= .int i/\SqL K H p xs/\atI xs i=some v/\Q v H
noncomputable def b5L (K:PySem.W.Frag):R2:=fun x y H Q=>∃p xs i v,x= .ref p/\y= .int i/\SqT K H p xs/\atI xs i=some v/\Q v H
noncomputable def b6e:R2:=fun x y H Q=>∃z i c,x= .str z/\y= .int i/\z.length<=sizeLine/\atI z.cps.toList i=some c/\Q (.str ⟨#[c]⟩) H
theorem J4:IxR X (b6c X.K):=by
 intro value slice pins s σ H x y v u Q I rx ry h hs
 obtain⟨p,xs,i,z,rfl,rfl,hq,he,q⟩:=h
 cases rx
 obtain⟨t,rfl⟩:=ry
 obtain⟨its,r,pl,hz⟩:=I.list hq
 obtain⟨j,h1,h2,h3,h4,h5⟩:=a6S he
 obtain⟨w,ew,rw'⟩:=r.get h2
 have hl:=r.length
 have hn:=a4g
 have fin:EP X pins σ Q w s:=⟨z,H,I,rw',q⟩
 by_cases h0:0<=i
 ·have hj:i.toNat=j:=by
   rw[seqIndex_of h0 h5]at h1
   exact Option.some.inj h1
  exact item_listR pl.isList h0 (by omega) (by rw[hj];simpa using ew) fin hs
 ·have hj:(i+(its.toArray.size:Int)).toNat=j:=by
   rw[seqIndex_neg (by omega) h4]at h1
   rw[List.size_toArray,<-hl]
   exact Option.some.inj h1
  exact subscriptTail_builtinR (x:=w) pl.isList.typeIs slot_list_getitem.lookup
   (wpAny_getItem_list_neg (Q:=fun r s'=>r=w/\EP X pins σ Q r s') pl.isList (by omega) (by rw[List.size_toArray]<;>omega) (by omega) (by rw[hj];simpa using ew) ⟨rfl,fin⟩) hs
theorem J5:IxR X (b5L X.K):=by
 intro value slice pins s σ H x y v u Q I rx ry h hs
 obtain⟨p,xs,i,z,rfl,rfl,hq,he,q⟩:=h
 cases rx
 obtain⟨t,rfl⟩:=ry
 obtain⟨its,r,pl,hz⟩:=I.tuple hq
 obtain⟨j,h1,h2,h3,h4,h5⟩:=a6S he
 obtain⟨w,ew,rw'⟩:=r.get h2
 have hl:=r.length
 have hn:=a4g
 have fin:EP X pins σ Q w s:=⟨z,H,I,rw',q⟩
 exact subscriptTail_builtinR (x:=w) pl.typeIs slot_tuple_getitem.lookup
  (getItem_tuple (j:=j) (Q:=fun r s'=>r=w/\EP X pins σ Q r s') pl (by omega) (by omega) (by rw[List.size_toArray,<-hl];exact h1) (by simpa using ew) ⟨rfl,fin⟩) hs
theorem a4S:IxR X b6e:=by
 intro value slice pins s σ H x y v u Q I rx ry h hs
 obtain⟨z,i,c,rfl,rfl,hz,he,q⟩:=h
 obtain⟨t,rfl⟩:=rx
 obtain⟨t',rfl⟩:=ry
 obtain⟨j,h1,h2,h3,h4,h5⟩:=a6S he
 have hl:z.cps.toList.length=z.length:=by simp[Str.length]
 rw[hl]at h1 h4 h5
 have hn:=a4g
 exact tail_any (typeIs_str s z t) slot_str_getitem.lookup (getItem_str (c:=c) (by
  have e1:decide (i < -(2 ^ 63:Int))=false:=decide_eq_false (by omega)
  have e2:decide (i≥2 ^ 63)=false:=decide_eq_false (by omega)
  rw[e1,e2,Bool.or_false]) (by rw[h1];simpa using h2) ⟨.str ⟨#[c]⟩,H,I.tok _,⟨_,rfl⟩,q⟩) hs
theorem a8L(its:List Value)(n j:Nat)(u:Value):Obj.mapSeq (·.setIfInBounds j u) {cls:= .type "list",data:= .seq its.toArray n}={cls:= .type "list",data:= .seq (its.set j u).toArray n}:=by
 simp[Obj.mapSeq]
theorem Inv.lst{pins:List (Addr×Obj)}{σ:St}{H:Hp}{s:Shared}{p:Addr}{xs:List V}(I:Inv X pins σ H s)(h:H p=some (.lst xs)):
  ∃(its:List Value)(n:Nat),W5 xs its/\s.heap.get? p=some {cls:= .type "list",data:= .seq its.toArray n}/\xs.length<=sizeLine:=by
 obtain⟨z,its,n,r,e⟩:=I.hok p _ h
 exact⟨its,n,r,e,z⟩
theorem Inv.lstUpd{pins:List (Addr×Obj)}{σ:St}{H:Hp}{s:Shared}{p:Addr}{xs ys:List V}{its its':List Value}{n n':Nat}{f:Obj->Obj}(I:Inv X pins σ H s)(h:H p=some (.lst xs))
  (ho:s.heap.get? p=some {cls:= .type "list",data:= .seq its.toArray n})(hf:f {cls:= .type "list",data:= .seq its.toArray n}={cls:= .type "list",data:= .seq its'.toArray n'})(r:W5 ys its')(hz:ys.length<=sizeLine)(t:Nat):
  Inv X pins σ (upd H p (.lst ys)) {s with heap:=s.heap.update p f,toks:=t}:=by
 have e:(s.heap.update p f).get? p=some {cls:= .type "list",data:= .seq its'.toArray n'}:=by
  rw[Heap.get?_update_self f ho (by rw[hf]<;>rfl),hf]
 refine I.write (x:=p) (e:=p) (by rw[h];trivial) (.inl rfl) (fun b u hb q=>(Heap.get?_update_other _ _ (Ne.symm hb)).trans q) ⟨_,e⟩ ?_
 exact⟨hz,its',n',r,e⟩
noncomputable def b5E:V->V->V->Hp->(Hp->Prop)->Prop:=fun o i v H Q=>∃p xs k j,o= .ref p/\i= .int k/\H p=some (.lst xs)/\ixN xs.length k=some j/\Q (upd H p (.lst (xs.set j v)))
theorem b1k:b5J X b5E:=by
 intro pins s σ H o i v ov iv u Q I ro ri rv h
 obtain⟨p,xs,k,j,rfl,rfl,hp,hj,q⟩:=h
 cases ro
 obtain⟨t,rfl⟩:=ri
 obtain⟨its,n,r,ho,hz⟩:=I.lst hp
 obtain⟨h1,h2,h3,h4⟩:=a9v hj
 have hl:=r.length
 have hn:=a4g
 have I':Inv X pins σ (upd H p (.lst (xs.set j v))) {s with heap:=s.heap.update p (Obj.mapSeq (·.setIfInBounds j u))}:=
  I.lstUpd hp ho (a8L its n j u) (r.set rv j) (by rw[List.length_set];exact hz) s.toks
 by_cases h0:0<=k
 ·have hk:k.toNat=j:=by
   rw[seqIndex_of h0 h4]at h1
   exact Option.some.inj h1
  exact PySem.W.ki_setAt ho h0 (by omega) (by rw[List.size_toArray,<-hl];exact h4) (by rw[hk];exact⟨_,I',q⟩)
 ·have hk:(k+(its.toArray.size:Int)).toNat=j:=by
   rw[seqIndex_neg (by omega) h3]at h1
   rw[List.size_toArray,<-hl]
   exact Option.some.inj h1
  exact PySem.W.ki_setBack ho (by omega) (by rw[List.size_toArray,<-hl];exact h3) (by omega) (by rw[hk];exact⟨_,I',q⟩)
noncomputable def a0Z:V->Bool
 | .non=>true
 | .bl _=>true
 | .int _=>true
 | .str _=>true
 | _=>false
noncomputable def eqV:V->V->Bool
 | .non,.non=>true
 | .bl a,.bl b=>a==b
 | .bl a,.int b=>(if a then 1 else 0)==b
 | .int a,.bl b=>a==(if b then 1 else 0)
 | .int a,.int b=>a==b
 | .str a,.str b=>a==b
 | _,_=>false
theorem a8g{A:Around}{s:Shared}{y x:V}{u v:Value}(ry:W7 y u)(rx:W7 x v)(fy:a0Z y=true)(fx:a0Z x=true):SeqAt.EqAt A s u v (eqV y x):=by
 cases y with
 | non=>
  cases ry
  cases x with
  | non=>cases rx;exact SeqAt.EqAt.same _
  | bl b=>cases rx;exact SeqAt.EqAt.none_bool b
  | int b=>obtain⟨t,rfl⟩:=rx;exact SeqAt.EqAt.none_int b t
  | str b=>obtain⟨t,rfl⟩:=rx;exact SeqAt.EqAt.none_str b t
  | _=>exact absurd (show false=true from fx) Bool.false_ne_true
 | bl a=>
  cases ry
  cases x with
  | non=>cases rx;exact SeqAt.EqAt.bool_none a
  | bl b=>cases rx;exact SeqAt.EqAt.bool_bool a b
  | int b=>obtain⟨t,rfl⟩:=rx;exact SeqAt.EqAt.bool_int a b t
  | str b=>obtain⟨t,rfl⟩:=rx;exact SeqAt.EqAt.bool_str a b t
  | _=>exact absurd (show false=true from fx) Bool.false_ne_true
 | int a=>
  obtain⟨t',rfl⟩:=ry
  cases x with
  | non=>cases rx;exact SeqAt.EqAt.int_none a t'
  | bl b=>cases rx;exact SeqAt.EqAt.int_bool a t' b
  | int b=>obtain⟨t,rfl⟩:=rx;exact SeqAt.EqAt.int_int a t' b t
  | str b=>obtain⟨t,rfl⟩:=rx;exact SeqAt.EqAt.int_str a t' b t
  | _=>exact absurd (show false=true from fx) Bool.false_ne_true
 | str a=>
  obtain⟨t',rfl⟩:=ry
  cases x with
  | non=>cases rx;exact SeqAt.EqAt.str_none a t'
  | bl b=>cases rx;exact SeqAt.EqAt.str_bool a t' b
  | int b=>obtain⟨t,rfl⟩:=rx;exact SeqAt.EqAt.str_int a t' b t
  | str b=>obtain⟨t,rfl⟩:=rx;exact SeqAt.EqAt.str_str a t' b t
  | _=>exact absurd (show false=true from fx) Bool.false_ne_true
 | _=>exact absurd (show false=true from fy) Bool.false_ne_true
noncomputable def eqU (x:V) (u:Value):Bool:=match u with
 | .none=>eqV .non x
 | .bool b=>eqV (.bl b) x
 | .int i _=>eqV (.int i) x
 | .str z _=>eqV (.str z) x
 | _=>false
theorem b2B{x y:V}{u:Value}(r:W7 y u)(f:a0Z y=true):eqU x u=eqV y x:=by
 cases y with
 | non=>cases r;rfl
 | bl b=>cases r;rfl
 | int i=>obtain⟨t,rfl⟩:=r;rfl
 | str z=>obtain⟨t,rfl⟩:=r;rfl
 | _=>exact absurd (show false=true from f) Bool.false_ne_true
theorem a3C{x:V}:∀{xs:List V}{us:List Value},W5 xs us->xs.all a0Z=true->us.any (eqU x)=xs.any fun y=>eqV y x
 | _,_,.nil,_=>rfl
 | y::xs,u::us,.cons r t,f=>by
  rw[List.all_cons,Bool.and_eq_true]at f
  rw[List.any_cons,List.any_cons,b2B r f.1,a3C t f.2]
theorem a2q{A:Around}{s:Shared}{x:V}{v:Value}(rx:W7 x v)(fx:a0Z x=true):∀{xs:List V}{us:List Value},W5 xs us->xs.all a0Z=true->∀u∈us,SeqAt.EqAt A s u v (eqU x u)
 | _,_,.nil,_=>fun u hu=>by cases hu
 | y::xs,u::us,.cons r t,f=>fun u' hu=>by
  rw[List.all_cons,Bool.and_eq_true]at f
  rcases List.mem_cons.mp hu with rfl | hu
  ·rw[b2B r f.1];exact a8g r rx f.1 fx
  ·exact a2q rx fx t f.2 u' hu
noncomputable def inV (x:V) (xs:List V):Bool:=xs.any fun y=>eqV y x
noncomputable def rIn (K:PySem.W.Frag) (neg:Bool):R2:=fun x y H Q=>∃p xs,y= .ref p/\(SqL K H p xs\/SqT K H p xs)/\a0Z x=true/\xs.all a0Z=true/\Q (.bl (if neg then !inV x xs else inV x xs)) H
theorem a2I:OpR X (compareOp .In) (rIn X.K false):=by
 intro pins s σ H x y v u Q I rx ry h
 obtain⟨p,xs,rfl,hq,fx,fs,q⟩:=h
 cases ry
 rcases hq with hq | hq
 ·obtain⟨its,r,pl,hz⟩:=I.list hq
  refine SeqAt.in_listAt (eqU x) pl.isList (fun w hw=>a2q rx fx r fs w (by simpa using hw)) ⟨.bl _,H,I,rfl,?_⟩
  rw[show its.toArray.any (eqU x)=its.any (eqU x)by simp,a3C r fs]
  exact q
 ·obtain⟨its,r,pl,hz⟩:=I.tuple hq
  refine SeqAt.in_tupleAt (eqU x) pl (fun w hw=>a2q rx fx r fs w (by simpa using hw)) ⟨.bl _,H,I,rfl,?_⟩
  rw[show its.toArray.any (eqU x)=its.any (eqU x)by simp,a3C r fs]
  exact q
theorem a7c:OpR X (compareOp .NotIn) (rIn X.K true):=by
 intro pins s σ H x y v u Q I rx ry h
 obtain⟨p,xs,rfl,hq,fx,fs,q⟩:=h
 cases ry
 rcases hq with hq | hq
 ·obtain⟨its,r,pl,hz⟩:=I.list hq
  refine SeqAt.notIn_listAt (eqU x) pl.isList (fun w hw=>a2q rx fx r fs w (by simpa using hw)) ⟨.bl _,H,I,rfl,?_⟩
  rw[show its.toArray.any (eqU x)=its.any (eqU x)by simp,a3C r fs]
  exact q
 ·obtain⟨its,r,pl,hz⟩:=I.tuple hq
  refine SeqAt.notIn_tupleAt (eqU x) pl (fun w hw=>a2q rx fx r fs w (by simpa using hw)) ⟨.bl _,H,I,rfl,?_⟩
  rw[show its.toArray.any (eqU x)=its.any (eqU x)by simp,a3C r fs]
  exact q
theorem J8:a1o X (.builtin "len") (fun xs H Q=>∃p ys,xs=[.ref p]/\(SqL X.K H p ys\/SqT X.K H p ys)/\Q (.int ys.length) H):=by
 intro pins s σ H xs us Q I r h
 obtain⟨p,ys,rfl,hq,q⟩:=h
 obtain⟨u,rfl,rx⟩:=a3z r
 cases rx
 have hn:=a4g
 rcases hq with hq | hq
 ·obtain⟨its,r',pl,hz⟩:=I.list hq
  have hlen:=r'.length
  exact Calls.call_len_list pl.isList (by simp only[List.size_toArray]<;>omega) ⟨.int ys.length,H,I.tok _,⟨s.toks+1,by rw[List.size_toArray,hlen]⟩,q⟩
 ·obtain⟨its,r',pl,hz⟩:=I.tuple hq
  have hlen:=r'.length
  exact len_tuple pl (by simp only[List.size_toArray]<;>omega) ⟨.int ys.length,H,I.tok _,⟨s.toks+1,by rw[List.size_toArray,hlen]⟩,q⟩
theorem Y2:a1o X (.type "tuple") (fun xs H Q=>∃p ys,xs=[.ref p]/\((SqL X.K H p ys/\∀l,H l=none->Q (.ref l) (upd H l (.tup ys)))\/(SqT X.K H p ys/\Q (.ref p) H))):=by
 intro pins s σ H xs us Q I r h
 obtain⟨p,ys,rfl,h⟩:=h
 obtain⟨u,rfl,rx⟩:=a3z r
 cases rx
 rcases h with⟨hq,q⟩ | ⟨hq,q⟩
 ·obtain⟨its,r',pl,hz⟩:=I.list hq
  have hlen:=r'.length
  refine call_tuple_list pl.isList (fun h' kp=>?_) (by simp only[List.size_toArray]<;>omega)
  have I1:Inv X pins σ H {s with heap:=h'}:=I.kept (t':=s.toks) kp
  have I2:Inv X pins σ (upd H h'.objs.size (.tup ys)) {s with heap:=h'.push {cls:= .type "tuple",data:= .seq its.toArray}}:=
   I1.laid (t':=s.toks) (fun b o e=>Heap.get?_push_of_some _ e) (Nat.le_refl _) (show Z7 X.prog X.w _ _ _ (.tup ys)from⟨hz,its,r',IsTup.new _ _⟩)
  exact⟨.ref h'.objs.size,_,I2,rfl,q _ (I1.hok.fresh (Nat.le_refl _))⟩
 ·obtain⟨its,r',pl,hz⟩:=I.tuple hq
  exact call_tuple_same pl ⟨.ref p,H,I,rfl,q⟩
noncomputable def tyV (K:PySem.W.Frag) (T:String) (x:V) (H:Hp):Prop:=match x with
 | .str _=>T="str"
 | .int _=>T="int"
 | .ref p=>(T="list"/\∃xs,SqL K H p xs)\/(T="tuple"/\∃o,K.lookup p=some o/\o.cls= .type "tuple"/\o.dict=none)\/
   (T="dict"/\((∃kvs,H p=some (.dK kvs))\/∃kvs,H p=some (.dT kvs)))\/(T="set"/\∃S n,H p=some (.set S n))
 | _=>False
theorem b0Y{pins:List (Addr×Obj)}{σ:St}{H:Hp}{s:Shared}{T:String}{x:V}{v:Value}(I:Inv X pins σ H s)(r:W7 x v)(ty:tyV X.K T x H):
  s.TypeIs v T/\∀a,v= .ref a->∃ob,s.heap.get? a=some ob/\ob.dict=none:=by
 cases x with
 | str z=>
  obtain⟨t,rfl⟩:=r
  cases(show T="str" from ty)
  exact⟨typeIs_str s z t,fun _ e=>nomatch e⟩
 | int i=>
  obtain⟨t,rfl⟩:=r
  cases(show T="int" from ty)
  exact⟨typeIs_int s i t,fun _ e=>nomatch e⟩
 | ref p=>
  cases r
  rcases ty with⟨rfl,xs,hq⟩ | ⟨rfl,o,hk,hc,hd⟩ | ⟨rfl,hk⟩ | ⟨rfl,S,n,hk⟩
  ·obtain⟨its,_,pl,_⟩:=I.list hq
   refine⟨pl.isList.typeIs,fun a e=>?_⟩
   cases e
   obtain⟨o,n,e,c,hd,_⟩:=pl
   exact⟨o,e,hd⟩
  ·refine⟨⟨o,I.kIn p o hk,hc⟩,fun a e=>?_⟩
   cases e
   exact⟨o,I.kIn _ o hk,hd⟩
  ·have z:∃o,s.heap.get? p=some o/\o.ExactDict:=by
    rcases hk with⟨kvs,hk⟩ | ⟨kvs,hk⟩
    ·obtain⟨_,_,_,_,o,_,_,e,ex,_⟩:=I.hok p _ hk
     exact⟨o,e,ex⟩
    ·obtain⟨_,_,_,_,o,_,_,e,ex,_⟩:=I.hok p _ hk
     exact⟨o,e,ex⟩
   obtain⟨o,e,ex⟩:=z
   refine⟨⟨o,e,ex.1⟩,fun a e2=>?_⟩
   cases e2
   exact⟨o,e,ex.2.1⟩
  ·obtain⟨o,_,_,_,e,ex,_⟩:=I.hok p _ hk
   refine⟨⟨o,e,ex.1⟩,fun a e2=>?_⟩
   cases e2
   exact⟨o,e,ex.2.1⟩
 | _=>exact False.elim ty
noncomputable def b6g (K:PySem.W.Frag) (T:String) (r:V->List V->Hp->VK->Prop) (to:TE):TE:=fun σ H Q=>to σ H fun x H1=>tyV K T x H1/\r x [] H1 Q
noncomputable def tBM (K:PySem.W.Frag) (T:String) (r:V->List V->Hp->VK->Prop) (to:TE) (t:TA):TE:=fun σ H Q=>to σ H fun x H1=>tyV K T x H1/\t σ H1 fun xs H2=>r x xs H2 Q
variable{o e:Expr}{es:List Expr}{to:TE}{t:TA}{name:Str}{apos cpos:Pos}{T id:String}{r:V->List V->Hp->VK->Prop}
theorem a8B(pa:PlainAttrs T)(slot:Slot T name id)(hty:typeOf (.builtin id)=pure (.type "method_descriptor"))(hm:MtR X id r)(ho:PE X o to)
  (hbase:attributeBase o name X.env (eval o X.env)=eval o X.env:=by rfl)(hline:(apos.endLine==cpos.line)=true:=by rfl):PE X (.Call (.Attribute o name apos) [] [] cpos) (b6g X.K T r to):=by
 intro pins s σ H Q I h
 refine wpAny_Call_method0_late hbase hline (thn (ho pins s σ H _ I h) fun v s1⟨x,H1,I1,r1,ty,q1⟩=>?_)
 obtain⟨h1,h2⟩:=b0Y I1 r1 ty
 exact⟨T,id,pa,slot,hty,h1,h2,Calls.callWith_builtin rfl (PySem.evalArgs_none (hm pins s1 σ H1 x [] v [] Q I1 r1 .nil q1))⟩
theorem D7(pa:PlainAttrs T)(slot:Slot T name id)(hty:typeOf (.builtin id)=pure (.type "method_descriptor"))(hm:MtR X id r)(ho:PE X o to)(ha:PA X (e::es) t)
  (hbase:attributeBase o name X.env (eval o X.env)=eval o X.env:=by rfl)
  (hfew:((backTo cpos (starEach (e::es) X.env)).all (fun x=>!x.1) && (backToKw cpos (keywordEach [] X.env)).all (fun x=>x.1.isSome)
   && decide ((e::es).length+([]:List Keyword).length+(if([]:List Keyword).isEmpty then 0 else 1) < 30))=true:=by rfl)
  (hline:(apos.endLine==cpos.line)=true:=by rfl)(hs:starEach (e::es) X.env=(false,eval e X.env)::starEach es X.env:=by rfl)(hplain:(backTo cpos (starEach es X.env)).any (·.1)=false:=by rfl):
  PE X (.Call (.Attribute o name apos) (e::es) [] cpos) (tBM X.K T r to t):=by
 intro pins s σ H Q I h
 refine wpAny_Call_method_late hbase hfew hline rfl (thn (ho pins s σ H _ I h) fun v s1⟨x,H1,I1,r1,ty,q1⟩=>?_)
 obtain⟨h1,h2⟩:=b0Y I1 r1 ty
 refine⟨T,id,pa,slot,hty,h1,h2,?_⟩
 have hA:=ha cpos pins s1 σ H1 _ I1 q1
 rw[hs]at hA⊢
 refine Calls.callWith_builtin (by show(false || (backTo cpos (starEach es X.env)).any (·.1))=false;rw[hplain]<;>rfl) (Calls.evalArgs_plain ?_)
 exact thn hA fun us s2⟨vs,H2,I2,r2,q2⟩=>hm pins s2 σ H2 x vs v us Q I2 r1 r2 q2
end
end L2
namespace L2
open PySem PySem.Spec PyProof.Rows
noncomputable def MtM (X:Cx) (id:String) (r:V->List V->Hp->VK->Prop):Prop:=
 ∀(pins:List (Addr×Obj))(s:Shared)(σ:St)(H:Hp)(x:V)(xs:List V)(v:Value)(us:List Value)(Q:VK),Inv X pins σ H s->W7 x v->W5 xs us->r x xs H Q->
  wpAny (model X.prog X.w) X.A (call (.builtin id) (v::us)) (EP X pins σ Q) X.xe s
theorem W5.one:∀{x:V}{us:List Value},W5 [x] us->∃u,us=[u]/\W7 x u
 | _,_,.cons r .nil=>⟨_,rfl,r⟩
theorem W5.zero:∀{us:List Value},W5 [] us->us=[]
 | _,.nil=>rfl
theorem W5.dropLast{xs:List V}{us:List Value}(h:W5 xs us):W5 xs.dropLast us.dropLast:=by
 induction h with
 | nil=>exact .nil
 | cons r t ih=>
  cases t with
  | nil=>exact .nil
  | cons q t'=>exact .cons r ih
theorem a8x{α:Type}(l:List α):l.eraseIdx (l.length - 1)=l.dropLast:=by
 induction l with
 | nil=>rfl
 | cons a r ih=>
  cases r with
  | nil=>rfl
  | cons b r=>
   have e:(a::b::r).length - 1=((b::r).length - 1)+1:=by
    have h1:(a::b::r).length=r.length+2:=rfl
    have h2:(b::r).length=r.length+1:=rfl
    omega
   rw[e,List.eraseIdx_cons_succ,ih]
   all_goals rfl
section
variable{X:Cx}{pins:List (Addr×Obj)}{σ:St}{H:Hp}{s:Shared}{l b:Addr}{xs ys zs:List V}
theorem Inv.lset{its its':List Value}{n:Nat}{f:Array Value->Array Value}{t':Nat}(I:Inv X pins σ H s)(hH:H l=some (.lst xs))
  (e:s.heap.get? l=some {cls:= .type "list",data:= .seq its.toArray n})(hf:f its.toArray=its'.toArray)(hv:W5 ys its')(hz:ys.length<=sizeLine):
  Inv X pins σ (upd H l (.lst ys)) {s with heap:=s.heap.update l (Obj.mapSeq f),toks:=t'}:=by
 have q:=PySem.IsL.update e f
 rw[hf]at q
 refine I.write (x:=l) (e:=l) (by rw[hH];exact trivial) (.inl rfl) (fun b' u hb hu=>(Heap.get?_update_other s.heap (Obj.mapSeq f) (Ne.symm hb)).trans hu) ⟨_,q⟩ ?_
 exact⟨hz,its',_,hv,q⟩
theorem Inv.lnew{its:List Value}{t':Nat}(I:Inv X pins σ H s)(hv:W5 ys its)(hz:ys.length<=sizeLine):
  Inv X pins σ (upd H s.heap.objs.size (.lst ys)) {s with heap:=s.heap.push {cls:= .type "list",data:= .seq its.toArray},toks:=t'}:=
 I.laid (fun _ _ q=>Heap.get?_push_of_some _ q) (Nat.le_refl _) ⟨hz,its,0,hv,Heap.get?_push_size _ rfl⟩
theorem Inv.fresh(I:Inv X pins σ H s):H s.heap.objs.size=none:=I.hok.fresh (Nat.le_refl _)
theorem Inv.lstM(I:Inv X pins σ H s)(hH:H l=some (.lst xs)):xs.length<=sizeLine/\∃(its:List Value)(n:Nat),W5 xs its/\xs.length=its.length/\s.heap.get? l=some {cls:= .type "list",data:= .seq its.toArray n}:=by
 obtain⟨z,its,n,r,e⟩:=I.hok l _ hH
 exact⟨z,its,n,r,r.length,e⟩
theorem b1g{n:Nat}(h:n<=sizeLine):Builtin.List.listTooLong n=false:=by
 unfold Builtin.List.listTooLong
 exact decide_eq_false (by omega)
end
section
variable{X:Cx}
noncomputable def b3Q:V->List V->Hp->VK->Prop:=fun x vs H Q=>∃l xs y,x= .ref l/\vs=[y]/\H l=some (.lst xs)/\xs.length < sizeLine/\Q .non (upd H l (.lst (xs++[y])))
theorem Z5:MtM X "list.append" b3Q:=by
 intro pins s σ H x vs v us Q I rx rv h
 obtain⟨l,xs,y,rfl,rfl,hH,hz,q⟩:=h
 cases rx
 obtain⟨u,rfl,ru⟩:=rv.one
 obtain⟨z,its,n,r,hl,e⟩:=I.lstM hH
 refine call_meets F.slot_list_append ⟨_,e,rfl⟩ F.entry_list_append (F.args_list_append_2 _ _) (PySem.list_append l its.toArray n u (by rw[List.size_toArray];omega)) ⟨e,?_⟩
 refine⟨.non,_,I.lset (its':=its++[u]) hH e (by simp) (r.append (.cons ru .nil)) ?_,rfl,q⟩
 rw[List.length_append,List.length_singleton]
 omega
noncomputable def b3T:V->List V->Hp->VK->Prop:=fun x vs H Q=>∃l b xs zs,x= .ref l/\vs=[.ref b]/\H l=some (.lst xs)/\H b=some (.lst zs)/\xs.length+zs.length<=sizeLine/\Q .non (upd H l (.lst (xs++zs)))
theorem a6w:MtM X "list.extend" b3T:=by
 intro pins s σ H x vs v us Q I rx rv h
 obtain⟨l,b,xs,zs,rfl,rfl,hH,hB,hz,q⟩:=h
 cases rx
 obtain⟨u,rfl,ru⟩:=rv.one
 cases ru
 obtain⟨z,its,n,r,hl,e⟩:=I.lstM hH
 obtain⟨z2,its2,n2,r2,hl2,e2⟩:=I.lstM hB
 have hsz:its.toArray.size+its2.toArray.size<=sizeLine:=by rw[List.size_toArray,List.size_toArray];omega
 have hlong:¬(!its.toArray.isEmpty && Builtin.List.listTooLong (its.toArray.size+its2.toArray.size))=true:=by
  rw[b1g hsz,Bool.and_false]
  exact Bool.false_ne_true
 refine call_meets F.slot_list_extend ⟨_,e,rfl⟩ F.entry_list_extend (F.args_list_extend_2 _ _)
  (AutoSeq1.list_extend_list_list_0 l its.toArray n b its2.toArray n2 hlong (by rw[List.size_toArray];omega) (by omega)) ⟨e,e2,?_⟩
 refine⟨.non,_,I.lset (its':=its++its2) hH e (by simp) (r.append r2) ?_,rfl,q⟩
 rw[List.length_append]
 omega
noncomputable def b6l:V->List V->Hp->VK->Prop:=fun x vs H Q=>∃l xs y,x= .ref l/\vs=[]/\H l=some (.lst xs)/\xs[xs.length - 1]?=some y/\Q y (upd H l (.lst xs.dropLast))
theorem a8w:MtM X "list.pop" b6l:=by
 intro pins s σ H x vs v us Q I rx rv h
 obtain⟨l,xs,y,rfl,rfl,hH,hy,q⟩:=h
 cases rx
 have hus:=rv.zero
 subst hus
 obtain⟨z,its,n,r,hl,e⟩:=I.lstM hH
 obtain⟨u,hu,ru⟩:=r.get hy
 have hy':its.toArray[its.toArray.size - 1]?=some u:=by
  show its.toArray[its.length - 1]?=some u
  rw[<-Array.getElem?_toList,<-hl]
  exact hu
 refine call_meets F.slot_list_pop ⟨_,e,rfl⟩ F.entry_list_pop (F.args_list_pop_1 _) (MeetsSeq.list_pop_last l its.toArray n u hy' (by rw[List.size_toArray];omega)) ⟨e,?_⟩
 refine⟨y,_,I.lset (its':=its.dropLast) hH e ?_ r.dropLast ?_,ru,q⟩
 ·show its.toArray.eraseIdxIfInBounds (its.toArray.size - 1)=its.dropLast.toArray
  rw[List.size_toArray,List.eraseIdxIfInBounds_toArray,a8x]
 ·rw[List.length_dropLast]
  omega
noncomputable def b6o:R2:=fun x y H Q=>∃l b xs zs,x= .ref l/\y= .ref b/\H l=some (.lst xs)/\H b=some (.lst zs)/\xs.length+zs.length<=sizeLine/\∀p,H p=none->Q (.ref p) (upd H p (.lst (xs++zs)))
theorem b5f:OpR X (binaryOp .Add) b6o:=by
 intro pins s σ H x y v u Q I rx ry h
 obtain⟨l,b,xs,zs,rfl,rfl,hH,hB,hz,q⟩:=h
 cases rx
 cases ry
 obtain⟨z,its,n,r,hl,e⟩:=I.lstM hH
 obtain⟨z2,its2,n2,r2,hl2,e2⟩:=I.lstM hB
 refine PySem.P.add_list e e2 ?_ (by rw[List.size_toArray,List.size_toArray];omega)
 have ea:its.toArray++its2.toArray=(its++its2).toArray:=by simp
 rw[ea]
 exact⟨.ref _,_,I.lnew (t':=s.toks) (r.append r2) (by rw[List.length_append];omega),rfl,q _ I.fresh⟩
end
section
variable{prog:Program}{w:World}{A:Around}{E:Value->Shared->Prop}{s:Shared}
set_option maxRecDepth 100000 in
end
section
variable{X:Cx}
end
end L2
namespace Att
open PySem PySem.W PySem.Calls PyProof.Rows
theorem a4F{P:Params}{h:Heap}:∀(ns:List Int)(vs:List Value),WellAll P h vs (ns.map WData.int)->IntsAre vs ns:=by
 intro ns
 induction ns with
 | nil=>
  intro vs w
  rw[List.map_nil]at w
  cases w
  exact .nil
 | cons n ns ih=>
  intro vs w
  rw[List.map_cons]at w
  cases w with
  | cons a b=>
   cases a
   exact .cons _ _ (ih _ b)
theorem b0d{l:OpenLaw}{n:Nat}(hn:l.most=some n){P:Params}{h:Heap}{args:List WData}{vals:List Value}
  (hpre:l.row.toRowW.claim.pre args=true)(hwl:WellAll P h vals args):
  ∃a vs ns,vals=[Value.ref a]/\args=[WData.list (ns.map WData.int)]/\h.get? a=some {cls:= .type "list",data:= .seq vs.toArray}/\IntsAre vs ns/\ns.length<=n:=by
 have hsh:WShape.hasAll [] args [.list .int]=true:=(pre_splitW hpre).1
 have hc:l.pre.holds [] {args:=args}=true:=(pre_splitW hpre).2
 obtain⟨d,r,rfl,h1,h2⟩:=hasAllW_cons hsh
 obtain rfl:=hasAllW_nil h2
 obtain⟨xs,rfl,h3⟩:=hasW_list h1
 obtain⟨ns,rfl⟩:=items_int h3
 have hlen:ns.length<=n:=by
  unfold OpenLaw.pre at hc
  have h4:(WTm.not (.lt (.lit (.int (n:Int))) (.len (.arg 0)))).holds [] {args:=[.list (ns.map .int)]}=true:=by
   have h4:=(holds_andW hc).1
   rw[hn]at h4
   exact h4
  have h5:=condW_of h4 (w_not (w_lt w_lit (w_len_list (w_arg rfl))))
  rw[List.length_map]at h5
  refine Nat.le_of_not_lt fun q=>?_
  have q':(n:Int) < ((ns.length:Nat):Int):=by omega
  first
   | (rw[decide_eq_true q']at h5;exact absurd h5 (by decide))
   | (simp at h5;omega)
 cases hwl with
 | cons w1 w2=>
  cases w2
  cases w1 with
  | list ho hall=>exact⟨_,_,ns,rfl,rfl,ho,a4F ns _ hall,hlen⟩
theorem b0t(l:OpenLaw)(args:List WData):l.row.toRowW.claim.post args (.bool true) args=true:=
 postW_of (r:=l.row.toRowW) (X:=(true==true))
  (show WShape.has [] (.bool true) .bool=true by first | rfl | decide | simp[WShape.has,WShape.arms,WShape.armsAll])
  (show(WTm.eq .res (.lit (.bool true))).value [] {args:=args,res:=some (.bool true),after:=args}=some (.bool (true==true))from w_eq_bool (w_res rfl) w_lit) rfl
theorem a7q{l:OpenLaw}{n:Nat}{q:Program}{loose:List Str}{XP:(Str->Option Value)->Heap->Prop}{YP:World->Heap->Prop}{d:DefRec}
  (hn:l.most=some n)(hdf:d.params.defaults=[])
  (call:∀(w:World)(s₀ s₁:Shared)(mg mb:Str->Option Value)(fa:Addr)(o:Obj)(pm cd doc:Value)(a:Addr)(vs:List Value)(ns:List Int),
   Ground q loose [] XP w s₀ mg mb s₁.heap->YP w s₁.heap->
   s₁.heap.get? fa=some o->o.data= .func (docDef d.name d.params d.body d.scope pm cd doc)->s₁.heap.CodeRec cd d.name->mg d.name=some (.ref fa)->
   s₁.heap.get? a=some {cls:= .type "list",data:= .seq vs.toArray}->IntsAre vs ns->ns.length<=n->s₁.gens= #[]->
   codeAny (model l.prog w) callerA (.call (.ref fa) ⟨[.ref a],[]⟩) (fun r s'=>r= .ok (.ret (.bool true))/\OldK s₁.heap s'.heap/\s'.os=s₁.os/\AllBare s'.gens) s₁):
  WalkO q loose XP YP l.row.toRowW d [] (fun f vs=>PySem.call f vs):=by
 intro w s₀ s₁ mg mb G Y fa o pm cd doc dV kV ho hd hcd hD hmg hg args vals as hpre hlay hrd hwl hlo
 obtain rfl:dV= .none:=Dflts.none hD hdf
 obtain rfl:kV= .none:=Dflts.noKw hD
 obtain⟨a,vs,ns,rfl,rfl,hobj,hints,hlen⟩:=b0d hn hpre hwl
 refine enter_call (codeAny_mono (call w s₀ s₁ mg mb fa o pm cd doc a vs ns G Y ho (fd_plain hd) hcd hmg hobj hints hlen hg) fun r s' hq=>?_)
 obtain⟨rfl,h2,h3,h4⟩:=hq
 exact⟨.inl ⟨.bool true,.bool true,[],rfl,fun _=>rfl,.bool true,b0t l _,fun _=>⟨List.Pairwise.nil,fun _ hm=>(nomatch hm)⟩⟩,h2,h3,h4⟩
section
variable{prog:Program}{w:World}{A:Around}{E:Value->Shared->Prop}{s:Shared}{K:Frag}
end
end Att
namespace L2
open PySem PySem.Spec PyProof.Rows
theorem a6t:∀{vs:List Value}{ns:List Int},IntsAre vs ns->W5 (ns.map V.int) vs
 | _,_,.nil=> .nil
 | _,_,.cons n t h=> .cons ⟨t,rfl⟩ (a6t h)
noncomputable def b4W (H:Hp):Prop:=∀b,H b=none\/∃o xs,H b=some (.frz o (.lst xs))
theorem b1U{P:Program}{w:World}{K:PySem.W.Frag}{mg mb:Str->Option Value}{CX:CXT}{k:Nat}{fa a:Addr}{fd:FuncData}{x:Str}{sp:Sp}{s₁:Shared}{vs:List Value}{ns:List Int}
  (KX:K.In s₁.heap)(hns:s₁.heap.Ns mainGlobals mg)(hb:s₁.heap.Ns builtinsNs mb)(hbb:∀x:Str,x≠ "__name__" ->mb x=bootBuiltins x)(hlim:s₁.heap.NoLimit)(hg:s₁.gens= #[])
  (ha:s₁.heap.get? a=some {cls:= .type "list",data:= .seq vs.toArray})(hi:IntsAre vs ns)(hl:ns.length<=sizeLine)(hr:a1L k callerA)
  (F:∀base:Heap,K.In base->base.Ns mainGlobals mg->a5I P w K mg base CX k fa fd [x] sp)(hbind:∀(s:Shared)(u:Value),BindsTo s fd ⟨[u],[]⟩ [(x,u)])
  (hsp:∀H:Hp,b4W H->SqL K H a (ns.map V.int)->sp [.ref a] H (fun v _=>v= .bl true) fun _ _ _=>False)
  (hCX:∀H e s',CX [] H s₁ (fun _ _ _=>False) e s'->False):
  codeAny (model P w) callerA (.call (.ref fa) ⟨[.ref a],[]⟩) (fun r s'=>r= .ok (.ret (.bool true))/\OldK s₁.heap s'.heap/\s'.os=s₁.os/\AllBare s'.gens) s₁:=by
 have rv:=a6t hi
 have lenV:=hi.length
 have core:∀H:Hp,b4W H->SqL K H a (ns.map V.int)->HOk P w H s₁.heap->(∀b,H b≠none->b=a)->(H a≠none->K.lookup a=none)->
   codeAny (model P w) callerA (.call (.ref fa) ⟨[.ref a],[]⟩) (fun r s'=>r= .ok (.ret (.bool true))/\OldK s₁.heap s'.heap/\s'.os=s₁.os/\AllBare s'.gens) s₁:=by
  intro H hO hS hok hA hK
  have base_of:∀{b:Addr}{o:Obj},s₁.heap.get? b=some o->H b=none->(a6G s₁.heap H).get? b=some o:=fun e n=>b1x e n
  have noA:∀{b:Addr}{o:Obj}{es:Array DictEntry}{ep:Nat},s₁.heap.get? b=some o->o.data= .dict es ep->H b=none:=fun{b o es ep}e d=>by
   cases q:H b with
   | none=>rfl
   | some u=>
    have e':b=a:=hA b (by rw[q];simp)
    subst e'
    rw[ha]at e;cases e
    have d':Data.seq vs.toArray _=Data.dict es ep:=d
    cases d'
  have nsK:∀{b:Addr}{m:Str->Option Value},s₁.heap.Ns b m->(a6G s₁.heap H).Ns b m:=fun{b m}⟨o,es,ep,e,d,r⟩=>⟨o,es,ep,base_of e (noA e d),d,r⟩
  have hKb:K.In (a6G s₁.heap H):=fun b o e=>base_of (KX b o e) (by
   cases q:H b with
   | none=>rfl
   | some u=>
    have e':b=a:=hA b (by rw[q];simp)
    subst e'
    rw[hK (by rw[q];simp)]at e;cases e)
  have hM:Mod K mg (a6G s₁.heap H):=⟨hKb,nsK hns,⟨mb,nsK hb,hbb⟩,let⟨mc,h1,h2⟩:=hlim;⟨mc,nsK h1,h2⟩⟩
  have e0:b2U P w K mg (a6G s₁.heap H) callerA [] s₁ H:=⟨rfl,hM,fun b o e=>b3d e,Nat.le_of_eq (b0p _ _),trivial,fun b hb=>absurd (show b∈([]:List Addr)from hb) (by simp),hok,.of_eq hg⟩
  refine codeAny_mono ((F _ hKb (nsK hns)).run callerA [] s₁ H ⟨[.ref a],[]⟩ [.ref a] [.ref a] _ _ hr e0 (hbind s₁ (.ref a)) (.cons rfl .nil) (hsp H hO hS)) fun r s' h=>?_
  cases r with
  | error e=>exact(hCX H e s' h).elim
  | ok fl=>
   cases fl with
   | next=>exact False.elim h
   | brk=>exact False.elim h
   | cont=>exact False.elim h
   | ret u=>
    obtain⟨v,H',os,bare,un,hok',r',q⟩:=h
    have q':v= .bl true:=q
    subst q'
    obtain rfl:u=Value.bool true:=r'
    refine⟨rfl,OldK.of_keep fun b o e=>?_,os,bare⟩
    cases q:H b with
    | none=>exact un.keep b o e q (by intro z;exact absurd (show b∈([]:List Addr)from z) (by simp)) (by simp)
    | some u=>
     rcases hO b with z | ⟨ob,xs,z⟩
     ·rw[q]at z;cases z
     ·have z2:=un.frzs b ob _ z
      obtain⟨e1,_⟩:=hok b _ z
      obtain⟨e2,_⟩:=hok' b _ z2
      rw[e]at e1;cases e1
      exact e2
 cases hk:K.lookup a with
 | some o=>
  have e:=KX a o hk
  rw[ha]at e
  cases e
  refine core (fun _=>none) (fun _=> .inl rfl) (.inr ⟨_,vs.toArray,_,hk,rfl,rfl,rfl,by rw[List.size_toArray,lenV];exact hl,by simpa using rv⟩) (fun b u z=>by have z':(none:Option HO)=some u:=z;cases z') (fun b z=>absurd rfl z) fun z=>absurd rfl z
 | none=>
  refine core (fun b=>if b=a then some (.frz {cls:= .type "list",data:= .seq vs.toArray} (.lst (ns.map V.int)))else none) (fun b=>?_) (.inl (.inr ⟨{cls:= .type "list",data:= .seq vs.toArray},if_pos rfl⟩)) (fun b u z=>?_) (fun b z=>?_) fun _=>hk
  ·by_cases hb:b=a
   ·exact .inr ⟨_,_,if_pos hb⟩
   ·exact .inl (if_neg hb)
  ·by_cases hb:b=a
   ·have z':=(if_pos hb).symm.trans z
    cases z'
    subst hb
    exact⟨ha,by rw[List.length_map];exact hl,vs,_,rv,ha⟩
   ·have z':=(if_neg hb).symm.trans z
    cases z'
  ·by_cases hb:b=a
   ·exact hb
   ·exact absurd (if_neg hb) z
end L2
namespace L2
open PySem PySem.Spec PyProof.Rows
noncomputable abbrev KOf {K:PySem.W.Frag} {h:Heap} (_:K.In h):PySem.W.Frag:=K
theorem b3y{l:PySem.W.OpenLaw}{n k:Nat}{q:Program}{loose:List Str}{XP:(Str->Option Value)->Heap->Prop}{YP:World->Heap->Prop}{d:DefRec}{K:Params->PySem.W.Frag}{CX:World->CXT}{sp:World->Sp}{x:Str}
  (hn:l.most=some n)(hn2:n<=sizeLine)(hdf:d.params.defaults=[])(hr:a1L k callerA)
  (hY:∀(w:World)(h:Heap),YP w h->(K w.params).In h)
  (F:∀(w:World)(mg:Str->Option Value)(fa:Addr)(h:Heap),(K w.params).In h->h.Ns mainGlobals mg->mg d.name=some (.ref fa)->
   ∃fd:FuncData,(∀(s:Shared)(u:Value),BindsTo s fd ⟨[u],[]⟩ [(x,u)])/\
    ∀base:Heap,(K w.params).In base->base.Ns mainGlobals mg->a5I l.prog w (K w.params) mg base (CX w) k fa fd [x] (sp w))
  (hsp:∀(w:World)(H:Hp)(a:Addr)(ns:List Int),ns.length<=n->b4W H->SqL (K w.params) H a (ns.map V.int)->sp w [.ref a] H (fun v _=>v= .bl true) fun _ _ _=>False)
  (hCX:∀(w:World)(H:Hp)(s:Shared)(e:Value)(s':Shared),CX w [] H s (fun _ _ _=>False) e s'->False):
  PySem.W.WalkO q loose XP YP l.row.toRowW d [] (fun f vs=>PySem.call f vs):=by
 refine Att.a7q hn hdf fun w s₀ s₁ mg mb fa o pm cd doc a vs ns G Y ho hd hcd hmg hobj hints hlen hg=>?_
 have KX:=hY w _ Y
 obtain⟨fd,hb,hF⟩:=F w mg fa _ KX G.T.g hmg
 exact b1U KX G.T.g G.T.b G.T.builtins G.T.nolimit hg hobj hints (Nat.le_trans hlen hn2) hr hF hb (fun H hO hS=>hsp w H a ns hlen hO hS) fun H e s'=>hCX w H s₁ e s'
end L2
namespace L2
open PySem PySem.Spec PyProof.Rows
noncomputable def a1j (s:Stmt):Arguments:=match s with
 | .FunctionDef _ a _ _ _ _ _ _ _ _=>a
 | _=>{posonlyargs:=[],args:=[],vararg:=none,kwonlyargs:=[],kw_defaults:=[],kwarg:=none,defaults:=[]}
noncomputable def a0x (s:Stmt):List Stmt:=match s with
 | .FunctionDef _ _ b _ _ _ _ _ _ _=>b
 | _=> []
noncomputable def J3 (s:Stmt):Scope:=match s with
 | .FunctionDef _ _ _ _ _ _ sc _ _ _=>sc
 | _=>{kind:= .function,names:=[],isGenerator:=false,isCoroutine:=false}
noncomputable abbrev CX0:CXT:=fun _ _ _ _ _ _=>False
noncomputable abbrev E0:XK:=fun _ _ _=>False
theorem b5T{X:Cx}:a8R CX0 X E0:=fun _ _ _ _ _ _ _ h=>h.elim
structure Fun(K:PySem.W.Frag)(x qual:Str)(st:Stmt)(f:Addr)(fd:FuncData):Prop where
 ex:∃(oc:Value)(od:Option Addr)(kV doc pm:Value)(an:Option Addr)(cdv ct:Value)(osl:Array (Option Value)),
  fd=PySem.W.fnOf x qual (a1j st) (a0x st) (J3 st) .none kV doc pm an cdv ct/\K.lookup f=some ⟨oc,od,.func fd,osl⟩/\PySem.W.codeIn K cdv qual=true
 kp:PySem.W.keepIn K (.ref f)=true
section
variable{P:Program}{w:World}{K:PySem.W.Frag}{mg:Str->Option Value}{base:Heap}
theorem Fun.ok{x qual:Str}{st:Stmt}{f:Addr}{fd:FuncData}{N ps:List Str}{k:Nat}{sp:Sp}(F:Fun K x qual st f fd)(S:U1 N ps (J3 st))(len:∀vs H Q E,sp vs H Q E->vs.length=ps.length)
  (hbody:∀(cdv:Value)(A:Around)(outer:List Env)(s:Shared)(H:Hp)(vs:List V)(Q:VK)(E:XK),a1L k (A.deeper (envOfC qual (J3 st) s.heap.objs.size f cdv))->sp vs H Q E->
   ∃t,PSs (a8m CX0 P w K mg base N qual (J3 st) f cdv A outer s H E).nox (a0x st) t/\t {nx:=fun _ H'=>Q .non H',rt:=Q} (a3K N vs) H):a5I P w K mg base CX0 (k+1) f fd ps sp:=by
 obtain⟨oc,od,kV,doc,pm,an,cdv,ct,osl,rfl,lk,hcd⟩:=F.ex
 refine b5r lk hcd S len fun A outer s H vs Q E hr hsp=>?_
 obtain⟨t,h,q⟩:=hbody cdv A outer s H vs Q E hr hsp
 exact⟨t,h.nox,q⟩
theorem Fun.binds{x qual:Str}{st:Stmt}{f:Addr}{fd:FuncData}{ps:List Str}(F:Fun K x qual st f fd)
  (h:∀(kV doc pm:Value)(an:Option Addr)(cdv ct:Value)(us:List Value),us.length=ps.length->bindArgs (PySem.W.fnOf x qual (a1j st) (a0x st) (J3 st) .none kV doc pm an cdv ct) ⟨us,[]⟩=pure (ps.zip us)):a6n K fd ps []:=by
 obtain⟨oc,od,kV,doc,pm,an,cdv,ct,osl,rfl,lk,hcd⟩:=F.ex
 exact .all (h kV doc pm an cdv ct)
theorem b2y{x qual:Str}{st:Stmt}{f:Addr}{oc:Value}{od an:Option Addr}{osl:Array (Option Value)}{kV doc pm cdv ct:Value}(l:K.lookup f=some ⟨oc,od,.func (PySem.W.fnOf x qual (a1j st) (a0x st) (J3 st) .none kV doc pm an cdv ct),osl⟩)
  (c:PySem.W.codeIn K cdv qual=true)(k:PySem.W.keepIn K (.ref f)=true):Fun K x qual st f (PySem.W.fnOf x qual (a1j st) (a0x st) (J3 st) .none kV doc pm an cdv ct):=⟨⟨oc,od,kV,doc,pm,an,cdv,ct,osl,rfl,l,c⟩,k⟩
end
theorem D4{A:Around}{k:Nat}(hr:a1L k A):A.units+1 < cLine:=Nat.lt_of_le_of_lt (Nat.add_le_add_left (by decide:1<=64) _) hr.units
theorem J6{n:Nat}(h:n<=1000):n < sizeLine:=Nat.lt_of_le_of_lt h (by decide)
section
variable{X:Cx}
theorem pv(i:Nat){x:Str}{pos:Pos}(hN:X.N[i]?=some x:=by rfl)(hv:Vis X.env.scope x:=by first | exact Or.inl rfl | exact Or.inr (Or.inl rfl) | exact Or.inr (Or.inr rfl))(hd:(x==("__debug__":Str))=false:=by decide)
  (hcd:(x==("__classdict__":Str))=false:=by decide):PE X (.Name x pos) (b5w i):=b4N hN hv hd hcd
end
theorem F6{A B:Prop}(h:B):if false=true then A else B:=by
 rw[if_neg Bool.false_ne_true]
 exact h
theorem B9{A B:Prop}(h:A):if true=true then A else B:=by
 rw[if_pos rfl]
 exact h
theorem a4Y{c A B:Prop}[Decidable c](h1:c->A)(h2:¬c->B):if c then A else B:=by
 by_cases h:c
 ·rw[if_pos h]
  exact h1 h
 ·rw[if_neg h]
  exact h2 h
theorem a4P{c A B:Prop}[Decidable c](hc:c)(h:B):if(!decide c)=true then A else B:=by
 rw[decide_eq_true hc]
 exact F6 h
noncomputable def G6 (H H':Hp):Prop:=∀b o,H b=some o->H' b=some o
theorem G6.refl(H:Hp):G6 H H:=fun _ _ h=>h
theorem G6.trans{H H1 H2:Hp}(a:G6 H H1)(b:G6 H1 H2):G6 H H2:=fun c o h=>b c o (a c o h)
theorem G6.free{H H':Hp}(e:G6 H H'){l:Addr}(h:H' l=Option.none):H l=Option.none:=by
 cases q:H l with
 | none=>rfl
 | some o=>
  rw[e l o q]at h
  cases h
theorem G6.seq{K:PySem.W.Frag}{H H':Hp}{a:Addr}{xs:List V}(e:G6 H H')(h:SqL K H a xs):SqL K H' a xs:=by
 rcases h with(h | ⟨o,h⟩) | h
 ·exact .inl (.inl (e _ _ h))
 ·exact .inl (.inr ⟨o,e _ _ h⟩)
 ·exact .inr h
end L2
set_option maxHeartbeats 16000000
namespace L2
open PySem PySem.Spec PyProof.Rows
section
variable{X:Cx}{pins:List (Addr×Obj)}{σ:List (Option V)}{H:Hp}{s:Shared}{h':Heap}
theorem Inv.turnedL{t':Nat}{ch:List Addr}(I:Inv X pins σ H s)(k:∀b o,b∉ch->s.heap.get? b=some o->h'.get? b=some o)(hf:∀b∈ch,a3l X pins H b):
  Inv X pins σ H {s with heap:=h',toks:=t'}:=by
 have nit:∀b u,H b=some u->b∉ch:=fun b u e z=>by rw[(hf b z).1]at e;cases e
 refine I.step (g':=s.gens) (d':=s.drawn) (ch:=ch) (fun b hb=>?_) (fun b o _ _ hc e _=>k b o hc e) (fun b o _ _ hc e _=>⟨o.slots,k b o hc e⟩) (fun _ _ _ _ n=>n)
  (fun b o hc e=>⟨o,k b o hc e⟩) (fun _ _ e=>e) (fun _ _ _ e=>e) (fun b ps e=>⟨#[],by rw[e];simp⟩) (fun m hm=>?_) (fun b u e=>?_) I.bare
 ·obtain⟨_,h1,_,h2,h3,h4⟩:=hf b hb
  exact⟨h2,h1,h3,h4⟩
 ·obtain⟨o,es,ep,ho,r⟩:=hm
  exact⟨o,es,ep,k _ o (fun z=>(hf _ z).2.1 rfl) ho,r⟩
 ·refine(I.hok b u e).stay (fun c v hc q=>k c v ?_ q) (fun _ q=>q) fun _ _ q=>q
  rcases hc with z | z
  ·rw[z];exact nit b u e
  ·exact nit c _ z
theorem Inv.track{T:Addr}{o:HO}(I:Inv X pins σ H s)(hf:a3l X pins H T)(new:Z7 X.prog X.w (upd H T o) s.heap T o):Inv X pins σ (upd H T o) s:=by
 obtain⟨h0,h1,h5,h2,h3,h4⟩:=hf
 have nT:∀b u,H b=some u->b≠T:=fun b u e z=>by rw[z,h0]at e;cases e
 refine I.step (h':=s.heap) (g':=s.gens) (d':=s.drawn) (t':=s.toks) (ch:=[T]) (fun b hb=>?_) (fun b o _ _ hc e _=>e) (fun b o _ _ hc e _=>⟨o.slots,e⟩)
  (fun b o hc _ n=>by rw[G8 (fun z=>hc (by simp[z]))];exact n)
  (fun b o hc e=>⟨o,e⟩) (fun b xs e=>by rw[G8 (nT _ _ e)];exact e) (fun b ob u e=>by rw[G8 (nT _ _ e)];exact e) (fun b ps e=>⟨#[],by rw[G8 (nT _ _ e),e];simp⟩) (fun m hm=>hm) (fun b u e=>?_) I.bare
 ·have e:b=T:=by simpa using hb
  subst e
  exact⟨h2,h1,h3,h4⟩
 ·by_cases hb:b=T
  ·subst hb;rw[G1]at e;cases e;exact new
  ·rw[G8 hb]at e
   exact(I.hok b u e).stay (fun c v _ q=>q) (fun c q=>by rw[G8 (nT _ _ q)];exact q) fun c xs q=>by rw[G8 (nT _ _ q)];exact q
end
section
variable{X:Cx}
theorem E9:a1o X (.builtin "isinstance") (fun xs H Q=>∃x t T b,xs=[x,.ty T]/\a3Z X.K H x t/\PySem.W.kitOne X.K t (.type T)=some b/\Q (.bl b) H):=by
 intro pins s σ H xs us Q I r h
 obtain⟨x,t,T,b,rfl,ty,e,q⟩:=h
 obtain⟨u,w',rfl,rx,ry⟩:=b1X r
 cases(show w'=Value.type T from ry)
 exact a9W I rx ty e fun tk=>⟨.bl b,H,I.tok _,rfl,q⟩
theorem a7O:∀{x:V},a0Z x=true->eqV x x=true
 | .non,_=>by rfl
 | .bl b,_=>by simp[eqV]
 | .int i,_=>by simp[eqV]
 | .str z,_=>by simp[eqV]
 | .byt _,h=>by first | exact absurd (show false=true from h) Bool.false_ne_true | simp[eqV]
 | .flt _,h=>by first | exact absurd (show false=true from h) Bool.false_ne_true | simp[eqV]
 | .ref _,h=>by first | exact absurd (show false=true from h) Bool.false_ne_true | simp[eqV]
 | .ty _,h=>by first | exact absurd (show false=true from h) Bool.false_ne_true | simp[eqV]
end
end L2
namespace ET
open PySem PySem.Spec
open PySem.AutoSeq1 (wpAny_loadPart')
section
variable{prog:Program}{w:World}{A:Around}{E:Value->Shared->Prop}{s:Shared}
theorem a3N{it l:Addr}{i:Nat}{items:Array Value}{x:Value}{Q:Value->Shared->Prop}(hit:s.heap.IsTupleIter it l i)
  (hl:s.heap.IsTuple l items)(hx:items[i]?=some x)
  (hQ:∀h',h'.IsTupleIter it l (i+1)->Heap.SameBut it s.heap h'->Q x {s with heap:=h'}):
  wpAny (model prog w) A (Builtin.SmallTypes.nextOf (.ref it)) Q E s:=by
 obtain⟨o,ho,hc,hd⟩:=id hit
 obtain⟨ol,hol,_,nl,hdl⟩:=hl
 unfold Builtin.SmallTypes.nextOf
 refine wpAny_bind (wpAny_callSpecial?_slot (name:=Str.ofString "__next__") hit.typeIs F.slot_tuple_iterator_next
  (wpAny_call_entry F.slot_tuple_iterator_next hit.typeIs F.entry_tuple_iterator_next ?_ (F.args_tuple_iterator_next_1 _)))
 show wpAny _ _ (field (.ref it) 0 >>= _) _ _ s
 refine wpAny_bind (wpAny_field ho hd (x:= .ref l) rfl ?_)
 show wpAny _ _ (if(Value.ref l==Value.none)=true then _ else _) _ _ s
 rw[if_neg (show¬((Value.ref l==Value.none)=true)from Bool.false_ne_true)]
 show wpAny _ _ (field (.ref it) 1 >>= _) _ _ s
 refine wpAny_bind (wpAny_field ho hd (x:= .int i 0) rfl ?_)
 show wpAny _ _ (seqItems? (.ref l) >>= _) _ _ s
 refine wpAny_bind (wpAny_seqItems hol hdl ?_)
 simp only[Int.toNat_natCast,hx]
 refine wpAny_bind (wpAny_setField ho hd (by simp) (wpAny_pure ⟨x,rfl,wpAny_pure (hQ _ ?_ (Heap.SameBut.update ..))⟩))
 exact⟨_,Heap.get?_update_self _ ho (Obj.isFreed_of_fields (Obj.data_mapFields hd _)),(Obj.cls_mapFields ..).trans hc,by
  rw[Obj.data_mapFields hd];simp[rawInt]⟩
theorem a3Y{it l:Addr}{i:Nat}{items:Array Value}{Q:Value->Shared->Prop}(hh:A.handled=none)
  (hit:s.heap.IsTupleIter it l i)(hl:s.heap.IsTuple l items)(hx:items[i]?=none)
  (hE:∀h' e,Heap.ExtBut it s.heap h'->(∃o,h'.get? e=some o/\o.cls= .type "StopIteration")->E (.ref e) {s with heap:=h'}):
  wpAny (model prog w) A (Builtin.SmallTypes.nextOf (.ref it)) Q E s:=by
 obtain⟨o,ho,hc,hd⟩:=id hit
 obtain⟨ol,hol,_,nl,hdl⟩:=hl
 unfold Builtin.SmallTypes.nextOf
 refine wpAny_bind (wpAny_callSpecial?_slot (name:=Str.ofString "__next__") hit.typeIs F.slot_tuple_iterator_next
  (wpAny_call_entry F.slot_tuple_iterator_next hit.typeIs F.entry_tuple_iterator_next ?_ (F.args_tuple_iterator_next_1 _)))
 show wpAny _ _ (field (.ref it) 0 >>= _) _ _ s
 refine wpAny_bind (wpAny_field ho hd (x:= .ref l) rfl ?_)
 show wpAny _ _ (if(Value.ref l==Value.none)=true then _ else _) _ _ s
 rw[if_neg (show¬((Value.ref l==Value.none)=true)from Bool.false_ne_true)]
 show wpAny _ _ (field (.ref it) 1 >>= _) _ _ s
 refine wpAny_bind (wpAny_field ho hd (x:= .int i 0) rfl ?_)
 show wpAny _ _ (seqItems? (.ref l) >>= _) _ _ s
 refine wpAny_bind (wpAny_seqItems hol hdl ?_)
 simp only[Int.toNat_natCast,hx]
 refine wpAny_bind (wpAny_rule (wpAny_bind (wpAny_setField ho hd (by simp) ?_)))
 show wpAny _ _ (newExc (.type "StopIteration") [] >>= _) _ _ _
 refine wpAny_bind ?_
 simp only[newExc,newTuple]
 refine wpAny_bind (wpAny_newObj_type ?_ (by size_fits))
 refine wpAny_bind (m:=firstArgMember _ _) (wpAny_of_eq (a:=Value.none) (by first | rfl | (simp only[firstArgMember];rfl)) ?_)
 refine wpAny_newObj_type ?_ (by size_fits)
 simp only[raiseNew]
 refine wpAny_bind (wpAny_handled ?_)
 first | rw[show A.in1.handled=none from hh] | rw[hh]
 refine wpAny_bind (wpAny_pure (wpAny_throw ?_))
 exact hE _ _ (((Heap.SameBut.update ..).extBut.push _).push _) ⟨_,Heap.get?_push_size _ rfl,rfl⟩
end
theorem a4u{prog:Program}{w:World}{A:Around}(hh:A.handled=none)(it l:Addr)(hne:l≠it)(items:Array Value):
  Draws prog w A it [it,l] items.size (fun i v=>items[i]?=some v) (fun i h=>h.IsTupleIter it l i/\h.IsTuple l items)where
 live:=fun _ _ st=>let⟨o,ho,_⟩:=st.1;⟨o,ho⟩
 frame:=fun _ _ _ st hk=>⟨let⟨o,ho,r⟩:=st.1;⟨o,hk it (by simp) o ho,r⟩,let⟨o,ho,r⟩:=st.2;⟨o,hk l (by simp) o ho,r⟩⟩
 item:=fun i s Q E hi st hQ=>by
  refine a3N st.1 st.2 (x:=items[i]) (by simp[hi]) fun h' hit' hs'=>?_
  exact hQ _ h' s.toks (by simp[hi]) ⟨hit',st.2.extBut hs'.extBut hne⟩ hs'
 done:=fun s Q E st hE=>a3Y hh st.1 st.2 (by simp) hE
theorem a2j(l:Addr)(items:Array Value)(n:Nat)(dct:Option Addr)(sl:Array (Option Value)):
  Meets (Builtin.«enumerate.__new__» ⟨[.type "enumerate",.ref l],[]⟩) (fun _ R s=>s.heap.get? l=some {cls:= .type "tuple",dict:=dct,data:= .seq items n,slots:=sl}/\
   R (.ok (.ret (.ref (s.heap.push {cls:= .type "tuple_iterator",data:= .fields #[.ref l,.int 0 0]}).objs.size)))
    {s with heap:=(s.heap.push {cls:= .type "tuple_iterator",data:= .fields #[.ref l,.int 0 0]}).push {cls:= .type "enumerate",data:= .fields #[.none,.bool false,.ref s.heap.objs.size,rawInt 0,.none,.none]}}):=
 .of_wp fun prog w A R s h=>by
  obtain⟨hp,g,d,tk,os⟩:=s;obtain⟨hl,h⟩:=h
  have hsub:=sub_enumerate
  have hL:Heap.IsTuple (Shared.heap ⟨hp,g,d,tk,os⟩) l items:=⟨_,hl,rfl,n,rfl⟩
  wp_walk using wpAny_loadPart' hl
  refine wpAny_stack_any fun st=>wpAny_pure ?_
  split
  ·rename_i c _ _ _ _ _
   cases(c==Value.type "enumerate")
   ·wp_walk using wpAny_loadPart' hl,wpAny_pyIter_tuple hL
    exact⟨_,rfl,h⟩
   ·wp_walk using wpAny_loadPart' hl,wpAny_pyIter_tuple hL
    exact⟨_,rfl,h⟩
  ·wp_walk using wpAny_loadPart' hl,wpAny_pyIter_tuple hL
   exact⟨_,rfl,h⟩
theorem a2A{prog:Program}{w:World}{A:Around}{E:Value->Shared->Prop}{s:Shared}{l:Addr}{items:Array Value}{Q:Value->Shared->Prop}(hL:s.heap.IsTuple l items)
  (h:∀h',IsEnum h' (s.heap.objs.size+1) s.heap.objs.size 0 .none->h'.IsTupleIter s.heap.objs.size l 0->h'.objs.size=s.heap.objs.size+2->
   (∀b o,s.heap.get? b=some o->h'.get? b=some o)->Q (.ref (s.heap.objs.size+1)) {s with heap:=h'}):
  wpAny (model prog w) A (call (.type "enumerate") [.ref l]) Q E s:=by
 obtain⟨⟨c,dct,dt,sl⟩,hl,hc,n,hd⟩:=hL
 replace hc:c= .type "tuple":=hc
 replace hd:dt= .seq items n:=hd
 subst hc hd
 refine callType_new F.called_enumerate (by decide) (F.typeCall_enumerate_1 _) (F.newCall_enumerate_1 _) (fun obj=>F.args_object_init_2 obj _) F.entry_enumerate_new
  (a2j l items n dct sl) ⟨hl,?_⟩
 have hz:(s.heap.push {cls:= .type "tuple_iterator",data:= .fields #[.ref l,.int 0 0]}).objs.size=s.heap.objs.size+1:=Heap.size_push ..
 show _/\_
 rw[hz]
 have he:IsEnum ((s.heap.push {cls:= .type "tuple_iterator",data:= .fields #[.ref l,.int 0 0]}).push
   {cls:= .type "enumerate",data:= .fields #[.none,.bool false,.ref s.heap.objs.size,rawInt 0,.none,.none]}) (s.heap.objs.size+1) s.heap.objs.size 0 .none:=by
  have:=Heap.get?_push_size (s.heap.push {cls:= .type "tuple_iterator",data:= .fields #[.ref l,.int 0 0]})
   (o:={cls:= .type "enumerate",data:= .fields #[.none,.bool false,.ref s.heap.objs.size,rawInt 0,.none,.none]}) rfl
  rw[hz]at this;exact this
 refine⟨⟨_,he,rfl⟩,h _ he ⟨_,Heap.get?_push_of_some _ (Heap.get?_push_size _ rfl),rfl,rfl⟩ (by rw[Heap.size_push,hz]) fun b o x=>Heap.get?_push_of_some _ (Heap.get?_push_of_some _ x)⟩
end ET
namespace L2
open PySem PySem.Spec PyProof.Rows
noncomputable def Ite (K:PySem.W.Frag) (a:Addr):It:=
 ⟨fun i H=>∃xs x,SqT K H a xs/\xs[i]?=some x,
   fun i H x H'=>∃p v,(∀xs,SqT K H a xs->xs[i]?=some v)/\H p=none/\x= .ref p/\H'=upd H p (.tup [.int i,v]),
   fun i H=>∃xs,SqT K H a xs/\xs.length=i⟩
theorem a8M{P:Program}{w:World}{K:PySem.W.Frag}{elts:List Expr}{k:Nat}{pos:Pos}(a e it:Addr)(hei:e≠it):
  a7Q P w K (.Tuple elts k pos) (Ite K a) [e,it] e (fun i h=>(∃old,IsEnum h e it i old)/\h.IsTupleIter it a i)where
 mem:=by simp
 obj:=fun i h st b hb=>by
  obtain⟨⟨old,he⟩,o,ho,hc,hd⟩:=st
  rcases List.mem_cons.mp hb with z | hb
  ·subst z
   exact⟨_,he,fun v z=>by
    have z':Data.fields _=Data.cell v:=z
    cases z'⟩
  ·obtain z:=List.mem_singleton.mp hb
   subst z
   exact⟨o,ho,fun v z=>by rw[hd]at z;cases z⟩
 keep:=fun i h h' st kk=>by
  obtain⟨⟨old,he⟩,o,ho,r⟩:=st
  exact⟨⟨old,kk e (by simp) _ he⟩,o,kk it (by simp) o ho,r⟩
 item:=by
  intro X hP hw hK hc i pins s σ H E I hf st hg
  subst hP hw hK
  obtain⟨xs,x,hq,hx⟩:=hg
  obtain⟨its,rv,p,hz⟩:=I.tuple hq
  obtain⟨u,hu,ru⟩:=rv.get hx
  obtain⟨⟨old,he⟩,hit⟩:=st
  have ht:s.heap.IsTuple a its.toArray:=p
  have hai:a≠it:=by
   intro z
   obtain⟨o,ho,hc1,_⟩:=id hit
   obtain⟨o2,ho2,hc2,_⟩:=id ht
   rw[z,ho]at ho2
   cases ho2
   rw[hc1]at hc2
   exact absurd hc2 (by decide)
  have hae:a≠e:=by
   intro z
   obtain⟨o2,ho2,hc2,_⟩:=id ht
   have he':=he
   unfold IsEnum at he'
   rw[z,he']at ho2
   cases ho2
   exact absurd (show Value.type "enumerate"=Value.type "tuple" from hc2) (by decide)
  have D:=ET.a4u (prog:=X.prog) (w:=X.w) (A:=X.A.in1) (show X.A.in1.handled=none from I.ok.hd hc) it a hai its.toArray
  have hef:e∉ [it,a]:=by
   intro z
   rcases List.mem_cons.mp z with z | z
   ·exact hei z
   ·exact hae (List.mem_singleton.mp z).symm
  have W:=WalksT.enumerateD D e hei hef (by simp)
  have hlt:i < its.toArray.size:=by
   have h1:=(List.getElem?_eq_some_iff.mp hu).1
   simpa using h1
  refine W.item i s _ _ hlt ⟨⟨old,he⟩,hit,ht⟩ fun T vals h' tk hP hT hTup hM hk=>?_
  obtain⟨t,y,hy,rfl⟩:=hP
  have ey:y=u:=by
   have:its[i]?=some y:=by simpa using hy
   rw[hu]at this
   exact(Option.some.inj this).symm
  subst ey
  have I1:Inv X pins σ H {s with heap:=h',toks:=tk}:=I.turnedL (ch:=[e,it]) hk hf
  have hHT:H T=none:=I.hok.fresh hT
  have fT:a3l X pins H T:=I.fpOk hT hHT
  refine⟨_,rfl,?_⟩
  refine W.go elts k pos i T {s with heap:=h',toks:=tk} _ _ hM fun h2 st2 hk2=>?_
  have I2':=I1.turnedL (h':=h2) (t':=tk) (ch:=[e,it]) hk2 hf
  have I2:Inv X pins σ H {s with heap:=h2,toks:=tk}:=I2'
  have hT2:h2.IsTuple T #[.int i t,y]:=by
   obtain⟨o,ho,r⟩:=hTup
   exact⟨o,hk2 T o (W.apart i T h' hM) ho,r⟩
  have I3:Inv X pins σ (upd H T (.tup [.int i,x])) {s with heap:=h2,toks:=tk}:=
   I2.track fT ⟨by show 2<=sizeLine;decide,[.int i t,y],.cons ⟨t,rfl⟩ (.cons ru .nil),hT2⟩
  refine⟨.ref T,_,I3,rfl,⟨T,x,fun ys hy'=>by rw[I.tuple_inj hy' hq];exact hx,hHT,rfl,rfl⟩,⟨by simpa using st2.1,st2.2.1⟩,fun b hb=>?_⟩
  rw[G8 (fun z=>W.apart i T h' hM (by rw[<-z];exact hb))]
  exact(hf b hb).1
 done:=by
  intro X hP hw hK hc i pins s σ H E I hf st hg
  subst hP hw hK
  obtain⟨xs,hq,hx⟩:=hg
  obtain⟨its,rv,p,hz⟩:=I.tuple hq
  obtain⟨⟨old,he⟩,hit⟩:=st
  have ht:s.heap.IsTuple a its.toArray:=p
  have hai:a≠it:=by
   intro z
   obtain⟨o,ho,hc1,_⟩:=id hit
   obtain⟨o2,ho2,hc2,_⟩:=id ht
   rw[z,ho]at ho2
   cases ho2
   rw[hc1]at hc2
   exact absurd hc2 (by decide)
  have hae:a≠e:=by
   intro z
   obtain⟨o2,ho2,hc2,_⟩:=id ht
   have he':=he
   unfold IsEnum at he'
   rw[z,he']at ho2
   cases ho2
   exact absurd (show Value.type "enumerate"=Value.type "tuple" from hc2) (by decide)
  have D:=ET.a4u (prog:=X.prog) (w:=X.w) (A:=X.A.in1) (show X.A.in1.handled=none from I.ok.hd hc) it a hai its.toArray
  have hef:e∉ [it,a]:=by
   intro z
   rcases List.mem_cons.mp z with z | z
   ·exact hei z
   ·exact hae (List.mem_singleton.mp z).symm
  have W:=WalksT.enumerateD D e hei hef (by simp)
  have hl:=rv.length
  have hn:i=its.toArray.size:=by simp;omega
  refine W.done s _ _ ⟨⟨old,by rw[<-hn];exact he⟩,by rw[<-hn];exact hit,ht⟩ fun h' tk hk=>⟨rfl,?_⟩
  exact I.turnedL (ch:=[e,it]) hk hf
 self:=fun _ _ _ _ _ st h=>by
  obtain⟨⟨old,he⟩,_⟩:=st
  exact wpAny_pyIter_enum he h
section
variable{X:Cx}{elts:List Expr}{k:Nat}{tpos:Pos}
noncomputable def b5h (K:PySem.W.Frag) (ta:TA):TI:=fun σ H R=>ta σ H fun vs H1=>∃a,vs=[.ref a]/\(∃xs,SqT K H1 a xs)/\R (Ite K a) H1
theorem a5i{a:Expr}{ta:TA}{p pos:Pos}(hg:Gl X "enumerate")(hm:X.mg "enumerate"=none)(ha:PA X [a] ta)(hs:starEach [a] X.env=[(false,eval a X.env)]:=by rfl):
  PI X (.Tuple elts k tpos) (.Call (.Name "enumerate" p) [a] [] pos) (b5h X.K ta):=by
 intro pins s σ H R I h
 refine Call_ (a1b I hg hm boot_enumerate (PyProof.Rows.callWith_type1 (thn (ha pos pins s σ H _ I h) fun us s1⟨vs,H1,I1,r1,q1⟩=>?_) hs rfl))
 obtain⟨a,e,⟨xs,hq⟩,q⟩:=q1
 subst e
 cases r1 with
 | cons r rr=>
  cases rr
  cases r
  obtain⟨its,rv,p,hz⟩:=I1.tuple hq
  refine ET.a2A (show s1.heap.IsTuple a its.toArray from p) fun h' he hit hsz hk=>?_
  have I2:Inv X pins σ H1 {s1 with heap:=h'}:=I1.kept (t':=s1.toks) hk
  refine wpAny_pyIter_enum he ?_
  refine⟨s1.heap.objs.size+1,[s1.heap.objs.size+1,s1.heap.objs.size],_,_,H1,rfl,I2,a8M a (s1.heap.objs.size+1) s1.heap.objs.size (Nat.succ_ne_self _),⟨⟨_,he⟩,hit⟩,fun b hb=>?_,q⟩
  have hb':s1.heap.objs.size<=b:=by
   rcases List.mem_cons.mp hb with z | z
   ·rw[z];exact Nat.le_succ _
   ·rw[List.mem_singleton.mp z];exact Nat.le_refl _
  exact I1.fpOk hb' (I1.hok.fresh hb')
end
theorem a7v{K:PySem.W.Frag}{a:Addr}{xs:List V}{g:TG}{tb:TS}{D:a1B}{σ:St}{H:Hp}(Pv:Nat->St->Hp->Prop)(h0:Pv 0 σ H)(hl:∀i σ H,i<=xs.length->Pv i σ H->SqT K H a xs)
  (hs:∀i x p σ H,xs[i]?=some x->Pv i σ H->H p=none->g (.ref p) σ (upd H p (.tup [.int i,x])) fun σ2 H2=>tb {D with nx:=Pv (i+1),ct:=Pv (i+1),bk:=D.nx} σ2 H2)(hd:∀σ H,Pv xs.length σ H->D.nx σ H):
  ∃W:Nat->Nat->St->Hp->Prop,(∃m,W 0 m σ H)/\∀i m σ H,W i m σ H->
   ((Ite K a).stop i H/\D.nx σ H)\/((Ite K a).go i H/\∃N:St->Hp->Prop,(∀σ' H',N σ' H'->∃m',m' < m/\W (i+1) m' σ' H')/\∀x H',(Ite K a).yld i H x H'->g x σ H' fun σ2 H2=>tb {D with nx:=N,ct:=N,bk:=D.nx} σ2 H2):=by
 refine⟨fun i m σ H=>m=xs.length - i/\i<=xs.length/\Pv i σ H,⟨xs.length,by simp,Nat.zero_le _,h0⟩,?_⟩
 rintro i m σ H ⟨rfl,hi,p⟩
 have q:=hl i σ H hi p
 by_cases hlt:i < xs.length
 ·refine .inr ⟨⟨xs,xs[i],q,by simp[hlt]⟩,Pv (i+1),fun σ' H' p'=>⟨xs.length - (i+1),by omega,rfl,hlt,p'⟩,fun x H' y=>?_⟩
  obtain⟨pp,v,y,hn,e1,e2⟩:=y
  subst e1 e2
  exact hs i v pp σ _ (y xs q) p hn
 ·have e:i=xs.length:=by omega
  subst e
  exact .inl ⟨⟨xs,q,rfl⟩,hd σ H p⟩
end L2
namespace L2
open PySem PySem.Spec PyProof.Rows
structure Cl(P:Program)(w:World)(K:PySem.W.Frag)(mg:Str->Option Value)(base:Heap)(k:Nat)(x:Str)(ps:List Str)(sp:Sp):Prop where
 ex:∃f fd,a5I P w K mg base CX0 k f fd ps sp/\mg x=some (.ref f)/\PySem.W.keepIn K (.ref f)=true/\a6n K fd ps []
theorem U9{X:Cx}{j k:Nat}{x:Str}{ps:List Str}{sp:Sp}{e:Expr}{es:List Expr}{t:TA}{p pos:Pos}(C:Cl X.prog X.w X.K X.mg X.base j x ps sp)(hr:a1L k X.A)(hg:Gl X x)(ha:PA X (e::es) t)(hjk:j<=k:=by decide)
  (hdb:(x==("__debug__":Str))=false:=by decide)(he:starEach (e::es) X.env=(false,eval e X.env)::starEach es X.env:=by rfl)(hpl:(backTo pos (starEach es X.env)).any (·.1)=false:=by rfl):
  PE X (.Call (.Name x p) (e::es) [] pos) (b3Y sp [] E0 t):=by
 obtain⟨f,fd,F,hm,hk,hb⟩:=C.ex
 exact b2X F (hr.mono hjk) hg hm hk hb .nil b5T ha hdb he hpl
noncomputable def W0 (K:PySem.W.Frag) (mg:Str->Option Value) (x:Str) (st:Stmt):Prop:=∃f fd,Fun K x x st f fd/\mg x=some (.ref f)
theorem b0N{K:PySem.W.Frag}{mg:Str->Option Value}{h:Heap}{x:Str}{st:Stmt}{f:Addr}{oc:Value}{od an:Option Addr}{osl:Array (Option Value)}{kV doc pm cdv ct:Value}(X:K.In h)(G:h.Ns mainGlobals mg)
  (a:PySem.W.nsIn K mainGlobals x=some (some (.ref f)))(l:K.lookup f=some ⟨oc,od,.func (PySem.W.fnOf x x (a1j st) (a0x st) (J3 st) .none kV doc pm an cdv ct),osl⟩)
  (c:PySem.W.codeIn K cdv x=true)(k:PySem.W.keepIn K (.ref f)=true):W0 K mg x st:=
 ⟨f,_,b2y l c k,PySem.W.mg_of X G a⟩
theorem Cl.of{P:Program}{w:World}{K:PySem.W.Frag}{mg:Str->Option Value}{base:Heap}{x:Str}{st:Stmt}{N ps:List Str}{k:Nat}{sp:Sp}(T:W0 K mg x st)(S:U1 N ps (J3 st))(len:∀vs H Q E,sp vs H Q E->vs.length=ps.length)
  (hb:∀(kV doc pm:Value)(an:Option Addr)(cdv ct:Value)(us:List Value),us.length=ps.length->bindArgs (PySem.W.fnOf x x (a1j st) (a0x st) (J3 st) .none kV doc pm an cdv ct) ⟨us,[]⟩=pure (ps.zip us))
  (hbody:∀(f:Addr)(cdv:Value)(A:Around)(outer:List Env)(s:Shared)(H:Hp)(vs:List V)(Q:VK)(E:XK),a1L k (A.deeper (envOfC x (J3 st) s.heap.objs.size f cdv))->sp vs H Q E->
   ∃t,PSs (a8m CX0 P w K mg base N x (J3 st) f cdv A outer s H E).nox (a0x st) t/\t {nx:=fun _ H'=>Q .non H',rt:=Q} (a3K N vs) H):Cl P w K mg base (k+1) x ps sp:=by
 obtain⟨f,fd,F,m⟩:=T
 exact⟨f,fd,F.ok S len (fun cdv A outer s H vs Q E=>hbody f cdv A outer s H vs Q E),m,F.kp,F.binds hb⟩
noncomputable def J9 (H H':Hp):Prop:=∀b xs,H b=some (.tup xs)->H' b=some (.tup xs)
section
variable{H H1 H2:Hp}{l p:Addr}{o:HO}{xs ys:List V}
theorem G6.tups(e:G6 H H1):J9 H H1:=fun b xs q=>e b _ q
theorem J9.refl(H:Hp):J9 H H:=fun _ _ q=>q
theorem J9.trans(a:J9 H H1)(b:J9 H1 H2):J9 H H2:=fun c xs q=>b c xs (a c xs q)
theorem J9.lst(h:H l=some (.lst xs)):J9 H (upd H l (.lst ys)):=fun b zs q=>by
 rw[G8 (a7u q h (by intro z;cases z))];exact q
theorem J9.new(h:H p=none):J9 H (upd H p o):=fun b zs q=>by
 rw[G8 (Y4 q h)];exact q
theorem G6.put(s:G6 H H1)(h:H l=none):G6 H (upd H1 l o):=fun b u q=>by
 rw[G8 (Y4 q h)];exact s b u q
theorem G6.new(s:G6 H H1)(h:H1 p=none):G6 H (upd H1 p o):=s.put (s.free h)
theorem U4{u:HO}(h:H l=some u)(hp:H p=none):upd H p o l=some u:=by
 rw[G8 (Y4 h hp)];exact h
end
theorem a1D{α:Type}(xs:List α)(d:α){i:Int}(h0:0<=i)(h1:i < (xs.length:Int)):atI xs i=some (xs.getD i.toNat d):=by
 have e:i=((i.toNat:Nat):Int):=by omega
 have hl:i.toNat < xs.length:=by omega
 have hx:xs[i.toNat]?=some (xs.getD i.toNat d):=by
  rw[List.getD_eq_getElem?_getD]
  simp[hl]
 have:=U3 hx
 rw[<-e]at this
 exact this
theorem Y9{α:Type}(f:α->V)(xs:List α)(d:α){i:Int}(h0:0<=i)(h1:i < (xs.length:Int)):atI (xs.map f) i=some (f (xs.getD i.toNat d)):=by
 have:=a1D (xs.map f) (f d) h0 (by simpa using h1)
 rw[this,List.getD_eq_getElem?_getD,List.getElem?_map,List.getD_eq_getElem?_getD]
 have hl:i.toNat < xs.length:=by omega
 simp[hl]
theorem D1{x:Str}{A B:Prop}(h:A):if decide (V.str x=V.str x)=true then A else B:=by
 rw[if_pos (decide_eq_true rfl)];exact h
theorem W3{x y:Str}{A B:Prop}(e:¬x=y)(h:B):if decide (V.str x=V.str y)=true then A else B:=by
 rw[if_neg (by rw[decide_eq_false (fun q=>e (V.str.inj q))];exact Bool.false_ne_true)];exact h
theorem b5x{i:Int}{A B:Prop}(h:A):if decide (V.int i=V.int i)=true then A else B:=by
 rw[if_pos (decide_eq_true rfl)];exact h
theorem b5o{i j:Int}{A B:Prop}(e:¬i=j)(h:B):if decide (V.int i=V.int j)=true then A else B:=by
 rw[if_neg (by rw[decide_eq_false (fun q=>e (V.int.inj q))];exact Bool.false_ne_true)];exact h
theorem a6c{i j:Int}{A B:Prop}(h1:i=j->A)(h2:¬i=j->B):if decide (V.int i=V.int j)=true then A else B:=
 a4Y (fun h=>h1 (V.int.inj (of_decide_eq_true h))) fun h=>h2 fun e=>h (decide_eq_true (congrArg V.int e))
theorem a0m(K:PySem.W.Frag)(T:String):PySem.W.kitOne K (.type T) (.type T)=some true:=by
 unfold PySem.W.kitOne
 rw[if_pos (by simp)]
theorem a4B(K:PySem.W.Frag):PySem.W.kitOne K (.type "int") (.type "str")=some false:=by kernel_rfl
theorem a6Q(K:PySem.W.Frag):PySem.W.kitOne K (.type "int") (.type "bool")=some false:=by kernel_rfl
noncomputable def a3D (c:Nat):Bool:=decide (97<=c) && decide (c<=122)
noncomputable def b5l (c:Nat):Bool:=decide (48<=c) && decide (c<=57)
noncomputable def a3q (c:Nat):Bool:=a3D c || b5l c
noncomputable def b5Z:List Nat->Bool
 | []=>false
 | c::r=>a3D c && r.all a3q && decide (r.length<=7)
noncomputable def D3 (x:Str):Prop:=b5Z x.cps.toList=true
noncomputable instance (x:Str):Decidable (D3 x):=inferInstanceAs (Decidable (_=true))
theorem D3.len{x:Str}(h:D3 x):1<=x.length/\x.length<=8:=by
 unfold D3 at h
 obtain⟨⟨l⟩⟩:=x
 cases l with
 | nil=>exact absurd (show false=true from h) Bool.false_ne_true
 | cons c r=>
  have h':(a3D c && r.all a3q && decide (r.length<=7))=true:=h
  simp only[Bool.and_eq_true,decide_eq_true_eq]at h'
  show 1<=(Array.mk (c::r)).size/\(Array.mk (c::r)).size<=8
  simp only[List.size_toArray,List.length_cons]
  omega
inductive Th where
 | num (n:Int)
 | nam (x:Str)
noncomputable def thV:Th->V
 | .num n=> .int n
 | .nam x=> .str x
noncomputable def a9Z:Th->Prop
 | .num n=>0<=n/\n < 10 ^ 60
 | .nam x=>D3 x
noncomputable def a7a (H:Hp) (v:V) (t:Int×Th):Prop:=∃p,v= .ref p/\H p=some (.tup [.int t.1,thV t.2])/\a9Z t.2
noncomputable abbrev a5F (H:Hp):List V->List (Int×Th)->Prop:=Paired (a7a H)
theorem Paired.get?{α β:Type}{F:α->β->Prop}:∀{xs:List α}{ys:List β}{i:Nat}{x:α},Paired F xs ys->xs[i]?=some x->∃y,ys[i]?=some y/\F x y
 | _,_,_,_,.nil,e=>by simp at e
 | _,_,0,_,.cons r _,e=>by simp at e;subst e;exact⟨_,rfl,r⟩
 | _,_,i+1,x,.cons _ t,e=>by
  obtain⟨u,h1,h2⟩:=Paired.get? (i:=i) (x:=x) t (by simpa using e)
  exact⟨u,by simpa using h1,h2⟩
theorem Paired.get?'{α β:Type}{F:α->β->Prop}:∀{xs:List α}{ys:List β}{i:Nat}{y:β},Paired F xs ys->ys[i]?=some y->∃x,xs[i]?=some x/\F x y
 | _,_,_,_,.nil,e=>by simp at e
 | _,_,0,_,.cons r _,e=>by simp at e;subst e;exact⟨_,rfl,r⟩
 | _,_,i+1,x,.cons _ t,e=>by
  obtain⟨u,h1,h2⟩:=Paired.get?' (i:=i) (y:=x) t (by simpa using e)
  exact⟨u,by simpa using h1,h2⟩
theorem a7a.mono{H H':Hp}(s:J9 H H'){v:V}{t:Int×Th}(h:a7a H v t):a7a H' v t:=by
 obtain⟨p,e,h,o⟩:=h
 exact⟨p,e,s p _ h,o⟩
theorem a5F.mono{H H':Hp}(s:J9 H H'){vs:List V}{ts:List (Int×Th)}(h:a5F H vs ts):a5F H' vs ts:=Paired.mapP h fun _ _ q=>q.mono s
structure a0R(H:Hp)(t:Addr)(ts:List (Int×Th)):Prop where
 ex:∃vs,H t=some (.tup vs)/\a5F H vs ts
 lo:1<=ts.length
 hi:ts.length<=6
theorem a0R.mono{H H':Hp}(s:J9 H H'){t:Addr}{ts:List (Int×Th)}(h:a0R H t ts):a0R H' t ts:=by
 obtain⟨⟨vs,h1,h2⟩,lo,hi⟩:=h
 exact⟨⟨vs,s t _ h1,h2.mono s⟩,lo,hi⟩
theorem J2{α:Type}{l:List α}{i:Nat}{x:α}(h:l[i]?=some x):l.take (i+1)=l.take i++[x]:=by
 rw[List.take_succ,h];rfl
end L2
namespace L2
open PySem PySem.Spec PyProof.Rows
section
variable{X:Cx}
end
structure b1S(x:Str):Prop where
 nb:32∉x.cps.toList
 len:x.length<=61
noncomputable instance (x:Str):Decidable (b1S x):=decidable_of_iff (32∉x.cps.toList/\x.length<=61) ⟨fun h=>⟨h.1,h.2⟩,fun h=>⟨h.nb,h.len⟩⟩
theorem b2I{c:Nat}(h:a3q c=true):c≠32:=by
 rintro rfl
 exact absurd h (by decide)
theorem D3.signs{x:Str}(h:D3 x):∀c∈x.cps.toList,a3q c=true:=by
 unfold D3 at h
 intro c hc
 cases e:x.cps.toList with
 | nil=>rw[e]at hc;simp at hc
 | cons d r=>
  rw[e]at h hc
  have h':(a3D d && r.all a3q && decide (r.length<=7))=true:=h
  simp only[Bool.and_eq_true,decide_eq_true_eq,List.all_eq_true]at h'
  rcases List.mem_cons.mp hc with z | z
  ·rw[z];unfold a3q;rw[h'.1.1];rfl
  ·exact h'.1.2 c z
theorem D3.word{x:Str}(h:D3 x):b1S x:=⟨fun z=>b2I (h.signs 32 z) rfl,by have:=h.len;omega⟩
theorem a3y{n:Int}(h0:0<=n)(h1:n < 10 ^ 60):(Str.ofString (toString n)).cps.toList=(Nat.toDigits 10 n.toNat).map Char.toNat/\(Nat.toDigits 10 n.toNat).length<=60:=by
 have e:n=((n.toNat:Nat):Int):=by omega
 constructor
 ·have h:=text_ofNat n.toNat
  rw[show Int.ofNat n.toNat=n from e.symm]at h
  rw[h]
 ·exact digits10_le (by decide) (by omega)
inductive a9j:List Expr->List Str->Prop
 | nil:a9j [] []
 | cons {x:Str} {j pos} {es:List Expr} {ys:List Str} (h:a9j es ys):a9j (.Constant (.str x) j pos::es) (x::ys)
section
variable{X:Cx}
theorem b3E{es:List Expr}{ys:List Str}(h:a9j es ys):PA X es (fun _ H Q=>Q (ys.map V.str) H):=by
 induction h with
 | nil=>exact G4
 | @cons x j pos es ys h ih=>
  exact G0 (es:=es) (R6 (x:=x) (j:=j) (pos:=pos)) ih rfl
end
end L2
namespace L2
open PySem PySem.Spec PyProof.Rows
noncomputable def a0X (cells:List (Str×Addr)):List (Str×NameKind)->List (Str×Addr)->List (Str×Addr)
 | [],cs=>cs
 | (n,k)::r,cs=>a0X cells r (if k== .free then(n,(cells.lookup n).getD 0)::cs else cs)
theorem a8l{cells:List (Str×Addr)}{env:Env}(he:env.cells=cells):∀(l:List (Str×NameKind))(cs:List (Str×Addr)),(∀y∈l,y.2= .free->∃c,cells.lookup y.1=some c)->
  (forIn l cs fun p cs=>(do if p.2== .free then(do let a<-cellOf env p.1;pure (ForInStep.yield ((p.1,a)::cs)))else pure (ForInStep.yield cs):Sem (ForInStep (List (Str×Addr)))))=pure (a0X cells l cs):=by
 intro l
 induction l with
 | nil=>intro cs _;rfl
 | cons p r ih=>
  intro cs h
  obtain⟨n,k⟩:=p
  rw[List.forIn_cons]
  have hr:∀y∈r,y.2= .free->∃c,cells.lookup y.1=some c:=fun y hy=>h y (List.mem_cons_of_mem _ hy)
  by_cases hk:k= .free
  ·subst hk
   obtain⟨c,hc⟩:=h (n,.free) List.mem_cons_self rfl
   have hc':env.cells.lookup n=some c:=by rw[he];exact hc
   have e:cellOf env n=pure c:=by unfold cellOf;rw[hc']
   simp only[beq_self_eq_true,if_true,e,pure_bind]
   rw[ih _ hr]
   unfold a0X
   rw[if_pos (by simp),show(cells.lookup n).getD 0=c by rw[show cells.lookup n=some c from hc];rfl]
   conv=>rhs;unfold a0X
  ·have hb:(k==NameKind.free)=false:=by simpa using hk
   simp only[hb,Bool.false_eq_true,if_false,pure_bind]
   rw[ih _ hr]
   conv=>rhs;unfold a0X
   rw[if_neg (by rw[hb];exact Bool.false_ne_true)]
theorem a3R{cells:List (Str×Addr)}{x:Str}{c:Addr}:∀(l:List (Str×NameKind))(cs:List (Str×Addr)),(∀y∈l,y.2= .free->∃c,cells.lookup y.1=some c)->(a0X cells l cs).lookup x=some c->cells.lookup x=some c\/cs.lookup x=some c
 | [],cs,_,h=> .inr h
 | (n,k)::r,cs,hy,h=>by
  unfold a0X at h
  rcases a3R r _ (fun y q=>hy y (List.mem_cons_of_mem _ q)) h with h | h
  ·exact .inl h
  ·by_cases hk:k= .free
   ·subst hk
    obtain⟨c',hc⟩:=hy (n,.free) List.mem_cons_self rfl
    have hc:cells.lookup n=some c':=hc
    rw[if_pos (by simp),List.lookup_cons]at h
    split at h
    ·rename_i e
     have e':x=n:=by simpa using e
     subst e'
     rw[hc]at h
     cases h
     exact .inl hc
    ·exact .inr h
   ·rw[if_neg (by simpa using hk)]at h
    exact .inr h
theorem a5g{cells:List (Str×Addr)}{x:Str}:∀(l:List (Str×NameKind))(cs:List (Str×Addr)),(∃c,cs.lookup x=some c)->∃c,(a0X cells l cs).lookup x=some c
 | [],_,h=>h
 | (n,k)::r,cs,h=>by
  unfold a0X
  refine a5g r _ ?_
  split
  ·rw[List.lookup_cons]
   split
   ·exact⟨_,rfl⟩
   ·exact h
  ·exact h
theorem a4h{cells:List (Str×Addr)}{x:Str}:∀(l:List (Str×NameKind))(cs:List (Str×Addr)),(x,NameKind.free)∈l->∃c,(a0X cells l cs).lookup x=some c
 | (n,k)::r,cs,h=>by
  unfold a0X
  rcases List.mem_cons.mp h with e | h
  ·cases e
   refine a5g r _ ?_
   rw[if_pos (by simp),List.lookup_cons]
   simp
  ·exact a4h r _ h
theorem a3V{sc:Scope}{env:Env}(h:∀y∈sc.names,y.2= .free->∃c,env.cells.lookup y.1=some c):closureFor sc env=pure (a0X env.cells sc.names []):=by
 have:=a8l (env:=env) rfl sc.names [] h
 unfold closureFor
 simp only[bind_pure]
 exact this
theorem a3L{env:Env}{x:Str}:∀{names:List (Str×NameKind)},names.lookup x=some .free->
  (names.map fun(n,k)=>if(k==NameKind.free && env.scope.kind== .function && env.kindOf n==some .cell)then(n,NameKind.cell)else(n,k)).lookup x=some .cell\/
  (names.map fun(n,k)=>if(k==NameKind.free && env.scope.kind== .function && env.kindOf n==some .cell)then(n,NameKind.cell)else(n,k)).lookup x=some .free
 | [],h=>by simp at h
 | (n,k)::r,h=>by
  have ih:=@a3L env x r
  simp only[List.map_cons]
  by_cases hc:(k==NameKind.free && env.scope.kind== .function && env.kindOf n==some .cell)=true
  ·rw[if_pos hc]
   simp only[List.lookup_cons]at h⊢
   cases hx:x==n with
   | true=>exact .inl rfl
   | false=>simp only[hx]at h⊢;exact ih h
  ·rw[if_neg hc]
   simp only[List.lookup_cons]at h⊢
   cases hx:x==n with
   | true=>simp only[hx]at h⊢;exact .inr h
   | false=>simp only[hx]at h⊢;exact ih h
theorem a3W{env:Env}{x:Str}:∀{names:List (Str×NameKind)},
  (names.map fun(n,k)=>if(k==NameKind.free && env.scope.kind== .function && env.kindOf n==some .cell)then(n,NameKind.cell)else(n,k)).lookup x=some .cell\/
  (names.map fun(n,k)=>if(k==NameKind.free && env.scope.kind== .function && env.kindOf n==some .cell)then(n,NameKind.cell)else(n,k)).lookup x=some .free->
  (x,NameKind.free)∈names\/(x,NameKind.cell)∈names
 | [],h=>by simp at h
 | (n,k)::r,h=>by
  have ih:=@a3W env x r
  simp only[List.map_cons]at h
  have tl:(x,NameKind.free)∈r\/(x,NameKind.cell)∈r->(x,NameKind.free)∈(n,k)::r\/(x,NameKind.cell)∈(n,k)::r:=fun q=>q.imp (List.mem_cons_of_mem _) (List.mem_cons_of_mem _)
  by_cases hc:(k==NameKind.free && env.scope.kind== .function && env.kindOf n==some .cell)=true
  ·rw[if_pos hc]at h
   have hk:k= .free:=by
    simp only[Bool.and_eq_true]at hc
    simpa using hc.1.1
   simp only[List.lookup_cons]at h
   cases hx:x==n with
   | true=>
    have e:x=n:=by simpa using hx
    subst e hk
    exact .inl List.mem_cons_self
   | false=>simp only[hx]at h;exact tl (ih h)
  ·rw[if_neg hc]at h
   simp only[List.lookup_cons]at h
   cases hx:x==n with
   | true=>
    have e:x=n:=by simpa using hx
    subst e
    simp only[hx]at h
    rcases h with h | h
    ·cases h;exact .inr List.mem_cons_self
    ·cases h;exact .inl List.mem_cons_self
   | false=>simp only[hx]at h;exact tl (ih h)
structure a2Q(osc:Scope)(N:List Str)(sc:Scope)(M:List Str)(ρ:List (Option Nat)):Prop where
 kind:sc.kind= .function
 nocell:∀y∈sc.names,y.2≠ .cell
 own:∀y∈sc.names,y.2= .local->sc.names.lookup y.1=some .local
 fre:∀y∈sc.names,y.2= .free->osc.names.lookup y.1=some .cell\/osc.names.lookup y.1=some .free
 len:ρ.length=M.length
 ren:∀p∈ρ.zip M,(match p.1 with | none=>true | some i=>decide (N[i]?=some p.2/\sc.names.lookup p.2=some .free))=true
 nd:M.Nodup
noncomputable def b0Q (ρ:List (Option Nat)) (σ:St):St:=ρ.map fun o=>match o with | none=>none | some i=>(σ[i]?).join
noncomputable def B5 (X:Cx) (sc:Scope) (cl:List (Str×Addr)) (C:Addr) (M:List Str) (s:Shared) (H:Hp) (fp:List Addr) (xe:Value->Shared->Prop):Cx where
 prog:=X.prog
 w:=X.w
 K:=X.K
 mg:=X.mg
 base:=X.base
 A:=X.A
 N:=M
 s₀:=s
 H₀:=H
 env:=compEnvC sc cl C X.env
 outer:=X.stack
 stack:=X.stack
 ex:=fp
 fn:=fun _=>false
 calm:=X.calm
 pn:=[]
 xe:=xe
theorem a9M{P:Program}{w:World}{A:Around}{R:Result->Shared->Prop}{s:Shared}{elt tg iter:Expr}{ifs:List Expr}{sc:Scope}{pos:Pos}{it acc:Value}{env:Env}(J:Nat->Shared->Prop)
  (turn:∀n s,J n s->wpAny (model P w) A (pyNext it) (fun r s1=>match r with
   | none=>R (.ok .next) s1
   | some v=>wpAny (model P w) A (letOwnedTupleGo tg it v) (fun _ s2=>wpAny (model P w) A (assign tg env v) (fun _ s3=>
     wpAny (model P w) A (forIn ifs true fun c r=>if r=true then do let ok<-isTrue c env (eval c env);pure (ForInStep.yield ok)else pure (ForInStep.yield r)) (fun ok s4=>
      if ok=true then wpAny (model P w) A (eval elt env) (fun x s5=>wpAny (model P w) A (call (.builtin "list.append") [acc,x]) (fun _ s6=>∃m,m < n/\J m s6) (notedBy (model P w) A env fun e s'=>R (.error e) s') s5)
       (notedBy (model P w) A env fun e s'=>R (.error e) s') s4
      else∃m,m < n/\J m s4) (notedBy (model P w) A env fun e s'=>R (.error e) s') s3) (notedBy (model P w) A env fun e s'=>R (.error e) s') s2) (notedBy (model P w) A env fun e s'=>R (.error e) s') s1)
   (notedBy (model P w) A env fun e s'=>R (.error e) s') s)
  (n:Nat)(h:J n s):codeAny (model P w) A (.compLoop (.ListComp elt [⟨tg,iter,ifs,0⟩] sc pos) 0 it acc env) R s:=by
 refine codeAny_loop rfl J (fun n s hJ=>?_) n h
 show wpAny (model P w) A ((compTurn (.ListComp elt [⟨tg,iter,ifs,0⟩] sc pos) 0 it acc env).onRaise fun x=>do noteFrame x env;theTreesLotGoes x) _ _ s
 refine wpAny_noted ?_
 rw[compTurn_list]
 refine wpAny_bind (wpAny_standAt (wpAny_bind (thn (turn n s hJ) fun r s1 h1=>?_)))
 cases r with
 | none=>exact wpAny_pure h1
 | some v=>
  refine wpAny_bind (thn h1 fun _ s2 h2=>wpAny_bind (thn h2 fun _ s3 h3=>wpAny_bind (thn h3 fun ok s4 h4=>?_)))
  cases ok with
  | false=>exact wpAny_pure ⟨rfl,h4⟩
  | true=>exact wpAny_bind (wpAny_bind (thn h4 fun x s5 h5=>wpAny_bind (thn h5 fun _ s6 h6=>wpAny_pure (wpAny_pure ⟨rfl,h6⟩))))
noncomputable def PTs (X:Cx) (ifs:List Expr) (t:TT):Prop:=
 ∀(pins:List (Addr×Obj))(s:Shared)(σ:St)(H:Hp)(Q:Bool->Hp->Prop),Inv X pins σ H s->t σ H Q->
  wpAny (model X.prog X.w) X.A (forIn ifs true fun c r=>if r=true then do let ok<-isTrue c X.env (eval c X.env);pure (ForInStep.yield ok)else pure (ForInStep.yield r)) (TP X pins σ Q) X.xe s
noncomputable def a9F:TT:=fun _ H Q=>Q true H
theorem ntG{i:Nat}{v:V}{σ:St}{H:Hp}{A B:St->Hp->Prop}(h:A (σ.set i (some v)) H):B0 i v σ H (fun σ4 H4=>a9F σ4 H4 fun b H5=>if b=true then A σ4 H5 else B σ4 H5):=by
 show if true=true then A (σ.set i (some v)) H else B (σ.set i (some v)) H
 exact B9 h
theorem a1m{X:Cx}:PTs X [] a9F:=fun _ _ _ H _ I h=>wpAny_tests_nil ⟨H,I,h⟩
theorem b3G{X:Cx}{c:Expr}{t:TT}(h:PT X c t):PTs X [c] t:=fun pins s σ H Q I q=>wpAny_tests_one (h pins s σ H Q I q)
noncomputable def b4a (wi:TI) (ρ:List (Option Nat)) (g:TG) (tt:TT) (te:TE):TE:=fun σ H Q=>wi σ H fun J H1=>∀D,H1 D=none->∃W:Nat->Nat->St->Hp->Prop,(∃m,W 0 m (b0Q ρ σ) (upd H1 D (.lst [])))/\∀i m σ2 H2,W i m σ2 H2->
 (J.stop i H2/\Q (.ref D) H2)\/(J.go i H2/\∃N:St->Hp->Prop,(∀σ' H',N σ' H'->∃m',m' < m/\W (i+1) m' σ' H')/\∀x H3,J.yld i H2 x H3->g x σ2 H3 fun σ4 H4=>tt σ4 H4 fun b H5=>
  if b=true then te σ4 H5 fun y H6=>∃ys,H6 D=some (.lst ys)/\ys.length < sizeLine/\N σ4 (upd H6 D (.lst (ys++[y])))
  else N σ4 H5)
theorem a3t{J:It}{g:TG}{tt:TT}{te:TE}{Q:Hp->Prop}{σ:St}{H:Hp}{D:Addr}(n:Nat)(Pv:Nat->St->Hp->Prop)(h0:Pv 0 σ (upd H D (.lst [])))
  (hs:∀i σ2 H2,i < n->Pv i σ2 H2->J.go i H2/\∀x H3,J.yld i H2 x H3->g x σ2 H3 fun σ4 H4=>tt σ4 H4 fun b H5=>
   if b=true then te σ4 H5 fun y H6=>∃ys,H6 D=some (.lst ys)/\ys.length < sizeLine/\Pv (i+1) σ4 (upd H6 D (.lst (ys++[y])))else Pv (i+1) σ4 H5)
  (hd:∀σ2 H2,Pv n σ2 H2->J.stop n H2/\Q H2):
  ∃W:Nat->Nat->St->Hp->Prop,(∃m,W 0 m σ (upd H D (.lst [])))/\∀i m σ2 H2,W i m σ2 H2->
   (J.stop i H2/\Q H2)\/(J.go i H2/\∃N:St->Hp->Prop,(∀σ' H',N σ' H'->∃m',m' < m/\W (i+1) m' σ' H')/\∀x H3,J.yld i H2 x H3->g x σ2 H3 fun σ4 H4=>tt σ4 H4 fun b H5=>
    if b=true then te σ4 H5 fun y H6=>∃ys,H6 D=some (.lst ys)/\ys.length < sizeLine/\N σ4 (upd H6 D (.lst (ys++[y])))else N σ4 H5):=by
 refine⟨fun i m σ H=>m=n - i/\i<=n/\Pv i σ H,⟨n,by simp,Nat.zero_le _,h0⟩,?_⟩
 rintro i m σ2 H2 ⟨rfl,hi,p⟩
 by_cases hlt:i < n
 ·obtain⟨h1,h2⟩:=hs i σ2 H2 hlt p
  exact .inr ⟨h1,Pv (i+1),fun σ' H' p'=>⟨n - (i+1),by omega,rfl,hlt,p'⟩,h2⟩
 ·have e:i=n:=by omega
  subst e
  exact .inl (hd σ2 H2 p)
section
variable{X:Cx}{tg elt iter:Expr}{ifs:List Expr}{sc:Scope}{pos:Pos}{M:List Str}{ρ:List (Option Nat)}{wi:TI}{g:TG}{tt:TT}{te:TE}
theorem a4T(osc:Scope)(hosc:X.env.scope=osc)(N:List Str)(hN:X.N=N)(S:a2Q osc N sc M ρ)(hc:X.calm=true)
  (hg:∀cl C s H fp xe,PG (B5 X sc cl C M s H fp xe) tg g)(ht:∀cl C s H fp xe,PTs (B5 X sc cl C M s H fp xe) ifs tt)(he:∀cl C s H fp xe,PE (B5 X sc cl C M s H fp xe) elt te)
  {pins:List (Addr×Obj)}{σ:St}{H:Hp}{s:Shared}{itv:Value}{Q:VK}{RR:Value->Addr->Result->Shared->Prop}(I:Inv X pins σ H s)
  (h2:PIE X pins σ tg (fun J H1=>∀D,H1 D=none->∃W:Nat->Nat->St->Hp->Prop,(∃m,W 0 m (b0Q ρ σ) (upd H1 D (.lst [])))/\∀i m σ2 H2,W i m σ2 H2->
   (J.stop i H2/\Q (.ref D) H2)\/(J.go i H2/\∃N:St->Hp->Prop,(∀σ' H',N σ' H'->∃m',m' < m/\W (i+1) m' σ' H')/\∀x H3,J.yld i H2 x H3->g x σ2 H3 fun σ4 H4=>tt σ4 H4 fun b H5=>
    if b=true then te σ4 H5 fun y H6=>∃ys,H6 D=some (.lst ys)/\ys.length < sizeLine/\N σ4 (upd H6 D (.lst (ys++[y])))
    else N σ4 H5)) itv s)
  (hR:∀(D C:Addr)(H':Hp)(s':Shared)(mC:Str->Option Value),Inv X pins σ H' s'->s'.heap.Ns C mC->a3l X pins H' C->Q (.ref D) H'->RR (.ref D) C (.ok .next) s'):
  wpAny (model X.prog X.w) X.A (newList []) (fun acc s3=>wpAny (model X.prog X.w) X.A (newFunctionEnv sc X.env.globals (a0X X.env.cells sc.names []) [] X.env.qual none .none (some X.env)) (fun cenv s4=>
   codeAny (model X.prog X.w) X.A (.compStart (.ListComp elt [⟨tg,iter,ifs,0⟩] sc pos) 0 itv acc {cenv with scope:=relabel sc X.env}) (RR acc cenv.locals) s4) X.xe s3) X.xe s:=by
 subst hosc hN
 obtain⟨it,fp,tn,J,H2,rfl,I2,T,st2,f2,q2⟩:=h2
 have hcells:∀y∈sc.names,y.2= .free->∃c,X.env.cells.lookup y.1=some c:=fun y hy hf=>I2.ok.has y.1 (S.fre y hy hf)
 have hclx:∀{x c},(a0X X.env.cells sc.names []).lookup x=some c->X.env.cells.lookup x=some c:=fun{x c}e=>(a3R _ _ hcells e).elim id fun z=>by simp at z
 generalize hcl:a0X X.env.cells sc.names []=cl at hclx⊢
 refine wpAny_newObj_type (wpAny_newFunctionEnv S.nocell (by intro y hy;simp at hy) (fun h1 hns hsb=>?_) S.kind)
 dsimp only at hns hsb⊢
 generalize hG:s.heap.push {cls:= .type "list",dict:=none,data:= .seq ([]:List Value).toArray}=G at hns hsb⊢
 have hC:G.objs.size=s.heap.objs.size+1:=by rw[<-hG,Heap.size_push]
 have old:∀b o,s.heap.get? b=some o->h1.get? b=some o:=fun b o e=>
  hsb.extBut b o (Nat.ne_of_lt (by rw[hC];exact Nat.lt_succ_of_lt (Heap.lt_size e))) (Heap.get?_push_of_some _ (hG▸Heap.get?_push_of_some _ e))
 have hD1:h1.get? s.heap.objs.size=some {cls:= .type "list",dict:=none,data:= .seq ([]:List Value).toArray}:=
  hsb.extBut _ _ (by rw[hC];exact Nat.ne_of_lt (Nat.lt_succ_self _)) (Heap.get?_push_of_some _ (hG▸Heap.get?_push_size _ rfl))
 have hDn:H2 s.heap.objs.size=none:=I2.hok.fresh (Nat.le_refl _)
 obtain⟨W,⟨m0,w0⟩,turn⟩:=q2 s.heap.objs.size hDn
 have hCle:s.heap.objs.size<=G.objs.size:=by rw[hC];exact Nat.le_succ _
 have hCD:G.objs.size≠s.heap.objs.size:=by rw[hC];exact Nat.succ_ne_self _
 generalize hxe:notedBy (model X.prog X.w) X.A (compEnvC sc cl G.objs.size X.env) (fun e s'=>RR (.ref s.heap.objs.size) G.objs.size (.error e) s')=xe
 have fpC:∀b∈fp,b≠G.objs.size:=fun b hb=>by
  obtain⟨o,e,_⟩:=T.obj 0 _ st2 b hb
  have:=Heap.lt_size e
  exact Nat.ne_of_lt (Nat.lt_of_lt_of_le this hCle)
 have fpS:∀b∈fp,b∉frs X.stack:=fun b hb z=>by
  obtain⟨f0,f1,f3,_⟩:=f2 b hb
  rcases List.mem_cons.mp (I2.stkSub b z)with e | e
  ·exact f1 e
  ·exact f3 e
 have hok:(B5 X sc cl G.objs.size M s H2 fp xe).Ok:=by
  refine⟨I2.ok.mod,S.kind,I2.ok.glob,I2.ok.blt,hCle,fun x y c e1 e2=>I2.ok.inj x y c (hclx e1) (hclx e2),fun x hx=>?_,(fun x c e _=>absurd (show false=true from e) Bool.false_ne_true),I2.ok.hd,I2.ok.frames,.inl rfl,fun b hb=>⟨fpC b hb,fun x c e=>(f2 b hb).2.2.2.2.1 x c (hclx e)⟩,
   I2.bs,Nat.le_trans I2.ok.bsz I2.sz,fun b o e hb=>?_,fpS,I2.stack,I2.stkFree⟩
  ·rcases a3W (names:=sc.names) (env:=X.env) hx with q | q
   ·rw[<-hcl];exact a4h _ _ q
   ·exact absurd rfl (S.nocell _ q)
  ·rcases(f2 b hb).2.2.2.1 with z | z
   ·exact I2.ok.noex b o e z
   ·exact absurd (Nat.lt_of_lt_of_le (Heap.lt_size e) (Nat.le_trans I2.ok.bsz z)) (Nat.lt_irrefl _)
 have I4:Inv (B5 X sc cl G.objs.size M s H2 fp xe) [] (b0Q ρ σ) (upd H2 s.heap.objs.size (.lst [])) {s with heap:=h1,toks:=s.toks+([]:List (Str×Value)).length}:=by
  refine⟨hok,rfl,I2.bare,Un.laid old (Nat.le_refl _) hDn,⟨_,hns,fun j x v e1 e2 _=>?_⟩,fun x c e=>?_,?_,fun x c e=>?_,fun p hp=>absurd (show p∈([]:List (Addr×Obj))from hp) (by simp),I2.hok.laid old (Nat.le_refl _) ⟨by show 0<=sizeLine;decide,[],0,.nil,hD1⟩,?_⟩
  ·unfold b0Q at e2
   rw[List.getElem?_map]at e2
   cases q:ρ[j]? with
   | none=>rw[q]at e2;cases e2
   | some o=>
    rw[q]at e2
    cases o with
    | none=>cases e2
    | some i=>
     have e2':(σ[i]?).join=some v:=Option.some.inj e2
     have e3:σ[i]?=some (some v):=by
      cases z:σ[i]? with
      | none=>rw[z]at e2';cases e2'
      | some y=>rw[z]at e2';cases y with
       | none=>cases e2'
       | some y=>cases e2';rfl
     have hz:(ρ.zip M)[j]?=some (some i,x):=List.getElem?_zip_eq_some.mpr ⟨q,e1⟩
     have hr:=S.ren (some i,x) (List.mem_of_getElem? hz)
     obtain⟨r1,r2⟩:=of_decide_eq_true hr
     obtain⟨m,hn,hl⟩:=I2.loc
     have hfr:=S.fre _ (PySem.mem_of_lookup r2) rfl
     obtain⟨u,ru,lk⟩:=hl i x v r1 e3 (hfr.elim (fun z=> .inr (.inl z)) fun z=> .inr (.inr z))
     refine⟨u,ru,?_⟩
     rcases lk with⟨k,_⟩ | ⟨_,c,hcc,cell⟩
     ·have k':X.env.scope.names.lookup x=some .local:=k
      rcases hfr with z | z
      ·rw[k']at z;cases z
      ·rw[k']at z;cases z
     ·obtain⟨c',hc'⟩:=a4h (cells:=X.env.cells) sc.names [] (PySem.mem_of_lookup r2)
      rw[hcl]at hc'
      have:=hclx hc'
      rw[hcc]at this
      cases this
      obtain⟨oc,ho,hd⟩:=cell
      exact .inr ⟨a3L r2,_,hc',oc,old _ _ ho,hd⟩
  ·obtain⟨v,oc,ho,hd⟩:=I2.cell x c (hclx e)
   exact⟨v,oc,old _ _ ho,hd⟩
  ·show upd H2 s.heap.objs.size (.lst []) G.objs.size=none
   rw[G8 hCD]
   exact I2.hok.fresh hCle
  ·show upd H2 s.heap.objs.size (.lst []) c=none
   obtain⟨v,oc,ho,hd⟩:=I2.cell x c (hclx e)
   rw[G8 (Nat.ne_of_lt (Heap.lt_size ho))]
   exact I2.freeC x c (hclx e)
  ·show(b0Q ρ σ).length=M.length
   unfold b0Q
   rw[List.length_map,S.len]
 have st4:tn 0 h1:=T.keep 0 _ _ st2 fun b _ o e=>old b o e
 have fr4:∀b∈fp,upd H2 s.heap.objs.size (.lst []) b=none:=fun b hb=>by
  obtain⟨o,e,_⟩:=T.obj 0 _ st2 b hb
  rw[G8 (Nat.ne_of_lt (Heap.lt_size e))]
  exact(f2 b hb).1
 have stat:∀{H':Hp},(∀b∈fp,H' b=none)->∀b∈fp,a3l (B5 X sc cl G.objs.size M s H2 fp xe) [] H' b:=fun hn b hb=>
  ⟨hn b hb,fpC b hb,fpS b hb,.inl hb,fun x c e=>(f2 b hb).2.2.2.2.1 x c (hclx e),fun p hp=>absurd (show p∈([]:List (Addr×Obj))from hp) (by simp)⟩
 have loop:codeAny (model X.prog X.w) X.A (.compLoop (.ListComp elt [⟨tg,iter,ifs,0⟩] sc pos) 0 (.ref it) (.ref s.heap.objs.size) (compEnvC sc cl G.objs.size X.env)) (RR (.ref s.heap.objs.size) G.objs.size)
   {s with heap:=h1,toks:=s.toks+([]:List (Str×Value)).length}:=by
  refine a9M (fun n s'=>∃i σ' H',Inv (B5 X sc cl G.objs.size M s H2 fp xe) [] σ' H' s'/\tn i s'.heap/\(∀b∈fp,H' b=none)/\W i n σ' H') ?_ m0 ⟨0,_,_,I4,st4,fr4,w0⟩
  rw[hxe]
  rintro n s3 ⟨i,σ3,H3,I3,st3,fr3,w3⟩
  rcases turn i n σ3 H3 w3 with⟨stop,qn⟩ | ⟨go,N,hN,step⟩
  ·refine thn (T.done (B5 X sc cl G.objs.size M s H2 fp xe) rfl rfl rfl hc i [] s3 σ3 H3 xe I3 (stat fr3) st3 stop) fun r s4⟨hr,I5⟩=>?_
   subst hr
   obtain⟨mC,nC,_⟩:=I5.loc
   have I6:Inv X pins σ H3 s4:=I2.call' I5.os I5.base I5.hok I5.bare fun b hb=>⟨(f2 b hb).2.2.2.1,(f2 b hb).2.1,(f2 b hb).2.2.2.2.1,(f2 b hb).2.2.2.2.2⟩
   exact hR _ _ H3 s4 mC I6 nC (I2.fpOk hCle I5.free) qn
  ·refine thn (T.item (B5 X sc cl G.objs.size M s H2 fp xe) rfl rfl rfl hc i [] s3 σ3 H3 xe I3 (stat fr3) st3 go) fun r s4⟨u,hr,h4⟩=>?_
   subst hr
   refine thn h4 fun _ s5⟨x,H5,I5,r5,y5,st5,fr5⟩=>?_
   have I5':=I5.pinned (stat fr5) (T.obj _ _ st5)
   refine thn (hg cl G.objs.size s H2 fp xe _ s5 σ3 H5 x u _ I5' r5 (step x H5 y5)) fun _ s6⟨σ6,H6,I6,q6⟩=>?_
   have fin:∀{s7:Shared}{σ7:St}{H7:Hp},Inv (B5 X sc cl G.objs.size M s H2 fp xe) ([]++a4W fp s5.heap) σ7 H7 s7->(∃m',m' < n/\W (i+1) m' σ7 H7)->
     ∃m,m < n/\∃i σ' H',Inv (B5 X sc cl G.objs.size M s H2 fp xe) [] σ' H' s7/\tn i s7.heap/\(∀b∈fp,H' b=none)/\W i m σ' H':=fun{s7 σ7 H7}I7⟨m',hm,w7⟩=>by
    refine⟨m',hm,i+1,σ7,H7,I7.unpinned,T.keep _ _ _ st5 fun b hb o e=>(I7.pin (b,o) (List.mem_append_right _ (List.mem_append_right _ (a1Z hb e)))).1,fun b hb=>?_,w7⟩
    obtain⟨o,e,d⟩:=T.obj _ _ st5 b hb
    exact(I7.pin (b,o) (List.mem_append_right _ (List.mem_append_right _ (a1Z hb e)))).2.1
   refine thn (ht cl G.objs.size s H2 fp xe _ s6 σ6 H6 _ I6 q6) fun ok s7⟨H7,I7,q7⟩=>?_
   cases ok with
   | false=>
    rw[if_neg Bool.false_ne_true]at q7⊢
    exact fin I7 (hN _ _ q7)
   | true=>
    rw[if_pos rfl]at q7⊢
    refine thn (he cl G.objs.size s H2 fp xe _ s7 σ6 H7 _ I7 q7) fun y s8⟨yv,H8,I8,r8,ys,hys,hlt,q8⟩=>?_
    obtain⟨z,its,k,rv,hl,e⟩:=I8.lstM hys
    refine call_meets F.slot_list_append ⟨_,e,rfl⟩ F.entry_list_append (F.args_list_append_2 _ _) (PySem.list_append _ its.toArray k y (by rw[List.size_toArray];omega)) ⟨e,?_⟩
    exact fin (I8.lset (its':=its++[y]) hys e (by simp) (rv.append (.cons r8 .nil)) (by rw[List.length_append,List.length_singleton];omega)) (hN _ _ q8)
 exact codeAny_compStart_list loop (T.self X.A 0 _ _ _ st4 loop)
theorem a4L(osc:Scope)(N:List Str)(S:a2Q osc N sc M ρ)(hi:PI X tg iter wi)(hg:∀cl C s H fp xe,PG (B5 X sc cl C M s H fp xe) tg g)(ht:∀cl C s H fp xe,PTs (B5 X sc cl C M s H fp xe) ifs tt)
  (he:∀cl C s H fp xe,PE (B5 X sc cl C M s H fp xe) elt te)(hosc:X.env.scope=osc:=by rfl)(hN:X.N=N:=by rfl)(hc:X.calm=true:=by rfl)(hs:∀x,foldedSetIterable iter X.env x=pure x:=by intro _;rfl):
  PE X (.ListComp elt [⟨tg,iter,ifs,0⟩] sc pos) (b4a wi ρ g tt te):=by
 intro pins s σ H Q I h
 have hcells:∀y∈sc.names,y.2= .free->∃c,X.env.cells.lookup y.1=some c:=fun y hy hf=>I.ok.has y.1 (by show X.env.scope.names.lookup y.1=_\/X.env.scope.names.lookup y.1=_;rw[hosc];exact S.fre y hy hf)
 rw[eval_ListComp]
 refine wpAny_comprehension_free (M:=model X.prog X.w) (A:=X.A) (E:=X.xe) (e:= .ListComp elt [⟨tg,iter,ifs,0⟩] sc pos) rfl hs (a3V hcells) S.kind S.own (thn (hi pins s σ H _ I h) fun v s1 h1=>thn h1 fun itv s2 h2=>?_)
 obtain⟨_,_,_,_,_,_,I2,_⟩:=id h2
 refine a4T (RR:=fun acc C=>compPost (model X.prog X.w) X.A X.xe none (EP X pins σ Q) acc C) osc hosc N hN S hc hg ht he I2 h2 fun D C H' s' mC I' nC fC q=>?_
 refine⟨mC,nC,fun h' sb=>?_⟩
 obtain⟨f0,f1,_,f3,f4,f5⟩:=fC
 exact⟨.ref D,H',I'.turned (t':=s'.toks) (fun b o hb e=>(sb.2 b hb).trans e) f0 f1 f3 f4 f5,rfl,q⟩
theorem a3S{j:Nat}{x:Str}{px spos:Pos}(osc:Scope)(N:List Str)(S:a2Q osc N sc M ρ)(hNd:X.N.Nodup)(hj:X.N[j]?=some x)(hx:Loc X.env.scope x)(hi:PI X tg iter wi)(hg:∀cl C s H fp xe,PG (B5 X sc cl C M s H fp xe) tg g)
  (ht:∀cl C s H fp xe,PTs (B5 X sc cl C M s H fp xe) ifs tt)(he:∀cl C s H fp xe,PE (B5 X sc cl C M s H fp xe) elt te)
  (hsw:swapsWith (.ListComp elt [⟨tg,iter,ifs,0⟩] sc pos) (some (.Name x px)) spos.line X.env=pure true:=by rfl)(hosc:X.env.scope=osc:=by rfl)(hN:X.N=N:=by rfl)(hc:X.calm=true:=by rfl)(hs:∀x,foldedSetIterable iter X.env x=pure x:=by intro _;rfl)
  (hf:X.fn x=true\/X.env.scope.names.lookup x=some .local:=by first | exact .inl rfl | exact .inr rfl | assumption):
  PS X (.Assign [.Name x px] (.ListComp elt [⟨tg,iter,ifs,0⟩] sc pos) spos) (a8Y (b4a wi ρ g tt te) (B0 j)):=by
 intro pins s σ H D I h
 have hcells:∀y∈sc.names,y.2= .free->∃c,X.env.cells.lookup y.1=some c:=fun y hy hf=>I.ok.has y.1 (by show X.env.scope.names.lookup y.1=_\/X.env.scope.names.lookup y.1=_;rw[hosc];exact S.fre y hy hf)
 rw[exec_Assign_Name_used _ _ _ _ hsw]
 refine wpAny_bind (wpAny_standAt (wpAny_bind ?_))
 show wpAny (model X.prog X.w) X.A (do let _<-comprehension (.ListComp elt [⟨tg,iter,ifs,0⟩] sc pos) sc X.env (firstIterPos [⟨tg,iter,ifs,0⟩] pos) (newList []) false (eval iter X.env) (some (assign (.Name x px) X.env))) _ X.xe s
 refine wpAny_bind (thn (Q:=fun _ s'=>SP X pins D .next s') (wpAny_comprehension_free (M:=model X.prog X.w) (A:=X.A) (E:=X.xe) (e:= .ListComp elt [⟨tg,iter,ifs,0⟩] sc pos) (use:=some (assign (.Name x px) X.env)) rfl hs (a3V hcells) S.kind S.own
  (thn (hi pins s σ H _ I h) fun v s1 h1=>thn h1 fun itv s2 h2=>?_)) fun _ s' hq=>wpAny_pure (wpAny_pure hq))
 obtain⟨_,_,_,_,_,_,I2,_⟩:=id h2
 refine a4T (Q:=fun v H'=>B0 j v σ H' D.nx) (RR:=fun acc C=>compPost (model X.prog X.w) X.A X.xe (some (assign (.Name x px) X.env)) (fun _ s'=>SP X pins D .next s') acc C) osc hosc N hN S hc hg ht he I2 h2 fun D' C H' s' mC I' nC fC q=>?_
 show wpAny _ _ (assign (.Name x px) X.env (.ref D')) _ _ s'
 refine wpAny_assign_Name (a5M I' hNd hj hx (v:= .ref D') rfl (fun s3 I3⟨a,sb,ha⟩=>?_) hf)
 have hCa:C≠a:=by
  rcases ha with e | e
  ·rw[e];exact fC.2.1
  ·exact fun z=>fC.2.2.2.2.1 x a e z.symm
 refine⟨mC,nC.sameBut sb hCa,fun h' sb2=>?_⟩
 obtain⟨f0,f1,_,f3,f4,f5⟩:=fC
 exact⟨_,H',I3.turned (t':=s3.toks) (fun b o hb e=>(sb2.2 b hb).trans e) f0 f1 f3 f4 f5,q⟩
end
end L2
namespace L2
open PySem PySem.Spec PyProof.Rows
section
variable{X:Cx}{tg:Expr}
theorem b3V{K:PySem.W.Frag}(h:X.K=K):IxR X (b5L K):=h▸J5
theorem a4R{K:PySem.W.Frag}(h:X.K=K):a1o X (.type "tuple") (fun xs H Q=>∃p ys,xs=[.ref p]/\((SqL K H p ys/\∀l,H l=none->Q (.ref l) (upd H l (.tup ys)))\/(SqT K H p ys/\Q (.ref p) H))):=h▸Y2
theorem a1X{K:PySem.W.Frag}{pos:Pos}{es:List Expr}{k:Nat}{t:TGs}{n:Nat}(hK:X.K=K)(hc:X.calm=true)(h:PGs X es t)(hn:(assignEach es X.env).length=n:=by rfl)(hst:(assignEach es X.env).findIdx? (·.1)=none:=by rfl):PG X (.Tuple es k pos) (b5n K n t):=hK▸E2 hc h hn hst
end
end L2
namespace L2
open PySem PySem.Spec PyProof.Rows
noncomputable def a6U (H:Hp) (v:V) (d:Str×Str):Prop:=∃p,v= .ref p/\H p=some (.tup [.str d.1,.str d.2])/\D3 d.1/\D3 d.2
noncomputable abbrev a5O (H:Hp):List V->List (Str×Str)->Prop:=Paired (a6U H)
theorem a6U.mono{H H':Hp}(s:J9 H H'){v:V}{t:Str×Str}(h:a6U H v t):a6U H' v t:=by
 obtain⟨p,e,h,o⟩:=h
 exact⟨p,e,s p _ h,o⟩
theorem a5O.mono{H H':Hp}(s:J9 H H'){vs:List V}{ts:List (Str×Str)}(h:a5O H vs ts):a5O H' vs ts:=Paired.mapP h fun _ _ q=>q.mono s
structure a1p(H:Hp)(t:Addr)(ps:List (Str×Str)):Prop where
 ex:∃vs,H t=some (.tup vs)/\a5O H vs ps
 hi:ps.length<=6
theorem a1p.mono{H H':Hp}(s:J9 H H'){t:Addr}{ts:List (Str×Str)}(h:a1p H t ts):a1p H' t ts:=by
 obtain⟨⟨vs,h1,h2⟩,hi⟩:=h
 exact⟨⟨vs,s t _ h1,h2.mono s⟩,hi⟩
noncomputable def a5l:Option Str->V
 | none=> .non
 | some x=> .str x
structure a9m(ts:List (Int×Th)):Prop where
 lo:1<=ts.length
 hi:ts.length<=6
 th:∀p∈ts,a9Z p.2
 sg:∀p∈ts,p.1=1\/p.1= -1
 hd:∀p,ts.head?=some p->p.1=1
inductive Rw where
 | bring (p:Str) (ps:List (Str×Str))
 | give (o g:Str)
 | set (o:Str) (ts:List (Int×Th))
 | take (o:Str)
 | say (ts:List (Int×Th)) (w:Option Str)
 | need (ts:List (Int×Th))
 | ask (p:Str) (w:Option Str)
 | part (p:Str)
 | doo (p:Str)
noncomputable def a0y (H:Hp) (r:Addr):Rw->Prop
 | .bring p ps=>∃t,H r=some (.tup [.str "bring",.str p,.ref t])/\a1p H t ps
 | .give o g=>H r=some (.tup [.str "give",.str o,.str g])
 | .set o ts=>∃t,H r=some (.tup [.str "set",.str o,.ref t])/\a0R H t ts
 | .take o=>H r=some (.tup [.str "take",.str o])
 | .say ts w=>∃t,H r=some (.tup [.str "say",.ref t,a5l w])/\a0R H t ts
 | .need ts=>∃t,H r=some (.tup [.str "need",.ref t])/\a0R H t ts
 | .ask p w=>H r=some (.tup [.str "ask",.str p,a5l w])
 | .part p=>H r=some (.tup [.str "part",.str p])
 | .doo p=>H r=some (.tup [.str "do",.str p])
theorem a0y.mono{H H':Hp}(s:J9 H H'){r:Addr}{rw:Rw}(h:a0y H r rw):a0y H' r rw:=by
 cases rw with
 | bring p ps=>obtain⟨t,h1,h2⟩:=h;exact⟨t,s _ _ h1,h2.mono s⟩
 | give o g=>exact s _ _ h
 | set o ts=>obtain⟨t,h1,h2⟩:=h;exact⟨t,s _ _ h1,h2.mono s⟩
 | take o=>exact s _ _ h
 | say ts w=>obtain⟨t,h1,h2⟩:=h;exact⟨t,s _ _ h1,h2.mono s⟩
 | need ts=>obtain⟨t,h1,h2⟩:=h;exact⟨t,s _ _ h1,h2.mono s⟩
 | ask p w=>exact s _ _ h
 | part p=>exact s _ _ h
 | doo p=>exact s _ _ h
end L2
namespace L2
open PySem PySem.Spec PyProof.Rows
section
variable{X:Cx}{elts:List Expr}{k:Nat}{tpos:Pos}
end
end L2
namespace L2
open PySem PySem.Spec PyProof.Rows
theorem a9w(a b:Str):(a++b).cps.toList=a.cps.toList++b.cps.toList:=by
 show(a.cps++b.cps).toList=_
 simp
noncomputable abbrev Pt:=Str×List Rw
noncomputable def b6f (H:Hp) (v:V) (rw:Rw):Prop:=∃r,v= .ref r/\a0y H r rw
noncomputable abbrev a0K (H:Hp):List V->List Rw->Prop:=Paired (b6f H)
theorem a0K.mono{H H':Hp}(s:J9 H H'){vs:List V}{rs:List Rw}(h:a0K H vs rs):a0K H' vs rs:=Paired.mapP h fun _ _⟨r,e,q⟩=>⟨r,e,q.mono s⟩
noncomputable def a1t (H:Hp) (v:V) (p:Pt):Prop:=∃t u vs,v= .ref t/\H t=some (.tup [.str p.1,.ref u])/\H u=some (.tup vs)/\a0K H vs p.2
theorem a1t.mono{H H':Hp}(s:J9 H H'){v:V}{p:Pt}(h:a1t H v p):a1t H' v p:=by
 obtain⟨t,u,vs,e,h1,h2,h3⟩:=h
 exact⟨t,u,vs,e,s _ _ h1,s _ _ h2,h3.mono s⟩
end L2
namespace L2
open PySem PySem.Spec PyProof.Rows
section
variable{κ:Type}[DecidableEq κ]
noncomputable def Y6 (kvs:List (κ×V)) (k:κ):Option V:=(kvs.find? fun kv=>decide (kv.1=k)).map (·.2)
noncomputable def O1 (kvs:List (κ×V)) (k:κ) (v:V):List (κ×V):=
 if(kvs.any fun kv=>decide (kv.1=k))=true then kvs.map (fun kv=>if kv.1=k then(kv.1,v)else kv)else kvs++[(k,v)]
theorem b2u{k:κ}:Y6 ([]:List (κ×V)) k=none:=rfl
theorem F2{p:κ×V}{r:List (κ×V)}{k:κ}(e:p.1=k):Y6 (p::r) k=some p.2:=by simp[Y6,List.find?_cons,e]
theorem E1{p:κ×V}{r:List (κ×V)}{k:κ}(e:¬p.1=k):Y6 (p::r) k=Y6 r k:=by simp[Y6,List.find?_cons,e]
theorem a1H(k:κ):∀kvs:List (κ×V),(kvs.any fun kv=>decide (kv.1=k))=(Y6 kvs k).isSome
 | []=>rfl
 | p::r=>by
  rw[List.any_cons]
  by_cases e:p.1=k
  ·simp only[F2 e,decide_eq_true e,Bool.true_or,Option.isSome_some]
  ·rw[E1 e,decide_eq_false e,Bool.false_or];exact a1H k r
theorem a7J(k j:κ)(y:V):∀kvs:List (κ×V),Y6 (kvs.map fun kv=>if kv.1=k then(kv.1,y)else kv) j=(Y6 kvs j).map fun x=>if j=k then y else x
 | []=>rfl
 | p::r=>by
  have ih:=a7J k j y r
  rw[List.map_cons]
  by_cases h:p.1=k
  ·rw[if_pos h]
   by_cases e:p.1=j
   ·rw[F2 (p:=(p.1,y)) e,F2 e,Option.map_some,if_pos (e.symm.trans h)]
   ·rw[E1 (p:=(p.1,y)) e,E1 e,ih]
  ·rw[if_neg h]
   by_cases e:p.1=j
   ·rw[F2 (p:=p) e,F2 e,Option.map_some,if_neg (fun z=>h (e.trans z))]
   ·rw[E1 (p:=p) e,E1 e,ih]
theorem a6k(k j:κ)(y:V):∀kvs:List (κ×V),Y6 kvs k=none->Y6 (kvs++[(k,y)]) j=if j=k then some y else Y6 kvs j
 | [],_=>by
  by_cases e:k=j
  ·rw[if_pos e.symm];exact F2 (p:=(k,y)) e
  ·rw[if_neg (fun z=>e z.symm)];exact E1 (p:=(k,y)) e
 | p::r,hn=>by
  rw[List.cons_append]
  have hk:¬p.1=k:=fun z=>by rw[F2 z]at hn;cases hn
  rw[E1 hk]at hn
  have ih:=a6k k j y r hn
  by_cases e:p.1=j
  ·rw[F2 e,F2 e,if_neg (fun z=>hk (e.trans z))]
  ·rw[E1 e,E1 e,ih]
theorem O9(kvs:List (κ×V))(k j:κ)(y:V):Y6 (O1 kvs k y) j=if j=k then some y else Y6 kvs j:=by
 unfold O1
 by_cases a:(kvs.any fun kv=>decide (kv.1=k))=true
 ·rw[if_pos a,a7J]
  rw[a1H]at a
  by_cases e:j=k
  ·obtain⟨x,hx⟩:=Option.isSome_iff_exists.mp a
   rw[if_pos e,e,hx,Option.map_some,if_pos rfl]
  ·rw[if_neg e]
   cases Y6 kvs j with
   | none=>rfl
   | some x=>rw[Option.map_some,if_neg e]
 ·rw[if_neg a]
  refine a6k k j y kvs ?_
  rw[a1H]at a
  cases q:Y6 kvs k with
  | none=>rfl
  | some x=>rw[q]at a;exact(a rfl).elim
theorem B4(kvs:List (κ×V))(k:κ)(v:V):(O1 kvs k v).length<=kvs.length+1:=by
 unfold O1
 split
 ·rw[List.length_map];omega
 ·rw[List.length_append,List.length_cons,List.length_nil];omega
theorem a5m.isSome_eq{o:Option V}{u:Option Value}(r:a5m o u):o.isSome=u.isSome:=by
 cases o with
 | none=>cases u with
  | none=>rfl
  | some _=>exact(show False from r).elim
 | some _=>cases u with
  | none=>exact(show False from r).elim
  | some _=>rfl
theorem KV.val{kvs:List (κ×V)}{vs:List (κ×Value)}(r:KV kvs vs)(k:κ):a5m (Y6 kvs k) (valueAt vs k):=by
 unfold KV at r
 induction r with
 | nil=>exact True.intro
 | @cons p q ps qs h t ih=>
  obtain⟨h1,h2⟩:=h
  by_cases e:p.1=k
  ·have e':q.1=k:=h1.symm.trans e
   have b:valueAt (q::qs) k=some q.2:=by simp[valueAt,List.find?_cons,e']
   rw[F2 e,b];exact h2
  ·have e':¬q.1=k:=fun z=>e (h1.trans z)
   have b:valueAt (q::qs) k=valueAt qs k:=by simp[valueAt,List.find?_cons,e']
   rw[E1 e,b];exact ih
theorem KV.any{kvs:List (κ×V)}{vs:List (κ×Value)}(r:KV kvs vs)(k:κ):(kvs.any fun kv=>decide (kv.1=k))=vs.any fun kv=>decide (kv.1=k):=by
 unfold KV at r
 induction r with
 | nil=>rfl
 | cons h t ih=>rw[List.any_cons,List.any_cons,ih,h.1]
theorem KV.repl{kvs:List (κ×V)}{vs:List (κ×Value)}(r:KV kvs vs)(k:κ){y:V}{u:Value}(ry:W7 y u):
  KV (kvs.map fun kv=>if kv.1=k then(kv.1,y)else kv) (vs.map fun kv=>if kv.1=k then(kv.1,u)else kv):=by
 unfold KV at r⊢
 induction r with
 | nil=>exact .nil
 | @cons p q ps qs h t ih=>
  rw[List.map_cons,List.map_cons]
  refine .cons ?_ ih
  obtain⟨h1,h2⟩:=h
  by_cases e:p.1=k
  ·rw[if_pos e,if_pos (h1.symm.trans e)];exact⟨h1,ry⟩
  ·rw[if_neg e,if_neg (fun z=>e (h1.trans z))];exact⟨h1,h2⟩
theorem KV.put{kvs:List (κ×V)}{vs:List (κ×Value)}(r:KV kvs vs)(k:κ){y:V}{u:Value}(ry:W7 y u):KV (O1 kvs k y) (stored vs k u):=by
 unfold O1 stored
 rw[r.any k]
 by_cases e:(vs.any fun kv=>decide (kv.1=k))=true
 ·rw[if_pos e,if_pos e];exact r.repl k ry
 ·rw[if_neg e,if_neg e];exact Paired.snoc r ⟨rfl,ry⟩
theorem KV.length{kvs:List (κ×V)}{vs:List (κ×Value)}(r:KV kvs vs):kvs.length=vs.length:=Paired.length r
end
theorem a6g{P:Program}{w:World}{k:Key}{u:Value}(r:W7 (kV k) u):(Z3 P w).is k u=true:=by
 cases k with
 | inl i=>obtain⟨t,e⟩:=(show∃t,u=Value.int i t from r);subst e;exact a7m P w i t
 | inr x=>obtain⟨t,e⟩:=(show∃t,u=Value.str x t from r);subst e;exact a4v P w x t
theorem a6o{P:Program}{w:World}:∀{ks:List Key}{us:List Value},W5 (ks.map kV) us->ItemsAre (Z3 P w) ks us
 | [],_,r=>by rw[List.map_nil]at r;cases r;exact .nil
 | k::ks,_,r=>by
  rw[List.map_cons]at r
  cases r with
  | cons h t=>exact .cons (a6g h) (a6o t)
noncomputable abbrev KT (H:Hp):List (List Key×V)->List (List Key×Addr×Value)->Prop:=Paired fun p q=>p.1=q.1/\H q.2.1=some (.tup (p.1.map kV))/\W7 p.2 q.2.2
theorem KT.val{H:Hp}{kvs:List (List Key×V)}{xs:List (List Key×Addr×Value)}(r:KT H kvs xs)(k:List Key):a5m (Y6 kvs k) ((atKey xs k).map (·.2)):=by
 induction r with
 | nil=>exact True.intro
 | @cons p q ps qs h t ih=>
  obtain⟨h1,_,h2⟩:=h
  by_cases e:p.1=k
  ·have e':q.1=k:=h1.symm.trans e
   have b:atKey (q::qs) k=some q.2:=by simp[atKey,List.find?_cons,e']
   rw[F2 e,b];exact h2
  ·have e':¬q.1=k:=fun z=>e (h1.trans z)
   have b:atKey (q::qs) k=atKey qs k:=by simp[atKey,List.find?_cons,e']
   rw[E1 e,b];exact ih
theorem KT.repl{H:Hp}{kvs:List (List Key×V)}{xs:List (List Key×Addr×Value)}(r:KT H kvs xs)(k:List Key){y:V}{u:Value}(ry:W7 y u):
  KT H (kvs.map fun kv=>if kv.1=k then(kv.1,y)else kv) (xs.map (putAt k u)):=by
 induction r with
 | nil=>exact .nil
 | @cons p q ps qs h t ih=>
  rw[List.map_cons,List.map_cons]
  refine .cons ?_ ih
  obtain⟨h1,h2,h3⟩:=h
  unfold putAt
  by_cases e:p.1=k
  ·rw[if_pos e,if_pos (h1.symm.trans e)];exact⟨h1,h2,ry⟩
  ·rw[if_neg e,if_neg (fun z=>e (h1.trans z))];exact⟨h1,h2,h3⟩
theorem KT.put{H:Hp}{kvs:List (List Key×V)}{xs:List (List Key×Addr×Value)}(r:KT H kvs xs)(k:List Key){b:Addr}{y:V}{u:Value}(hb:H b=some (.tup (k.map kV)))(ry:W7 y u):
  KT H (O1 kvs k y) (storedH xs k b u):=by
 have e:(kvs.any fun kv=>decide (kv.1=k))=(atKey xs k).isSome:=by
  rw[a1H,(r.val k).isSome_eq,Option.isSome_map]
 unfold O1 storedH
 rw[e]
 by_cases q:(atKey xs k).isSome=true
 ·rw[if_pos q,if_pos q];exact r.repl k ry
 ·rw[if_neg q,if_neg q];exact Paired.snoc r ⟨rfl,hb,ry⟩
theorem KT.keeps{H H':Hp}{kvs:List (List Key×V)}{xs:List (List Key×Addr×Value)}(r:KT H kvs xs)(ht:∀b ys,H b=some (.tup ys)->H' b=some (.tup ys)):KT H' kvs xs:=
 Paired.mapP r fun _ _ z=>⟨z.1,ht _ _ z.2.1,z.2.2⟩
section
variable{P:Program}{w:World}{H:Hp}{h:Heap}{a:Addr}
theorem b3Z{u:HO}(ok:HOk P w H h)(e:Rd H a u):Z7 P w H h a u:=e.ok ok
theorem a6q{kvs:List (Key×V)}(ok:HOk P w H h)(e:Rd H a (.dK kvs)):kvs.length<=sizeLine/\(a==sysModules)=false/\∃vs,KV kvs vs/\h.DictOf (Z3 P w) a vs:=
 show Z7 P w H h a (.dK kvs)from b3Z ok e
theorem b1m{kvs:List (Key×V)}(ok:HOk P w H h)(e:H a=some (.dK kvs)):kvs.length<=sizeLine/\(a==sysModules)=false/\∃vs,KV kvs vs/\h.DictOf (Z3 P w) a vs:=a6q ok (.inl e)
theorem a4U{ks:List Key}(ok:HOk P w H h)(e:H a=some (.tup (ks.map kV))):(tupleKind (Z3 P w)).is h ks a:=by
 obtain⟨_,its,r,o,h1,h2,n,h3⟩:=(show Z7 P w H h a (.tup (ks.map kV))from ok a _ e)
 exact⟨o,its.toArray,n,h1,h2,h3,by simpa using a6o r⟩
theorem a6u{kvs:List (List Key×V)}(ok:HOk P w H h)(e:Rd H a (.dT kvs)):kvs.length<=sizeLine/\(a==sysModules)=false/\
  ∃xs,KT H kvs xs/\h.DictOfH (tupleKind (Z3 P w)) a xs:=by
 obtain⟨z,y,xs,r,o,es,ep,h1,h2,h3,h4,h5⟩:=(show Z7 P w H h a (.dT kvs)from b3Z ok e)
 refine⟨z,y,xs,r,o,es,ep,h1,h2,h3,h4,fun x hx=>?_,h5⟩
 have all:∀{l:List (List Key×V)}{m:List (List Key×Addr×Value)},KT H l m->∀x∈m,(tupleKind (Z3 P w)).is h x.1 x.2.1:=by
  intro l m q
  induction q with
  | nil=>intro x hx;exact nomatch hx
  | @cons p q ps qs hq t ih=>
   intro x hx
   rcases List.mem_cons.mp hx with e | hx
   ·subst e
    exact a4U ok (by rw[<-hq.1];exact hq.2.1)
   ·exact ih x hx
 exact all r x hx
theorem b5M{kvs:List (List Key×V)}(ok:HOk P w H h)(e:H a=some (.dT kvs)):kvs.length<=sizeLine/\(a==sysModules)=false/\
  ∃xs,KT H kvs xs/\h.DictOfH (tupleKind (Z3 P w)) a xs:=a6u ok (.inl e)
end
noncomputable def F5 (H:Hp) (a:Addr) (y:V) (r:Option V):Prop:=
 (∃kvs k,Rd H a (.dK kvs)/\y=kV k/\r=Y6 kvs k)\/∃kvs k b,Rd H a (.dT kvs)/\y= .ref b/\H b=some (.tup (k.map kV))/\r=Y6 kvs k
noncomputable def a0C (H:Hp) (a:Addr) (y v:V) (H':Hp):Prop:=
 (∃kvs k,H a=some (.dK kvs)/\y=kV k/\kvs.length < sizeLine/\H'=upd H a (.dK (O1 kvs k v)))\/
 ∃kvs k b,H a=some (.dT kvs)/\y= .ref b/\H b=some (.tup (k.map kV))/\kvs.length < sizeLine/\H'=upd H a (.dT (O1 kvs k v))
theorem F5.k{H:Hp}{a:Addr}{kvs:List (Key×V)}{k:Key}(e:H a=some (.dK kvs)):F5 H a (kV k) (Y6 kvs k):= .inl ⟨kvs,k,.inl e,rfl,rfl⟩
theorem F5.t{H:Hp}{a b:Addr}{kvs:List (List Key×V)}{k:List Key}(e:H a=some (.dT kvs))(eb:H b=some (.tup (k.map kV))):F5 H a (.ref b) (Y6 kvs k):= .inr ⟨kvs,k,b,.inl e,rfl,eb,rfl⟩
theorem a0C.k{H:Hp}{a:Addr}{kvs:List (Key×V)}{k:Key}{v:V}(e:H a=some (.dK kvs))(hl:kvs.length < sizeLine):a0C H a (kV k) v (upd H a (.dK (O1 kvs k v))):= .inl ⟨kvs,k,e,rfl,hl,rfl⟩
theorem a0C.t{H:Hp}{a b:Addr}{kvs:List (List Key×V)}{k:List Key}{v:V}(e:H a=some (.dT kvs))(eb:H b=some (.tup (k.map kV)))(hl:kvs.length < sizeLine):
  a0C H a (.ref b) v (upd H a (.dT (O1 kvs k v))):= .inr ⟨kvs,k,b,e,rfl,eb,hl,rfl⟩
section
variable{X:Cx}{pins:List (Addr×Obj)}{σ:St}{H:Hp}{s:Shared}{a:Addr}{y v:V}{u r:Value}{o:Option V}{A:Around}{E:Value->Shared->Prop}
theorem Inv.big(I:Inv X pins σ H s):sysModules < s.heap.objs.size:=by
 have h:mainGlobals < s.heap.objs.size:=(I.mod.glob.keeps I.bk).lt
 exact Nat.lt_trans (by decide) h
theorem b0q{Q:Value->Shared->Prop}(hu:A.units+1 < cLine)(I:Inv X pins σ H s)(g:F5 H a y (some v))(ry:W7 y u)(h:∀w' s',Inv X pins σ H s'->W7 v w'->Q w' s'):
  wpAny (model X.prog X.w) A (getItem (.ref a) u) Q E s:=by
 rcases g with⟨kvs,k,e,ey,l⟩ | ⟨kvs,k,b,e,ey,eb,l⟩
 ·subst ey
  obtain⟨z,hd,vs,rel,dd⟩:=a6q I.hok e
  obtain⟨w',hw,rw'⟩:=a5m.some_of (v:=v) (o:=valueAt vs k) (by rw[l];exact rel.val k)
  exact wpAny_getItem_of (a6g ry) dd.mapOf hw (h w' _ (I.tok _) rw')
 ·subst ey
  cases(show u=Value.ref b from ry)
  obtain⟨z,hd,xs,rel,dd⟩:=a6u I.hok e
  obtain⟨w',hw,rw'⟩:=a5m.some_of (v:=v) (o:=(atKey xs k).map (·.2)) (by rw[l];exact rel.val k)
  obtain⟨p,hp,hp2⟩:=Option.map_eq_some_iff.mp hw
  refine wpAny_getItem_heap (tupleKind_room_in1 hu) (a4U I.hok eb) dd hp ?_
  rw[hp2]
  exact h w' _ (I.tok _) rw'
theorem b5W{Q:Value->Shared->Prop}(hu:A.units+1 < cLine)(I:Inv X pins σ H s)(g:F5 H a y o)(ry:W7 y u)(h:∀s',Inv X pins σ H s'->Q (.bool o.isSome) s'):
  wpAny (model X.prog X.w) A (compareOp .In u (.ref a)) Q E s:=by
 rcases g with⟨kvs,k,e,ey,l⟩ | ⟨kvs,k,b,e,ey,eb,l⟩
 ·subst ey
  obtain⟨z,hd,vs,rel,dd⟩:=a6q I.hok e
  refine wpAny_in_of (a6g ry) hd dd.mapOf ?_
  rw[<-(rel.val k).isSome_eq,<-l]
  exact h _ (I.tok _)
 ·subst ey
  cases(show u=Value.ref b from ry)
  obtain⟨z,hd,xs,rel,dd⟩:=a6u I.hok e
  refine wpAny_in_heap (tupleKind_room_in1 hu) (a4U I.hok eb) hd dd ?_
  have q:=(rel.val k).isSome_eq
  rw[Option.isSome_map]at q
  rw[<-q,<-l]
  exact h _ (I.tok _)
theorem b3g{Q:Value->Shared->Prop}(hu:A.units+1 < cLine)(I:Inv X pins σ H s)(g:F5 H a y o)(ry:W7 y u)(h:∀s',Inv X pins σ H s'->Q (.bool (!o.isSome)) s'):
  wpAny (model X.prog X.w) A (compareOp .NotIn u (.ref a)) Q E s:=by
 rcases g with⟨kvs,k,e,ey,l⟩ | ⟨kvs,k,b,e,ey,eb,l⟩
 ·subst ey
  obtain⟨z,hd,vs,rel,dd⟩:=a6q I.hok e
  refine wpAny_notIn_of (a6g ry) hd dd.mapOf ?_
  rw[<-(rel.val k).isSome_eq,<-l]
  exact h _ (I.tok _)
 ·subst ey
  cases(show u=Value.ref b from ry)
  obtain⟨z,hd,xs,rel,dd⟩:=a6u I.hok e
  refine wpAny_notIn_heap (tupleKind_room_in1 hu) (a4U I.hok eb) hd dd ?_
  have q:=(rel.val k).isSome_eq
  rw[Option.isSome_map]at q
  rw[<-q,<-l]
  exact h _ (I.tok _)
theorem a4M{h':Heap}{t':Nat}{ob:HO}(I:Inv X pins σ H s)(mu:Mut (H a))(hs:Heap.SameBut a s.heap h')(he:∃q,h'.get? a=some q)(new:Z7 X.prog X.w (upd H a ob) h' a ob):
  Inv X pins σ (upd H a ob) {s with heap:=h',toks:=t'}:=
 I.write (x:=a) (e:=a) mu (.inl rfl) (fun b q hb z=>(hs.2 b hb).trans z) he new
theorem a8t{P:Program}{w:World}{H':Hp}{h':Heap}{kvs:List (Key×V)}{vs:List (Key×Value)}(z:kvs.length<=sizeLine)(hd:(a==sysModules)=false)(rel:KV kvs vs)(dd:h'.DictOf (Z3 P w) a vs):
  Z7 P w H' h' a (.dK kvs):=⟨z,hd,vs,rel,dd⟩
theorem a9J{H':Hp}{Q:Unit->Shared->Prop}(hu:A.units+1 < cLine)(I:Inv X pins σ H s)(g:a0C H a y v H')(ry:W7 y u)(rv:W7 v r)(h:∀s',Inv X pins σ H' s'->Q () s'):
  wpAny (model X.prog X.w) A (setItem (.ref a) u r) Q E s:=by
 rcases g with⟨kvs,k,e,ey,l,eH⟩ | ⟨kvs,k,b,e,ey,eb,l,eH⟩
 ·subst ey eH
  obtain⟨z,hd,vs,rel,dd⟩:=b1m I.hok e
  have hz:vs.length<=sizeLine:=by rw[<-rel.length];exact z
  have hl:(O1 kvs k v).length<=sizeLine:=by have:=B4 kvs k v;omega
  refine wpAny_setItem_pairs (hsz:=hz) (a6g ry) dd fun h' dd' hs=>h _ ?_
  have he:∃q,h'.get? a=some q:=let⟨q,_,_,hq,_⟩:=dd';⟨q,hq⟩
  exact a4M I (by rw[e];exact True.intro) hs he (a8t hl hd (rel.put k rv) dd')
 ·subst ey eH
  cases(show u=Value.ref b from ry)
  obtain⟨z,hd,xs,rel,dd⟩:=b5M I.hok e
  have hz:xs.length<=sizeLine:=by rw[<-Paired.length rel];exact z
  have hl:(O1 kvs k v).length<=sizeLine:=by have:=B4 kvs k v;omega
  refine wpAny_setItem_heap (hsz:=hz) (tupleKind_room_in1 hu) (a4U I.hok eb) dd fun h' dd' hs=>h _ ?_
  obtain⟨q,es,ep,hq,h2,h3,h4,_,h5⟩:=dd'
  refine a4M I (by rw[e];exact True.intro) hs ⟨q,hq⟩ ⟨hl,hd,_,(rel.put k eb rv).keeps fun c ys ec=>?_,q,es,ep,hq,h2,h3,h4,h5⟩
  rw[G8 (a7u ec e (fun z=>nomatch z))]
  exact ec
end
section
variable{X:Cx}{pins:List (Addr×Obj)}{σ:St}{H:Hp}{s:Shared}{a:Addr}{kvs:List (Key×V)}{k:Key}{u:Value}{A:Around}{E:Value->Shared->Prop}
end
noncomputable def b5m (i:Expr):Prop:=∀ov iv,subscripted i false ov iv=operate [ov,iv] (getItem ov iv)
theorem b2Q{prog:Program}{w:World}{A:Around}{E:Value->Shared->Prop}{s:Shared}{env:Env}{value slice:Expr}{pos:Pos}{T id:String}{Q:Value->Shared->Prop}
  (hl:typeLookup (.type T) "__getitem__"=pure (some (.builtin id)))(hs:b5m slice)
  (h:wpAny (model prog w) A (eval value env) (fun o s₁=>wpAny (model prog w) A (eval slice env) (fun i s₂=>s₂.TypeIs o T/\wpAny (model prog w) A (getItem o i) Q E s₂) E s₁) E s):
  wpAny (model prog w) A (eval (.Subscript value slice pos) env) Q E s:=by
 refine Subscript_ (wpAny_mono h (fun o s₁ h₁=>wpAny_mono h₁ (fun i s₂ h₂=>?_) fun _ _ x=>x) fun _ _ x=>x)
 obtain⟨hT,h₂⟩:=h₂
 unfold subscriptTail
 refine wpAny_bind ?_
 rw[getitemInPython_of_ne hT.not_modules]
 refine wpAny_bind (wpAny_specialOf hT hl ?_)
 have fin:wpAny (model prog w) A (subscripted slice false o i) (fun r s₃=>wpAny (model prog w) A (letTemporaryGo value o r >>= fun _=>pure r) Q E s₃) E s₂:=by
  rw[hs o i]
  exact wpAny_operating (wpAny_mono h₂ (fun r s₃ h₃=>wpAny_bind (wpAny_letTemporaryGo (wpAny_pure h₃))) fun _ _ x=>x)
 first
  | exact wpAny_pure (wpAny_bind fin)
  | exact wpAny_bind (wpAny_pure (wpAny_bind fin))
  | exact wpAny_bind fin
theorem a7X{X:Cx}{pins:List (Addr×Obj)}{σ:St}{H:Hp}{s:Shared}{a:Addr}{y:V}{o:Option V}(I:Inv X pins σ H s)(g:F5 H a y o):s.TypeIs (.ref a) "dict":=by
 rcases g with⟨kvs,k,e,_,_⟩ | ⟨kvs,k,b,e,_,_,_⟩
 ·obtain⟨_,_,vs,_,dd⟩:=a6q I.hok e
  exact dd.typeIs
 ·obtain⟨_,_,xs,_,dd⟩:=a6u I.hok e
  exact dd.typeIs
noncomputable def b5P (td ty:TE):TE:=fun σ H Q=>td σ H fun x H1=>ty σ H1 fun y H2=>∃a v,x= .ref a/\F5 H2 a y (some v)/\Q v H2
noncomputable def b6z (ty td:TE):TE:=fun σ H Q=>ty σ H fun y H1=>td σ H1 fun x H2=>∃a o,x= .ref a/\F5 H2 a y o/\Q (.bl o.isSome) H2
noncomputable def b3C (ty td:TE):TE:=fun σ H Q=>ty σ H fun y H1=>td σ H1 fun x H2=>∃a o,x= .ref a/\F5 H2 a y o/\Q (.bl (!o.isSome)) H2
noncomputable def b5j (td ty tv:TE):TS:=fun D σ H=>tv σ H fun v H1=>td σ H1 fun x H2=>ty σ H2 fun y H3=>∃a H4,x= .ref a/\a0C H3 a y v H4/\D.nx σ H4
section
variable{X:Cx}{o i e value:Expr}{pos pos' tpos:Pos}{td ty tv:TE}
theorem Z0(hu:X.A.units+1 < cLine)(ho:PE X o td)(hi:PE X i ty)(hs:b5m i):PE X (.Subscript o i pos) (b5P td ty):=by
 intro pins s σ H Q I h
 refine b2Q PySem.F.slot_dict_getitem.lookup hs (thn (ho pins s σ H _ I h) fun u s1⟨x,H1,I1,rx,q1⟩=>thn (hi pins s1 σ H1 _ I1 q1) fun iv s2⟨y,H2,I2,ry,a,v,ex,g,q2⟩=>?_)
 subst ex
 obtain rfl:u=Value.ref a:=rx
 exact⟨a7X I2 g,b0q hu I2 g ry fun w' s3 I3 rw'=>⟨v,H2,I3,rw',q2⟩⟩
theorem a8G(hu:X.A.units+1 < cLine)(hi:PE X i ty)(ho:PE X o td):PC X .In i o (b6z ty td):=by
 intro pins s σ H Q I h
 refine thn (hi pins s σ H _ I h) fun iv s1⟨y,H1,I1,ry,q1⟩=>thn (ho pins s1 σ H1 _ I1 q1) fun u s2⟨x,H2,I2,rx,a,ov,ex,g,q2⟩=>?_
 subst ex
 obtain rfl:u=Value.ref a:=rx
 exact b5W hu I2 g ry fun s3 I3=>⟨.bl ov.isSome,H2,I3,rfl,q2⟩
theorem a4e(hu:X.A.units+1 < cLine)(hi:PE X i ty)(ho:PE X o td):PC X .NotIn i o (b3C ty td):=by
 intro pins s σ H Q I h
 refine thn (hi pins s σ H _ I h) fun iv s1⟨y,H1,I1,ry,q1⟩=>thn (ho pins s1 σ H1 _ I1 q1) fun u s2⟨x,H2,I2,rx,a,ov,ex,g,q2⟩=>?_
 subst ex
 obtain rfl:u=Value.ref a:=rx
 exact b3g hu I2 g ry fun s3 I3=>⟨.bl (!ov.isSome),H2,I3,rfl,q2⟩
theorem E5(hu:X.A.units+1 < cLine)(ho:PE X o td)(hi:PE X i ty)(hv:PE X value tv)(hs:swapsWith value (some (.Subscript o i pos')) pos.line X.env=pure false):
  PS X (.Assign [.Subscript o i pos'] value pos) (b5j td ty tv):=by
 intro pins s σ H D I h
 refine wpAny_Assign_Subscript (thn (hv pins s σ H _ I h) fun r s1⟨v,H1,I1,rv,q1⟩=>thn (ho pins s1 σ H1 _ I1 q1) fun u s2⟨x,H2,I2,rx,q2⟩=>thn (hi pins s2 σ H2 _ I2 q2) fun iv s3⟨y,H3,I3,ry,a,H4,ex,g,q3⟩=>?_) hs
 subst ex
 obtain rfl:u=Value.ref a:=rx
 exact a9J hu I3 g ry rv fun s4 I4=>⟨σ,H4,I4,q3⟩
end
theorem a5t{P:Program}{w:World}{H:Hp}(h:Heap)(hb:sysModules < h.objs.size):Z7 P w H (h.push {cls:= .type "dict",data:= .dict #[]}) h.objs.size (.dK []):=
 ⟨Nat.zero_le _,beq_eq_false_iff_ne.mpr (Ne.symm (Nat.ne_of_lt hb)),[],.nil,Heap.DictOf.new h⟩
theorem b1J{P:Program}{w:World}{H:Hp}(h:Heap)(hb:sysModules < h.objs.size):Z7 P w H (h.push {cls:= .type "dict",data:= .dict #[]}) h.objs.size (.dT []):=
 ⟨Nat.zero_le _,beq_eq_false_iff_ne.mpr (Ne.symm (Nat.ne_of_lt hb)),[],.nil,_, #[],0,Heap.get?_push_size _ rfl,⟨rfl,rfl,rfl⟩,rfl,rfl,List.nodup_nil⟩
noncomputable def b5g:TE:=fun _ H Q=>∀p,H p=none->Q (.ref p) (upd H p (.dK []))
noncomputable def b4g:TE:=fun _ H Q=>∀p,H p=none->Q (.ref p) (upd H p (.dT []))
section
variable{X:Cx}{pos:Pos}
theorem a2z:PE X (.Dict [] [] pos) b5g:=fun pins s σ H Q I h=>
 wpAny_Dict_empty ⟨.ref s.heap.objs.size,_,I.laid (a:=s.heap.objs.size) (o:= .dK []) (t':=s.toks) (fun _ _ q=>Heap.get?_push_of_some _ q) (Nat.le_refl _) (a5t s.heap I.big),rfl,h _ (I.hok.fresh (Nat.le_refl _))⟩
theorem M4:PE X (.Dict [] [] pos) b4g:=fun pins s σ H Q I h=>
 wpAny_Dict_empty ⟨.ref s.heap.objs.size,_,I.laid (a:=s.heap.objs.size) (o:= .dT []) (t':=s.toks) (fun _ _ q=>Heap.get?_push_of_some _ q) (Nat.le_refl _) (b1J s.heap I.big),rfl,h _ (I.hok.fresh (Nat.le_refl _))⟩
end
noncomputable def a9a:List (TE×TE)->St->Hp->(List (V×V)->Hp->Prop)->Prop
 | [],_,H,Q=>Q [] H
 | (tk,tv)::r,σ,H,Q=>tk σ H fun x H1=>tv σ H1 fun y H2=>a9a r σ H2 fun ps H3=>Q ((x,y)::ps) H3
noncomputable abbrev VV:List (V×V)->List (Value×Value)->Prop:=Paired fun p q=>W7 p.1 q.1/\W7 p.2 q.2
noncomputable def PPs (X:Cx) (pos:Pos) (keys:List (Option Expr)) (values:List Expr) (trs:List (TE×TE)):Prop:=
 ∀(pins:List (Addr×Obj))(s:Shared)(σ:St)(H:Hp)(Q:List (V×V)->Hp->Prop),Inv X pins σ H s->a9a trs σ H Q->
  wpAny (model X.prog X.w) X.A (evalPairs (pairTrees keys values X.env pos)) (fun vs s'=>∃ps H',Inv X pins σ H' s'/\VV ps vs/\Q ps H') X.xe s
theorem b3s{X:Cx}{pos:Pos}:PPs X pos [] [] []:=fun pins s σ H Q I h=>pairTrees_nil_walk ⟨[],H,I,.nil,h⟩
theorem b1v{X:Cx}{pos:Pos}{k v:Expr}{ks:List (Option Expr)}{vs:List Expr}{tk tv:TE}{trs:List (TE×TE)}(hk:PE X k tk)(hv:PE X v tv)(hr:PPs X pos ks vs trs):
  PPs X pos (some k::ks) (v::vs) ((tk,tv)::trs):=fun pins s σ H Q I h=>
 pairTrees_cons_walk (thn (hk pins s σ H _ I h) fun u s1⟨x,H1,I1,rx,q1⟩=>thn (hv pins s1 σ H1 _ I1 q1) fun w2 s2⟨y,H2,I2,ry,q2⟩=>
  thn (hr pins s2 σ H2 _ I2 q2) fun ws s3⟨ps,H3,I3,rel,q3⟩=>⟨(x,y)::ps,H3,I3,.cons ⟨rx,ry⟩ rel,q3⟩)
noncomputable def a2d (kvs more:List (Key×V)):List (Key×V):=more.foldl (fun acc kv=>O1 acc kv.1 kv.2) kvs
theorem KV.merge:∀{more:List (Key×V)}{rs:List (Key×Value)}{kvs:List (Key×V)}{vs:List (Key×Value)},KV more rs->KV kvs vs->KV (a2d kvs more) (merged vs rs):=by
 intro more rs kvs vs r
 unfold KV at r
 induction r generalizing kvs vs with
 | nil=>intro q;exact q
 | @cons p q ps qs h t ih=>
  intro r0
  have e:KV (O1 kvs p.1 p.2) (stored vs q.1 q.2):=by
   have:=r0.put p.1 h.2
   rw[<-h.1];exact this
  exact ih e
theorem a2Y:∀(more kvs:List (Key×V)),(a2d kvs more).length<=kvs.length+more.length
 | [],kvs=>by show kvs.length<=kvs.length+0;omega
 | p::r,kvs=>by
  have h1:=a2Y r (O1 kvs p.1 p.2)
  have h2:=B4 kvs p.1 p.2
  show(a2d (O1 kvs p.1 p.2) r).length<=_
  rw[List.length_cons];omega
theorem a5A{P:Program}{w:World}:∀{kvs:List (Key×V)}{ws:List (Value×Value)},VV (kvs.map fun kv=>(kV kv.1,kv.2)) ws->∃rs,Carries (Z3 P w) ws rs/\KV kvs rs
 | [],_,r=>by rw[List.map_nil]at r;cases r;exact⟨[],True.intro,.nil⟩
 | p::kvs,_,r=>by
  rw[List.map_cons]at r
  cases r with
  | @cons a b as bs h t=>
   obtain⟨rs,c,q⟩:=a5A (P:=P) (w:=w) t
   obtain⟨b1,b2⟩:=b
   exact⟨(p.1,b2)::rs,⟨a6g h.1,rfl,c⟩,.cons ⟨rfl,h.2⟩ q⟩
noncomputable def b5s (trs:List (TE×TE)):TE:=fun σ H Q=>∀p,H p=none->a9a trs σ (upd H p (.dK [])) fun ps H2=>H2 p=some (.dK [])/\∃kvs:List (Key×V),ps=kvs.map (fun kv=>(kV kv.1,kv.2))/\kvs.length<=15/\Q (.ref p) (upd H2 p (.dK (a2d [] kvs)))
theorem b3t{X:Cx}{pos:Pos}{keys:List (Option Expr)}{values:List Expr}{trs:List (TE×TE)}(h:PPs X pos keys values trs)(hall:keys.all (·.isSome)=true)(hl:keys.length=values.length)(h0:keys≠[])
  (h15:keys.length<=15):PE X (.Dict keys values pos) (b5s trs):=by
 intro pins s σ H Q I q
 have hn:=I.hok.fresh (Nat.le_refl s.heap.objs.size)
 have I1:=I.laid (a:=s.heap.objs.size) (o:= .dK []) (h':=s.heap.push {cls:= .type "dict",data:= .dict #[]}) (t':=s.toks) (fun _ _ q=>Heap.get?_push_of_some _ q) (Nat.le_refl _) (a5t s.heap I.big)
 refine wpAny_Dict_walk (knd:=Z3 X.prog X.w) hall hl h0 h15 (thn (h pins _ σ _ _ I1 (q _ hn)) fun ws s2⟨ps,H2,I2,rel,e,kvs,ep,lk,q2⟩=>?_)
 subst ep
 obtain⟨rs,c,rk⟩:=a5A (P:=X.prog) (w:=X.w) rel
 obtain⟨z,hd,vs0,r0,dd⟩:=b1m I2.hok e
 cases r0
 refine⟨rs,c,dd,fun h' dd' hs=>⟨.ref s.heap.objs.size,_,?_,rfl,q2⟩⟩
 have hz:(a2d [] kvs).length<=sizeLine:=by
  have h1:=a2Y kvs []
  rw[List.length_nil]at h1
  rw[sizeLine_eq];omega
 have he:∃q,h'.get? s.heap.objs.size=some q:=let⟨q,_,_,hq,_⟩:=dd';⟨q,hq⟩
 exact a4M I2 (by rw[e];exact True.intro) hs he (a8t hz hd (rk.merge .nil) dd')
section
variable{X:Cx}{pins:List (Addr×Obj)}{σ:St}{H:Hp}{s:Shared}{a:Addr}{y d:V}{u r:Value}{o:Option V}{A:Around}{E:Value->Shared->Prop}
end
section
variable{X:Cx}{o e f:Expr}{apos cpos:Pos}{td ty tx:TE}
end
section
variable{X:Cx}{pins:List (Addr×Obj)}{σ:St}{H:Hp}{s:Shared}{a:Addr}{kvs:List (Key×V)}{A:Around}{E:Value->Shared->Prop}
end
section
variable{X:Cx}{pins:List (Addr×Obj)}{σ:St}{H:Hp}{s:Shared}{a:Addr}{y:V}{u:Value}{A:Around}{E:Value->Shared->Prop}
end
end L2
namespace L2
open PySem PySem.Spec PyProof.Rows
section
variable{X:Cx}
end
section
variable{κ:Type}[DecidableEq κ]
theorem a9g{kvs:List (κ×V)}{k:κ}{v:V}(h:Y6 kvs k=some v):k∈kvs.map (·.1):=by
 have q:(kvs.any fun kv=>decide (kv.1=k))=true:=by
  rw[a1H,h]
  all_goals rfl
 obtain⟨p,hp,e⟩:=List.any_eq_true.mp q
 exact List.mem_map.mpr ⟨p,hp,of_decide_eq_true e⟩
end
end L2
namespace L2
open PySem PySem.Spec PyProof.Rows
theorem b0K{prog:Program}{w:World}{A:Around}{E:Value->Shared->Prop}{s:Shared}{a:Addr}{items:Array Value}{Q:Option Value->Shared->Prop}(hL:s.heap.IsTuple a items)(hn:∀o,s.heap.get? a=some o->o.dict=none)(hA:A.handled=none)
  (h:∀h' tk,(∀b ob,s.heap.get? b=some ob->h'.get? b=some ob)->Q none {s with heap:=h',toks:=tk}):wpAny (model prog w) A (getAttr? (.ref a) "keys") Q E s:=by
 obtain⟨⟨c,dct,dat,sl⟩,hx,hc,k,hd⟩:=hL
 have hdn:=hn _ hx
 simp only at hc hd hdn
 subst hc hd hdn
 obtain⟨hp,g,d,tk,os⟩:=s
 have hT:∀tk',(⟨hp,g,d,tk',os⟩:Shared).TypeIs (.ref a) "tuple":=fun _=>⟨_,hx,rfl⟩
 have f1:=sub_AttributeError
 have f3:=F.slot_tuple_getattribute.lookup
 have f4:=F.slot_tuple_getattribute.bind (.ref a)
 have f5:=am_tuple_getattr_none
 have hmiss:typeLookup (.type "tuple") "keys"=pure none:=am_miss_of_fast (by decide +kernel)
 unfold getAttr? getAttrBy? getAttrBy
 repeat (any_goals (first | assumption | exact hT _ | ((with_reducible show wpAny _ _ (call (Value.builtin "tuple.__getattribute__") _ _) _ _ _);refine call_meets F.slot_tuple_getattribute (hT _) am_entry_tuple_getattribute (F.args_tuple_getattribute_2 _ _) (meets_getattribute_miss_tuple a items k sl "keys" _ hmiss (by decide +kernel) (by decide +kernel)) ⟨hx,hA,fun h' tk' e hx'=>?_⟩) | wp_step))
 obtain⟨t',u',he⟩:=hx'.there
 show wpAny _ _ (getattributeRaised _ _ _ _ _ _ _) _ _ _
 unfold getattributeRaised
 repeat (any_goals (first | assumption | wp_step))
 exact h _ _ hx'.keeps
theorem a6v:entryFor table "dict.update.loop"=some Builtin.«dict.update.loop»:=entryFor_of_fast (by kernel_rfl)
theorem a2T:plainId "dict.update.loop"=true:=by decide +kernel
section
variable{X:Cx}
noncomputable def a0i (ps:List (Str×V)) (m:List (Key×V)):List (Key×V):=ps.foldl (fun m p=>O1 m (Sum.inr p.1) p.2) m
theorem a9H(hc:X.calm=true){A:Around}(hA:A.handled=none){pins:List (Addr×Obj)}{σ:St}{H0:Hp}{Q:VK}{a d it:Addr}{vs:List V}(hda:d≠a)(hit:it≠a)(hdi:d≠it):
  ∀(n i:Nat)(s:Shared)(m:List (Key×V))(ps:List (Str×V))(j:Int)(tk:Tok),n=vs.length - i->Inv X pins σ (upd H0 d (.dK m)) s->s.heap.IsTupleIter it a i->a3l X pins (upd H0 d (.dK m)) it->SqT X.K (upd H0 d (.dK m)) a vs->
   Paired (fun v(p:Str×V)=>∃t,v= .ref t/\t≠d/\SqT X.K H0 t [.str p.1,p.2]) (vs.drop i) ps->m.length+ps.length<=1000->H0 it=none->
   Q (.ref d) (upd H0 d (.dK (a0i ps m)))->codeAny (model X.prog X.w) A (.builtin "dict.update.loop" ⟨[.ref d,.ref it,.int j tk,.none],[]⟩) (wants (fun u s'=>u= .none/\∃H',Inv X pins σ H' s'/\Q (.ref d) H') (fun _ _=>False)) s:=by
 intro n
 induction n with
 | zero=>
  intro i s m ps j tk hn I st fp hsq hp hlen hn0 q
  have hd:vs.drop i=[]:=List.drop_eq_nil_of_le (by omega)
  rw[hd]at hp
  cases hp
  obtain⟨its,rv,pt,hz⟩:=I.tuple hsq
  have hl:=rv.length
  obtain⟨f0,f1,f2,f3,f4,f5⟩:=fp
  refine codeAny_builtin a6v ?_
  rw[Around.under_plainId a2T _]
  show wpAny _ A.in1 (pyNext (.ref it) >>= _) _ _ s
  refine wpAny_bind (wpAny_pyNext_tuple_end (A:=A.in1) hA st (show s.heap.IsTuple a its.toArray from pt) (by simp;omega) fun h' eb=>?_)
  have I':Inv X pins σ (upd H0 d (.dK m)) {s with heap:=h'}:=I.turned (t':=s.toks) (fun b o hb e=>eb b o hb e) f0 f1 f3 f4 f5
  show wpAny _ _ (Builtin.Dict.addKeywords d [] >>= _) _ _ _
  exact wpAny_bind (wpAny_pure (wpAny_pure ⟨rfl,_,I',q⟩))
 | succ n ih=>
  intro i s m ps j tk hn I st fp hsq hp hlen hn0 q
  have hi:i < vs.length:=by omega
  have hdr:vs.drop i=vs[i]::vs.drop (i+1):=List.drop_eq_getElem_cons hi
  rw[hdr]at hp
  cases hp with
  | @cons _ p _ ps' h1 hrest=>
  obtain⟨t,e,htd,ht⟩:=h1
  obtain⟨its,rv,pt,hz⟩:=I.tuple hsq
  have hl:=rv.length
  have hx:vs[i]?=some (V.ref t):=by simp[hi,e]
  obtain⟨u,hu,ru⟩:=rv.get hx
  cases ru
  obtain⟨f0,f1,f2,f3,f4,f5⟩:=id fp
  refine codeAny_builtin a6v ?_
  rw[Around.under_plainId a2T _]
  show wpAny _ A.in1 (pyNext (.ref it) >>= _) _ _ s
  refine wpAny_bind (wpAny_pyNext_tuple_item (A:=A.in1) st (show s.heap.IsTuple a its.toArray from pt) (x:= .ref t) (by simpa using hu) fun h' st' sb=>?_)
  have I':Inv X pins σ (upd H0 d (.dK m)) {s with heap:=h'}:=I.turned (t':=s.toks) (fun b o hb e=>(sb.2 b hb).trans e) f0 f1 f3 f4 f5
  have ht':SqT X.K (upd H0 d (.dK m)) t [.str p.1,p.2]:=by
   rcases ht with(ht | ⟨o,ht⟩) | ht
   ·exact .inl (.inl (by rw[G8 htd];exact ht))
   ·exact .inl (.inr ⟨o,by rw[G8 htd];exact ht⟩)
   ·exact .inr ht
  obtain⟨kv,rkv,ptt,_⟩:=I'.tuple ht'
  cases rkv with
  | @cons _ ku _ _ rk rr=>
  cases rr with
  | @cons _ vu _ _ rvv rr=>
  cases rr
  obtain⟨tk2,rfl⟩:=rk
  have hTy:(⟨h',s.gens,s.drawn,s.toks,s.os⟩:Shared).TypeIs (.ref t) "tuple":=by obtain⟨o,ho,hcl,_⟩:=ptt;exact⟨o,ho,hcl⟩
  dsimp only
  obtain⟨ot,hot,hoc,kt,hodat⟩:=ptt
  obtain⟨z,hsm,ws,rel,dd⟩:=b1m I'.hok (G1 (H:=H0) (a:=d) (o:= .dK m))
  have hz2:ws.length<=sizeLine:=by rw[<-rel.length];exact z
  refine wpAny_bind (wpAny_holding (wpAny_bind (wpAny_tryCatch ?_)))
  unfold Builtin.Dict.pairItems
  refine wpAny_bind (wpAny_typeOf hTy ?_)
  rw[if_pos (by decide)]
  refine wpAny_bind (wpAny_seqItems hot hodat (wpAny_pure ?_))
  show wpAny _ _ (holding [Value.str p.1 tk2,vu] (dictSet d (Value.str p.1 tk2) vu)) _ _ _
  refine wpAny_holding (wpAny_dictSet_pairs (knd:=Z3 X.prog X.w) (k:=Sum.inr p.1) (a4v X.prog X.w p.1 tk2) dd (fun h2 dd2 sb2=>?_) hz2)
  have hl2:(O1 m (Sum.inr p.1) p.2).length<=sizeLine:=by
   have h3:=B4 m (Sum.inr p.1) p.2
   have:sizeLine=16777216:=sizeLine_eq
   simp only[List.length_cons]at hlen
   omega
  have he:∃q,h2.get? d=some q:=let⟨q,_,_,hq,_⟩:=dd2;⟨q,hq⟩
  have I2:Inv X pins σ (upd (upd H0 d (.dK m)) d (.dK (O1 m (Sum.inr p.1) p.2))) {heap:=h2,gens:=s.gens,drawn:=s.drawn,toks:=s.toks+1,os:=s.os}:=
   a4M (s:={heap:=h',gens:=s.gens,drawn:=s.drawn,toks:=s.toks,os:=s.os}) (t':=s.toks+1) I' (by rw[G1];exact True.intro) sb2 he (a8t hl2 hsm (rel.put _ rvv) dd2)
  rw[b2J]at I2
  refine wpAny_pure ⟨plainId_quiet a2T _,?_⟩
  have hsq2:SqT X.K (upd H0 d (.dK (O1 m (Sum.inr p.1) p.2))) a vs:=by
   rcases hsq with(h | ⟨o,h⟩) | h
   ·rw[G8 hda.symm]at h;exact .inl (.inl (by rw[G8 hda.symm];exact h))
   ·rw[G8 hda.symm]at h;exact .inl (.inr ⟨o,by rw[G8 hda.symm];exact h⟩)
   ·exact .inr h
  refine ih (i+1) _ (O1 m (Sum.inr p.1) p.2) ps' (j+1) _ (by omega) I2 ?_ ⟨by rw[G8 hdi.symm];exact hn0,f1,f2,f3,f4,f5⟩ hsq2 hrest ?_ hn0 q
  ·obtain⟨oi,hoi,r⟩:=st'
   exact⟨oi,(sb2.2 it hdi.symm).trans hoi,r⟩
  ·have h3:=B4 m (Sum.inr p.1) p.2
   simp only[List.length_cons]at hlen
   omega
theorem a3f(hc:X.calm=true):a1o X (.type "dict") (fun xs H Q=>∃(a:Addr)(o:Obj)(vs:List V)(ps:List (Str×V)),xs=[.ref a]/\H a=some (.frz o (.tup vs))/\o.dict=none/\Paired (fun v(p:Str×V)=>∃t,v= .ref t/\SqT X.K H t [.str p.1,p.2]) vs ps/\ps.length<=1000/\
  ∀d,H d=none->Q (.ref d) (upd H d (.dK (a0i ps [])))):=by
 intro pins s σ H xs us Q I r h
 obtain⟨a,o,vs,ps,rfl,ha,hod,hp,hlen,q⟩:=h
 obtain⟨u,rfl,ru⟩:=a3z r
 cases ru
 have hsq:SqT X.K H a vs:= .inl (.inr ⟨o,ha⟩)
 obtain⟨its,rv,pt,hz⟩:=I.tuple hsq
 have hobj:s.heap.get? a=some o:=(I.hok a _ ha).1
 have hfr:H s.heap.objs.size=none:=I.hok.fresh (Nat.le_refl _)
 refine callType_codes (Q₁:=fun obj s₁=>obj= .ref s.heap.objs.size/\s₁={s with heap:=s.heap.push {cls:= .type "dict",data:= .dict #[]}}) F.kt_called_dict (F.kt_typeCall_dict_1 _) F.entry_dict_init (kt_code_dict_new _ ⟨rfl,rfl⟩) ?_
 rintro obj s₁ ⟨rfl,rfl⟩
 have I1:Inv X pins σ (upd H s.heap.objs.size (.dK [])) {s with heap:=s.heap.push {cls:= .type "dict",data:= .dict #[]}}:=
  I.laid (a:=s.heap.objs.size) (o:= .dK []) (t':=s.toks) (fun _ _ q=>Heap.get?_push_of_some _ q) (Nat.le_refl _) (a5t s.heap I.big)
 have hnew:(s.heap.push {cls:= .type "dict",data:= .dict #[]}).DictOf (Z3 X.prog X.w) s.heap.objs.size []:=Heap.DictOf.new s.heap
 refine⟨hnew.typeIs,F.args_dict_init_2 _ _,?_⟩
 unfold Builtin.«dict.__init__»
 refine wpAny_bind ?_
 unfold Builtin.Dict.selfAndRest
 refine wpAny_bind (wpAny_notOrdered_dict hnew.typeIs ?_)
 show wpAny _ _ (pure (s.heap.objs.size,[Value.ref a])) _ _ _
 refine wpAny_pure ?_
 show wpAny _ _ (Builtin.Dict.updateFrom "dict.__init__" s.heap.objs.size (.ref a) [] .none) _ _ _
 have had:s.heap.objs.size≠a:=Ne.symm (Y4 ha hfr)
 have hobj1:(s.heap.push {cls:= .type "dict",data:= .dict #[]}).get? a=some o:=Heap.get?_push_of_some _ hobj
 have htp:(s.heap.push {cls:= .type "dict",data:= .dict #[]}).IsTuple a its.toArray:=by
  obtain⟨o2,h1,h2⟩:=pt
  exact⟨o2,Heap.get?_push_of_some _ h1,h2⟩
 unfold Builtin.Dict.updateFrom
 refine wpAny_bind (wpAny_typeOf (s:={s with heap:=s.heap.push {cls:= .type "dict",data:= .dict #[]}}) (T:="tuple") (by obtain⟨o2,h1,h2,_⟩:=htp;exact⟨o2,h1,h2⟩) ?_)
 rw[if_pos (by decide)]
 refine wpAny_bind (b0K htp (fun o2 h2=>by rw[hobj1]at h2;cases h2;exact hod) (I.ok.hd hc) fun h' tk hk=>?_)
 rw[if_pos (show(none:Option Value).isNone=true from rfl)]
 refine wpAny_bind (wpAny_rule ?_)
 have I2:Inv X pins σ (upd H s.heap.objs.size (.dK [])) {s with heap:=h',toks:=tk}:=I1.kept hk
 have htp2:h'.IsTuple a its.toArray:=by
  obtain⟨o2,h1,h2⟩:=htp
  exact⟨o2,hk _ _ h1,h2⟩
 refine wpAny_bind (wpAny_pyIter_tuple (s:={s with heap:=h',toks:=tk}) htp2 ?_)
 refine wpAny_pure ⟨plainId_quiet a2T _,?_⟩
 have I3:=I2.kept (h':=h'.push {cls:= .type "tuple_iterator",data:= .fields #[.ref a,.int 0 0]}) (t':=tk) fun b ob e=>Heap.get?_push_of_some _ e
 have hfi:upd H s.heap.objs.size (.dK []) h'.objs.size=none:=I2.hok.fresh (Nat.le_refl _)
 have hdi:s.heap.objs.size≠h'.objs.size:=by
  intro z
  rw[<-z,G1]at hfi
  cases hfi
 have hfi0:H h'.objs.size=none:=by rw[G8 hdi.symm]at hfi;exact hfi
 have hia:h'.objs.size≠a:=fun z=>by
  rw[z,ha]at hfi0
  cases hfi0
 have hsq1:SqT X.K (upd H s.heap.objs.size (.dK [])) a vs:= .inl (.inr ⟨o,by rw[G8 had.symm];exact ha⟩)
 have L:=a9H (X:=X) hc (A:=X.A.in1) (I.ok.hd hc) (pins:=pins) (σ:=σ) (H0:=H) (Q:=Q) (a:=a) (d:=s.heap.objs.size) (it:=h'.objs.size) (vs:=vs) had hia hdi vs.length 0 _ [] ps 0 0 (by omega) I3 ⟨_,Heap.get?_push_size _ rfl,rfl,rfl⟩ (I2.fpOk (Nat.le_refl _) hfi) hsq1
  (Paired.mapP hp fun v p⟨t,e,ht⟩=>⟨t,e,fun z=>?_,ht⟩) (by simpa using hlen) hfi0 (q _ hfr)
 ·refine codeAny_mono L fun r s' hr=>?_
  cases r with
  | error e=>exact False.elim hr
  | ok f=>
   cases f with
   | ret v=>
    obtain⟨e,H',I',q'⟩:=hr
    exact⟨e,.ref s.heap.objs.size,H',I',rfl,q'⟩
   | next=>exact False.elim hr
   | brk=>exact False.elim hr
   | cont=>exact False.elim hr
 ·obtain⟨its2,_,⟨o2,h2,_⟩,_⟩:=I.tuple ht
  rw[z]at h2
  exact absurd (Heap.lt_size h2) (Nat.lt_irrefl _)
end
end L2
namespace L2
open PySem PySem.Spec PyProof.Rows PySem.W
section
variable{prog:Program}{w:World}{A:Around}{E:Value->Shared->Prop}{s:Shared}{T:String}{r d:Addr}{n:Nat}{P:Nat->Value->Prop}{OK:Heap->Prop}
theorem a7P{Q:List Value->Shared->Prop}(K:KdlSrc prog w T r d n P OK)(hh:A.handled=none)(hok:OK s.heap)(hn:n<=sizeLine)
  (hQ:∀(h':Heap)(tk:Nat)(acc:Array Value),(∀b o,s.heap.get? b=some o->h'.get? b=some o)->ItemsOf P acc n->Q acc.toList {s with heap:=h',toks:=tk}):wpAny (model prog w) A (collect (.ref r)) Q E s:=by
 unfold collect
 refine wpAny_bind (wpAny_runValue (codeAny_builtin F.entry_proto_collect ?_))
 rw[Around.under_plainId F.plain_proto_collect _]
 show wpAny _ A.in1 (newList [] >>= fun l=>again (.builtin "list.__iadd__" ⟨[l,.ref r],[]⟩)) _ _ s
 refine wpAny_bind (wpAny_newObj_type ?_)
 refine wpAny_pure ⟨plainId_quiet F.plain_list_iadd _,codeAny_builtin F.entry_list_iadd ?_⟩
 rw[Around.under_plainId F.plain_list_iadd _]
 have hS:(s.heap.push {cls:= .type "list",data:= .seq ([]:List Value).toArray}).get? s.heap.objs.size=some {cls:= .type "list",data:= .seq #[] 0}:=Heap.get?_push_size _ rfl
 have hlt:=K.there _ hok
 show wpAny _ A.in1 (Builtin.List.listExtendWith (.ref s.heap.objs.size) (.ref r) (.ref s.heap.objs.size)) _ _ _
 have fin':∀(h':Heap)(tk c':Nat)(acc':Array Value),(∀b o,b≠s.heap.objs.size->(s.heap.push {cls:= .type "list",data:= .seq ([]:List Value).toArray}).get? b=some o->h'.get? b=some o)->h'.get? s.heap.objs.size=some {cls:= .type "list",dict:=none,data:= .seq acc' c',slots:= #[]}->ItemsOf P acc' n->
   wpAny (model prog w) A (match Value.ref s.heap.objs.size with
   | Value.ref a=>do
    match(<-load a).data with
     | Data.seq xs _=>pure xs.toList
     | _=>unsupported "internal:collect"
   | _=>unsupported "internal:collect") Q E {s with heap:=h',toks:=tk}:=by
  intro h' tk c' acc' hk hS' hacc
  show wpAny _ A (load s.heap.objs.size >>= _) _ _ _
  refine wpAny_bind (wpAny_load hS' ?_)
  exact wpAny_pure (hQ h' tk acc' (fun b o e=>hk b o (Nat.ne_of_lt (Heap.lt_size e)) (Heap.get?_push_of_some _ e)) hacc)
 refine wpAny_mono (kdl_extend (A:=A) (R:=fun r s'=>∃(h':Heap)(tk c':Nat)(acc':Array Value),r= .ok (.ret (.ref s.heap.objs.size))/\s'={s with heap:=h',toks:=tk}/\(∀b o,b≠s.heap.objs.size->(s.heap.push {cls:= .type "list",data:= .seq ([]:List Value).toArray}).get? b=some o->h'.get? b=some o)/\h'.get? s.heap.objs.size=some {cls:= .type "list",dict:=none,data:= .seq acc' c',slots:= #[]}/\ItemsOf P acc' n)
  (s:={s with heap:=s.heap.push {cls:= .type "list",data:= .seq ([]:List Value).toArray}}) K hh (K.keep _ _ hok fun b _ o e=>Heap.get?_push_of_some _ e) s.heap.objs.size (Nat.ne_of_gt hlt.1) (Nat.ne_of_gt hlt.2) (.ref s.heap.objs.size) 0 hS (fun h' tk acc' c' hk hS' hacc=>⟨h',tk,c',acc',rfl,rfl,hk,hS',hacc⟩) hn) (fun fin s' h=>?_) (fun e s' h=>?_)
 ·cases fin with
  | done f=>
   obtain⟨h',tk,c',acc',e,rfl,hk,hS',hacc⟩:=h
   cases e
   exact fin' h' tk c' acc' hk hS' hacc
  | again c'=>exact⟨h.1,codeAny_mono h.2 fun r s'' hr=>by obtain⟨h',tk,c',acc',rfl,rfl,hk,hS',hacc⟩:=hr;exact fin' h' tk c' acc' hk hS' hacc⟩
 ·obtain⟨h',tk,c',acc',e,_⟩:=h
  cases e
theorem a3c{Q₁:Value->Shared->Prop}(K:KdlSrc prog w "dict" r d n P OK)(hh:A.handled=none)(hok:OK s.heap)
  (h:∀(h':Heap)(tk:Nat)(acc:Array Value),(∀b o,s.heap.get? b=some o->h'.get? b=some o)->ItemsOf P acc n->Q₁ (.ref h'.objs.size) {s with heap:=h'.push {cls:= .type "tuple",data:= .seq acc},toks:=tk})(hsz:n<=sizeLine):
  codeAny (model prog w) A (.call (.builtin "tuple.__new__") ⟨[.type "tuple",.ref r],[]⟩) (wants Q₁ E) s:=by
 refine codeAny_of_tree ?_
 show wpAny _ A.in1 (do checkBuiltinCall "tuple.__new__" ⟨[.type "tuple",.ref r],[]⟩;again (.builtin "tuple.__new__" ⟨[.type "tuple",.ref r],[]⟩)) _ _ s
 refine wpAny_bind (wpAny_of_eq (F.newCall_tuple_1 _) (wpAny_pure ⟨plainId_quiet F.plain_tuple_new _,codeAny_builtin F.entry_tuple_new ?_⟩))
 rw[Around.under_plainId F.plain_tuple_new _]
 have hsub:=sub_tuple_self
 have hinit:=init_tuple_lookup
 have hmh:=madeHere_tuple
 have hTI:=K.type s hok
 have hh1:A.in1.handled=none:=hh
 wp_walk using wpAny_typeOf hTI,a7P (A:=A.in1) K hh1 hok hsz
 intro h' tk acc hm hacc
 show wpAny _ _ (Builtin.Tuple.tupleExact acc.toList.toArray >>= fun v=>ret v) _ _ _
 unfold Builtin.Tuple.tupleExact
 refine wpAny_bind (wpAny_newObj_type ?_ (by show acc.toList.toArray.size<=sizeLine;simp only[Array.toArray_toList];rw[hacc.1];exact hsz))
 refine wpAny_pure ?_
 have e:acc.toList.toArray=acc:=by simp
 rw[e]
 exact h h' tk acc hm hacc
theorem a5B{Q:Value->Shared->Prop}(K:KdlSrc prog w "dict" r d n P OK)(hh:A.handled=none)(hok:OK s.heap)(hsz:n<=sizeLine)
  (hQ:∀(h':Heap)(tk:Nat)(acc:Array Value),(∀b o,s.heap.get? b=some o->h'.get? b=some o)->ItemsOf P acc n->Q (.ref h'.objs.size) {s with heap:=h'.push {cls:= .type "tuple",data:= .seq acc},toks:=tk}):
  wpAny (model prog w) A (call (.type "tuple") [.ref r]) Q E s:=by
 refine callType_codes (Q₁:=fun obj s₁=>s₁.TypeIs obj "tuple"/\Q obj s₁) F.called_tuple (F.typeCall_tuple_1 _) F.entry_object_init
  (a3c K hh hok (fun h' tk acc hm hacc=>⟨⟨_,Heap.get?_push_size _ rfl,rfl⟩,hQ h' tk acc hm hacc⟩) hsz) fun obj s₁ h₁=>?_
 exact⟨h₁.1,F.args_object_init_2 obj _,object_init_meets F.called_tuple.init.lookup F.called_tuple.made (by decide) prog w A.in1 _ s₁ ⟨h₁.1,rfl,h₁.2⟩⟩
end
theorem b5u{P:Program}{w:World}{k:Key}{u:Value}(h:(Z3 P w).is k u=true):W7 (kV k) u:=by
 rcases E8 (show a5E k u=true from h)with⟨i,t,rfl,rfl⟩ | ⟨x,t,rfl,rfl⟩
 ·exact⟨t,rfl⟩
 ·exact⟨t,rfl⟩
noncomputable def a4w (kvs:List (Key×V)):List V:=kvs.map fun kv=>kV kv.1
theorem a6R(kvs:List (Key×V)):(a4w kvs).length=kvs.length:=List.length_map _
theorem a6m{P:Program}{w:World}:∀{kvs:List (Key×V)}{vs:List (Key×Value)}{us:List Value},KV kvs vs->us.length=vs.length->(∀(j:Nat)(u:Value),us[j]?=some u->∃k x,vs[j]?=some (k,x)/\(Z3 P w).is k u=true)->W5 (a4w kvs) us
 | _,_,[],.nil,_,_=> .nil
 | _,_,_::_,.nil,hl,_=>by simp at hl
 | _,_,[],.cons _ _,hl,_=>by simp at hl
 | _,_,u::us,.cons (a:=p) (b:=q) h hr,hl,hv=>by
  obtain⟨k,x,e,hk⟩:=hv 0 u rfl
  simp only[List.getElem?_cons_zero,Option.some.injEq]at e
  subst e
  have h1:p.1=k:=h.1
  refine .cons (by show W7 (kV p.1) u;rw[h1];exact b5u hk) (a6m hr (by simpa using hl) fun j v hj=>by simpa using hv (j+1) v (by simpa using hj))
section
variable{X:Cx}
theorem a4x(hc:X.calm=true):a1o X (.type "tuple") (fun xs H Q=>∃a kvs,xs=[.ref a]/\Rd H a (.dK kvs)/\∀l,H l=none->Q (.ref l) (upd H l (.tup (a4w kvs)))):=by
 intro pins s σ H xs us Q I r h
 obtain⟨a,kvs,rfl,ha,q⟩:=h
 obtain⟨u,rfl,ru⟩:=a3z r
 cases ru
 obtain⟨z,hsm,vs,rel,dd⟩:=a6q I.hok ha
 have hl:=rel.length
 obtain⟨ep,hat⟩:=dd.dictAt
 refine a5B (kdl_dict (knd:=Z3 X.prog X.w) (kvs:=vs) (ep:=ep) hsm) (I.ok.hd hc) hat (by omega) fun h' tk acc hk hacc=>?_
 have I1:Inv X pins σ H {s with heap:=h',toks:=tk}:=I.kept (t':=tk) hk
 have hv:W5 (a4w kvs) acc.toList:=a6m rel (by rw[Array.length_toList];exact hacc.1) fun j u e=>hacc.2 j u (by rw[<-Array.getElem?_toList];exact e)
 have I2:Inv X pins σ (upd H h'.objs.size (.tup (a4w kvs))) {s with heap:=h'.push {cls:= .type "tuple",data:= .seq acc},toks:=tk}:=
  I1.laid (t':=tk) (fun b o e=>Heap.get?_push_of_some _ e) (Nat.le_refl _) (show Z7 X.prog X.w _ _ _ (.tup (a4w kvs))from⟨by rw[a6R];exact z,acc.toList,hv,by
   have:=IsTup.new h' acc
   simpa using this⟩)
 exact⟨.ref h'.objs.size,_,I2,rfl,q _ (I1.hok.fresh (Nat.le_refl _))⟩
end
end L2
namespace L2
open PySem PySem.Spec PyProof.Rows
noncomputable def R0:Rw->Str
 | .bring _ _=>"bring"
 | .give _ _=>"give"
 | .set _ _=>"set"
 | .take _=>"take"
 | .say _ _=>"say"
 | .need _=>"need"
 | .ask _ _=>"ask"
 | .part _=>"part"
 | .doo _=>"do"
noncomputable def Z2 (k:Str):Rw->Option Str
 | .bring p _=>if("bring":Str)=k then some p else none
 | .ask p _=>if("ask":Str)=k then some p else none
 | _=>none
noncomputable def a0l (l:List Str) (x:Str):List Str:=if x∈l then l else l++[x]
noncomputable def a2i (k:Str) (l:List Str) (r:Rw):List Str:=match Z2 k r with
 | none=>l
 | some x=>a0l l x
noncomputable def D8 (k:Str) (rs:List Rw):List Str:=rs.foldl (a2i k) []
theorem a3G(k:Str)(rs:List Rw)(r:Rw):D8 k (rs++[r])=a2i k (D8 k rs) r:=by
 unfold D8;rw[List.foldl_append];rfl
theorem a7y(l:List Str)(x:Str):(a0l l x).length<=l.length+1:=by
 unfold a0l;split<;>simp
theorem a9N(k:Str)(l:List Str)(r:Rw):(a2i k l r).length<=l.length+1:=by
 unfold a2i
 split
 ·omega
 ·exact a7y _ _
theorem a2h(k:Str):∀(rs:List Rw)(l:List Str),(rs.foldl (a2i k) l).length<=l.length+rs.length
 | [],l=>by simp
 | r::rs,l=>by
  have h1:=a2h k rs (a2i k l r)
  have h2:=a9N k l r
  simp only[List.foldl_cons,List.length_cons];omega
noncomputable def O6 (l:List Str):List (Key×V):=l.map fun x=>(Sum.inr x,.bl true)
theorem a2u(l:List Str):(O6 l).length=l.length:=List.length_map _
theorem a6b(l:List Str):a4w (O6 l)=l.map V.str:=by
 unfold a4w O6
 rw[List.map_map]
 rfl
theorem b1L(l:List Str)(x:Str):((O6 l).any fun kv=>decide (kv.1=Sum.inr x))=decide (x∈l):=by
 induction l with
 | nil=>simp[O6]
 | cons a r ih=>
  have:O6 (a::r)=(Sum.inr a,.bl true)::O6 r:=rfl
  rw[this,List.any_cons,ih]
  by_cases e:a=x
  ·subst e;simp
  ·have h1:¬(Sum.inr a:Key)=Sum.inr x:=fun z=>e (Sum.inr.inj z)
   have h2:¬x=a:=fun z=>e z.symm
   simp[e,h2]
theorem a3r(l:List Str)(x:Str):O1 (O6 l) (Sum.inr x) (.bl true)=O6 (a0l l x):=by
 unfold O1
 rw[b1L]
 unfold a0l
 by_cases e:x∈l
 ·rw[if_pos (by simpa using e),if_pos e]
  unfold O6
  rw[List.map_map]
  refine List.map_congr_left fun a _=>?_
  show(if(Sum.inr a:Key)=Sum.inr x then((Sum.inr a:Key),V.bl true)else(Sum.inr a,V.bl true))=_
  split<;>rfl
 ·rw[if_neg (by simpa using e),if_neg e]
  unfold O6
  rw[List.map_append]
  rfl
noncomputable def F3 (H:Hp) (a:Addr) (ps:List Pt):Prop:=∃o vs,H a=some (.frz o (.tup vs))/\o.dict=none/\Paired (a1t H) vs ps
theorem G6.partsF{H H':Hp}(s:G6 H H'){a:Addr}{ps:List Pt}(h:F3 H a ps):F3 H' a ps:=by
 obtain⟨o,vs,h1,h2,h3⟩:=h
 exact⟨o,vs,s _ _ h1,h2,Paired.mapP h3 fun _ _ q=>q.mono s.tups⟩
theorem a2S:∀(ps:List (Str×V))(m:List (Key×V))(n:Str)(v:V),(ps.map (·.1)).Nodup->((n,v)∈ps\/((∀p∈ps,p.1≠n)/\Y6 m (Sum.inr n)=some v))->Y6 (a0i ps m) (Sum.inr n)=some v
 | [],m,n,v,_,h=>by
  rcases h with h | h
  ·simp at h
  ·exact h.2
 | p::ps,m,n,v,hn,h=>by
  rw[List.map_cons,List.nodup_cons]at hn
  show Y6 (a0i ps (O1 m (Sum.inr p.1) p.2)) _=_
  refine a2S ps _ n v hn.2 ?_
  rcases h with h | ⟨h1,h2⟩
  ·rcases List.mem_cons.mp h with e | e
   ·refine .inr ⟨fun q hq z=>hn.1 ?_,?_⟩
    ·rw[<-e];show n∈_;rw[<-z];exact List.mem_map_of_mem hq
    ·rw[<-e]
     show Y6 (O1 m (Sum.inr n) v) (Sum.inr n)=_
     rw[O9,if_pos rfl]
   ·exact .inl e
  ·refine .inr ⟨fun q hq=>h1 q (List.mem_cons_of_mem _ hq),?_⟩
   rw[O9,if_neg (fun z=>h1 p List.mem_cons_self (Sum.inr.inj z).symm)]
   exact h2
theorem a0y.kind{H:Hp}{r:Addr}{rw:Rw}(h:a0y H r rw):∃x rest,H r=some (.tup (.str (R0 rw)::x::rest)):=by
 cases rw with
 | bring p ps=>obtain⟨t,h1,h2⟩:=h;exact⟨_,_,h1⟩
 | give o g=>exact⟨_,_,h⟩
 | set o ts=>obtain⟨t,h1,h2⟩:=h;exact⟨_,_,h1⟩
 | take o=>exact⟨_,_,h⟩
 | say ts w=>obtain⟨t,h1,h2⟩:=h;exact⟨_,_,h1⟩
 | need ts=>obtain⟨t,h1,h2⟩:=h;exact⟨_,_,h1⟩
 | ask p w=>exact⟨_,_,h⟩
 | part p=>exact⟨_,_,h⟩
 | doo p=>exact⟨_,_,h⟩
theorem a0y.named{H:Hp}{r:Addr}{rw:Rw}{k:Str}(h:a0y H r rw)(hk:k="bring" \/k="ask"):(R0 rw=k/\∃p rest,Z2 k rw=some p/\H r=some (.tup (.str k:: .str p::rest)))\/(R0 rw≠k/\Z2 k rw=none):=by
 rcases hk with rfl | rfl
 ·cases rw with
  | bring p ps=>obtain⟨t,h1,h2⟩:=h;exact .inl ⟨rfl,p,_,by simp[Z2],h1⟩
  | ask p w=>exact .inr ⟨by simp only[R0];decide +kernel,by simp only[Z2];rw[if_neg (by decide +kernel)]⟩
  | _=>exact .inr ⟨by simp only[R0];decide +kernel,rfl⟩
 ·cases rw with
  | ask p w=>exact .inl ⟨rfl,p,_,by simp[Z2],h⟩
  | bring p ps=>exact .inr ⟨by simp only[R0];decide +kernel,by simp only[Z2];rw[if_neg (by decide +kernel)]⟩
  | _=>exact .inr ⟨by simp only[R0];decide +kernel,rfl⟩
end L2
namespace L2
open PySem PySem.Spec PyProof.Rows
section
variable{X:Cx}
theorem a8e(c:Nat):∀(n:Nat)(acc:List Nat),(List.replicate n #[c]).foldl (· ++ ·) acc.toArray=(acc++List.replicate n c).toArray
 | 0,acc=>by simp
 | n+1,acc=>by
  rw[List.replicate_succ,List.foldl_cons,List.replicate_succ]
  have:acc.toArray++ #[c]=(acc++[c]).toArray:=by simp
  rw[this,a8e c n (acc++[c])]
  simp
theorem a9o:OpR X (binaryOp .Mult) (fun x y H Q=>∃(c:Nat)(k:Int),x= .str ⟨#[c]⟩/\y= .int k/\1<=k/\k<=1000/\Q (.str ⟨(List.replicate k.toNat c).toArray⟩) H):=by
 intro pins s σ H x y v u Q I rx ry h
 obtain⟨c,k,rfl,rfl,h1,h2,q⟩:=h
 obtain⟨t,rfl⟩:=rx
 obtain⟨t',rfl⟩:=ry
 have hl:(⟨#[c]⟩:Str).length=1:=rfl
 refine PySem.P.mul_str (by rw[decide_eq_false (by omega),decide_eq_false (by omega)];rfl) (fun _ _=>?_) (fun _ _=>?_) ?_
 ·rw[hl]
  have:(2 ^ 63 - 1)/k≥1:=by
   rw[ge_iff_le,Int.le_ediv_iff_mul_le (by omega)];omega
  omega
 ·rw[hl,Nat.one_mul]
  unfold Builtin.Str.tooLong
  have:sizeLine=16777216:=sizeLine_eq
  simp;omega
 ·rw[if_neg (by omega)]
  by_cases e:k=1
  ·subst e
   rw[if_pos (by simp)]
   exact⟨.str ⟨(List.replicate (1:Int).toNat c).toArray⟩,H,I,⟨t,rfl⟩,q⟩
  ·rw[if_neg (by rw[hl];simp[e])]
   have hr:=a8e c k.toNat []
   rw[List.nil_append]at hr
   rw[show(List.replicate k.toNat (⟨#[c]⟩:Str).cps).foldl (· ++ ·) #[]=(List.replicate k.toNat c).toArray from hr]
   exact⟨by show(List.replicate k.toNat c).toArray.size<=_;simp;have:sizeLine=16777216:=sizeLine_eq;omega,.str ⟨(List.replicate k.toNat c).toArray⟩,H,I.tok _,⟨_,rfl⟩,q⟩
end
noncomputable def a7r:Str:="abcdefghijklmnopqrstuvwxyz"
noncomputable def a0o (i:Int):Nat:=a7r.cps.toList.getD i.toNat 0
noncomputable def b4P (i:Int):Nat:=("abcdefghijklmnopqrstuvwxyz0123456789":Str).cps.toList.getD i.toNat 0
theorem b2a:∀i:Nat,i < 26->a3D (a7r.cps.toList.getD i 0)=true:=by decide +kernel
theorem b2w:∀i:Nat,i < 26->∀j:Nat,j < 26->a7r.cps.toList.getD i 0=a7r.cps.toList.getD j 0->i=j:=by decide +kernel
theorem a3P:a7r.cps.toList.length=26:=by decide +kernel
theorem a5Q{i j:Int}(hi:0<=i)(hi2:i < 26)(hj:0<=j)(hj2:j < 26)(h:a0o i=a0o j):i=j:=by
 have:=b2w i.toNat (by omega) j.toNat (by omega) h
 omega
noncomputable def a2b (b k:Int):Int:=(k*([1,5,7,11,13,23].getD (b % 6).toNat 0)+b/6) % 24
noncomputable def nm3 (b k z:Int):Nat->List Nat
 | 0=> []
 | j+1=>nm3 b k z j++[if(j:Int)=b/32 % z then a0o ((b/(256+11*j*j)+k) % 26)else if(j:Int)=0 then a0o (b/(256+11*j*j) % 26)else b4P (b/(256+11*j*j) % 36)]
noncomputable def Y3 (b k:Int):Str:=
 let k':=a2b b k
 let b':=b/144
 if b' % 4=0 then⟨(List.replicate (1+k' % 8).toNat (a0o ((b'/4+k'/8) % 26))).toArray⟩
 else if b' % 4=1 then⟨(List.replicate (1+b'/104 % 6).toNat (a0o (b'/4 % 26))).toArray⟩++Str.ofString (toString k')
 else⟨(nm3 b' k' (1+b'/4 % 8) (1+b'/4 % 8).toNat).toArray⟩
theorem a2O(b k:Int):0<=a2b b k/\a2b b k < 24:=by unfold a2b;omega
theorem b0A{b k l:Int}(hb:0<=b)(hk:0<=k)(hk2:k < 24)(hl:0<=l)(hl2:l < 24)(h:a2b b k=a2b b l):k=l:=by
 unfold a2b at h
 have h6:0<=b % 6:=by omega
 have h7:b % 6 < 6:=by omega
 have:(b % 6).toNat=0\/(b % 6).toNat=1\/(b % 6).toNat=2\/(b % 6).toNat=3\/(b % 6).toNat=4\/(b % 6).toNat=5:=by omega
 rcases this with e | e | e | e | e | e<;>rw[e]at h<;>simp only[List.getD_cons_zero,List.getD_cons_succ]at h<;>omega
theorem a2H(b k z:Int):∀n,(nm3 b k z n).length=n
 | 0=>rfl
 | n+1=>by
  show(nm3 b k z n++[_]).length=_
  rw[List.length_append,a2H b k z n];rfl
theorem a4K(b k z:Int):∀(n j:Nat),j < n->(nm3 b k z n)[j]?=some (if(j:Int)=b/32 % z then a0o ((b/(256+11*j*j)+k) % 26)else if(j:Int)=0 then a0o (b/(256+11*j*j) % 26)else b4P (b/(256+11*j*j) % 36))
 | 0,j,h=>by omega
 | n+1,j,h=>by
  show(nm3 b k z n++[_])[j]?=_
  by_cases e:j < n
  ·rw[List.getElem?_append_left (by rw[a2H];exact e)]
   exact a4K b k z n j e
  ·have:j=n:=by omega
   subst this
   rw[List.getElem?_append_right (by rw[a2H];exact Nat.le_refl _),a2H]
   simp
theorem b0k:∀i:Nat,i < 24->∀j:Nat,j < 24->Str.ofString (toString (i:Int))=Str.ofString (toString (j:Int))->i=j:=by decide +kernel
theorem a2w{a x y:Str}(h:a++x=a++y):x=y:=by
 have h2:(a++x).cps.toList=(a++y).cps.toList:=by rw[h]
 rw[a9w,a9w]at h2
 have h3:=List.append_cancel_left h2
 cases x;cases y
 congr
 exact Array.toList_inj.mp h3
theorem a4l{b k l:Int}(hb:0<=b)(hk:0<=k)(hk2:k < 24)(hl:0<=l)(hl2:l < 24)(h:Y3 b k=Y3 b l):k=l:=by
 refine b0A hb hk hk2 hl hl2 ?_
 obtain⟨r1,r2⟩:=a2O b k
 obtain⟨r3,r4⟩:=a2O b l
 unfold Y3 at h
 generalize a2b b k=k' at*
 generalize a2b b l=l' at*
 have hb':0<=b/144:=by omega
 generalize b/144=b' at*
 simp only at h
 split at h
 ·have h2:List.replicate (1+k' % 8).toNat (a0o ((b'/4+k'/8) % 26))=List.replicate (1+l' % 8).toNat (a0o ((b'/4+l'/8) % 26)):=by
   injection h with h
   exact congrArg Array.toList h
  have h3:=congrArg List.length h2
  simp only[List.length_replicate]at h3
  have h4:=congrArg List.head? h2
  rw[show(1+k' % 8).toNat=(k' % 8).toNat+1 by omega,show(1+l' % 8).toNat=(l' % 8).toNat+1 by omega,List.replicate_succ,List.replicate_succ]at h4
  simp only[List.head?_cons,Option.some.injEq]at h4
  have h5:=a5Q (by omega) (by omega) (by omega) (by omega) h4
  omega
 ·split at h
  ·have h2:=a2w h
   have e1:((k'.toNat:Nat):Int)=k':=by omega
   have e2:((l'.toNat:Nat):Int)=l':=by omega
   rw[<-e1,<-e2]at h2
   have:=b0k k'.toNat (by omega) l'.toNat (by omega) h2
   omega
  ·have h2:nm3 b' k' (1+b'/4 % 8) (1+b'/4 % 8).toNat=nm3 b' l' (1+b'/4 % 8) (1+b'/4 % 8).toNat:=by
    injection h with h
    exact congrArg Array.toList h
   have hz:0 < 1+b'/4 % 8:=by omega
   generalize 1+b'/4 % 8=z at*
   have hj1:0<=b'/32 % z:=Int.emod_nonneg _ (by omega)
   have hj2:b'/32 % z < z:=Int.emod_lt_of_pos _ hz
   have e1:(((b'/32 % z).toNat:Nat):Int)=b'/32 % z:=by omega
   have g1:=a4K b' k' z z.toNat (b'/32 % z).toNat (by omega)
   have g2:=a4K b' l' z z.toNat (b'/32 % z).toNat (by omega)
   rw[e1,if_pos rfl]at g1 g2
   rw[h2,g2]at g1
   injection g1 with g1
   have h5:=a5Q (by omega) (by omega) (by omega) (by omega) g1
   generalize b'/(256+11*(b'/32 % z)*(b'/32 % z))=q at*
   omega
end L2
namespace L2
open PySem PySem.Spec PyProof.Rows
section
variable{X:Cx}
theorem b1l{xs:List V}{its:List Value}(r:W5 xs its){y:V}{u:Value}(ru:W7 y u)(k:Nat):W5 (xs.take k++y::xs.drop k) (its.take k++u::its.drop k):=
 (r.take k).append (.cons ru (r.drop k))
noncomputable def b3j:V->List V->Hp->VK->Prop:=fun x vs H Q=>∃(l:Addr)(xs:List V)(i:Int)(y:V),x= .ref l/\vs=[.int i,y]/\H l=some (.lst xs)/\0<=i/\i<=xs.length/\xs.length < sizeLine/\Q .non (upd H l (.lst (xs.take i.toNat++y::xs.drop i.toNat)))
theorem a1I:MtM X "list.insert" b3j:=by
 intro pins s σ H x vs v us Q I rx rv h
 obtain⟨l,xs,i,y,rfl,rfl,hH,h0,h1,hz,q⟩:=h
 cases rx
 cases rv with
 | @cons _ u1 _ _ r1 rv=>
 cases rv with
 | @cons _ u2 _ _ r2 rv=>
 cases rv
 obtain⟨t,rfl⟩:=r1
 obtain⟨z,its,n,r,hl,e⟩:=I.lstM hH
 have hs:sizeLine=16777216:=sizeLine_eq
 have hfit:¬(!Builtin.List.listFitsIndex i)=true:=by
  rw[fitsIndex_both (by omega) (by omega)]
  exact Bool.false_ne_true
 refine call_meets F.slot_list_insert ⟨_,e,rfl⟩ F.entry_list_insert (F.args_list_insert_3 _ _ _) (PySem.AutoSeq1.list_insert_list_int_val_1 l its.toArray n i t u2 hfit (by rw[List.size_toArray];omega)) ⟨e,?_⟩
 refine⟨.non,_,I.lset (its':=its.take i.toNat++u2::its.drop i.toNat) hH e ?_ (b1l r r2 i.toNat) ?_,rfl,q⟩
 ·show(have k:=if i < 0 then(i+((its.toArray.size:Nat):Int)).toNat else min i.toNat its.toArray.size;(its.toArray.extract 0 k).push u2++its.toArray.extract k)=_
  have hk:min i.toNat its.toArray.size=i.toNat:=by rw[List.size_toArray];omega
  simp only[if_neg (show¬i < 0 by omega),hk]
  apply Array.toList_inj.mp
  simp
  exact List.take_of_length_le (by rw[List.length_drop];exact Nat.le_refl _)
 ·rw[List.length_append,List.length_cons,List.length_take,List.length_drop];omega
theorem a1P(hu:X.A.units < cLine):OpR X (compareOp .NotEq) (fun x y H Q=>∃a b xs,x= .ref a/\y= .ref b/\SqL X.K H a xs/\SqL X.K H b []/\Q (.bl (!xs.isEmpty)) H):=by
 intro pins s σ H x y v u Q I rx ry h
 obtain⟨a,b,xs,rfl,rfl,ha,hb,q⟩:=h
 cases rx
 cases ry
 obtain⟨its,r1,p1,_⟩:=I.list ha
 obtain⟨its2,r2,p2,_⟩:=I.list hb
 cases r2
 cases xs with
 | nil=>
  cases r1
  exact SeqAt.RcNeAt.lists (e:=fun _=>true) p1.isList p2.isList rfl hu (fun j h1 _=>absurd h1 (by simp)) _ _ _ _ ⟨.bl false,H,I,rfl,q⟩
 | cons c r=>
  have hl1:=r1.length
  exact SeqAt.RcNeAt.lists_lengths p1.isList p2.isList (by rw[bne_iff_ne];intro z;simp only[List.size_toArray,List.length_nil,List.length_cons]at z hl1;omega) hu _ _ _ _ ⟨.bl true,H,I,rfl,q⟩
end
end L2
namespace L2
open PySem PySem.Spec PyProof.Rows
noncomputable def b1d (K:PySem.W.Frag) (a b:Addr):It:=
 ⟨fun i H=>∃xs ys x y,SqL K H a xs/\SqL K H b ys/\xs[i]?=some x/\ys[i]?=some y,
   fun i H x H'=>∃p u v,(∀xs,SqL K H a xs->xs[i]?=some u)/\(∀ys,SqL K H b ys->ys[i]?=some v)/\H p=none/\x= .ref p/\H'=upd H p (.tup [u,v]),
   fun i H=>∃xs ys,SqL K H a xs/\SqL K H b ys/\xs.length=i/\ys.length=i⟩
noncomputable def a5X (n a b:Addr) (i:Nat) (h:Heap):Prop:=IsZip h (n+4) (n+2) (n+3) .none/\IsPair h (n+2) (.ref n) (.ref (n+1))/\(∃x y,IsPair h (n+3) x y)/\h.IsListIter n a i/\h.IsListIter (n+1) b i
noncomputable def a0M (n:Addr):List Addr:=[n+4,n+2,n+3,n,n+1]
theorem a5X.obj{n a b:Addr}{i:Nat}{h:Heap}(st:a5X n a b i h):∀c∈a0M n,∃o,h.get? c=some o/\∀v,o.data≠ .cell v:=by
 obtain⟨h1,h2,⟨x,y,h3⟩,⟨o4,e4,c4,d4⟩,⟨o5,e5,c5,d5⟩⟩:=st
 intro c hc
 simp only[a0M,List.mem_cons,List.not_mem_nil,or_false]at hc
 rcases hc with rfl | rfl | rfl | rfl | rfl
 ·exact⟨_,h1,fun v z=>nomatch z⟩
 ·exact⟨_,h2,fun v z=>nomatch z⟩
 ·exact⟨_,h3,fun v z=>nomatch z⟩
 ·exact⟨o4,e4,fun v z=>by rw[d4]at z;cases z⟩
 ·exact⟨o5,e5,fun v z=>by rw[d5]at z;cases z⟩
theorem a5X.keep{n a b:Addr}{i:Nat}{h h':Heap}(st:a5X n a b i h)(kk:∀c∈a0M n,∀o,h.get? c=some o->h'.get? c=some o):a5X n a b i h':=by
 obtain⟨h1,h2,⟨x,y,h3⟩,⟨o4,e4,r4⟩,⟨o5,e5,r5⟩⟩:=st
 exact⟨kk _ (by simp[a0M]) _ h1,kk _ (by simp[a0M]) _ h2,⟨x,y,kk _ (by simp[a0M]) _ h3⟩,⟨o4,kk _ (by simp[a0M]) _ e4,r4⟩,⟨o5,kk _ (by simp[a0M]) _ e5,r5⟩⟩
theorem b0u{P:Program}{w:World}{K:PySem.W.Frag}{elts:List Expr}{k:Nat}{pos:Pos}(n a b:Addr)(ha:a < n)(hb:b < n):
  a7Q P w K (.Tuple elts k pos) (b1d K a b) (a0M n) (n+4) (a5X n a b)where
 mem:=by simp[a0M]
 obj:=fun i h st=>st.obj
 keep:=fun i h h' st kk=>st.keep kk
 item:=by
  intro X hP hw hK hc i pins s σ H E I hf st hg
  subst hP hw hK
  obtain⟨xs,ys,x,y,hq1,hq2,hx,hy⟩:=hg
  obtain⟨its1,rv1,p1,hz1⟩:=I.list hq1
  obtain⟨its2,rv2,p2,hz2⟩:=I.list hq2
  obtain⟨u1,hu1,ru1⟩:=rv1.get hx
  obtain⟨u2,hu2,ru2⟩:=rv2.get hy
  have W:=WalksT.zip2 (prog:=X.prog) (w:=X.w) (A:=X.A) (I.ok.hd hc) (n+4) (n+2) (n+3) n (n+1) a b (PySem.W.ktu_apart n a b ha hb) its1.toArray its2.toArray
  have g1:=(List.getElem?_eq_some_iff.mp hu1).1
  have g2:=(List.getElem?_eq_some_iff.mp hu2).1
  have hsub:∀c,c∈[n+4,n+3,n,n+1]->c∈a0M n:=fun c hc=>by
   simp only[a0M,List.mem_cons,List.not_mem_nil,or_false]at hc⊢
   rcases hc with z | z | z | z<;>simp[z]
  have hfw:∀c∈[n+4,n+3,n,n+1],a3l X pins H c:=fun c hc=>hf c (hsub c hc)
  refine W.item i s _ _ (by simp only[List.size_toArray];omega) ⟨st.1,st.2.1,st.2.2.1,st.2.2.2.1,st.2.2.2.2,p1.isList,p2.isList⟩ fun T vals h' tk hPt hT hTup hM hk=>?_
  obtain⟨w1,w2,hw1,hw2,rfl⟩:=hPt
  have e1:w1=u1:=by
   have:its1[i]?=some w1:=by simpa using hw1
   rw[hu1]at this
   exact(Option.some.inj this).symm
  have e2:w2=u2:=by
   have:its2[i]?=some w2:=by simpa using hw2
   rw[hu2]at this
   exact(Option.some.inj this).symm
  subst e1 e2
  have I1:Inv X pins σ H {s with heap:=h',toks:=tk}:=I.turnedL hk hfw
  have hHT:H T=none:=I.hok.fresh hT
  have fT:a3l X pins H T:=I.fpOk hT hHT
  refine⟨_,rfl,W.go elts k pos i T {s with heap:=h',toks:=tk} _ _ hM fun h2 st2 hk2=>?_⟩
  have I2':=I1.turnedL (h':=h2) (t':=tk) hk2 hfw
  have I2:Inv X pins σ H {s with heap:=h2,toks:=tk}:=I2'
  have hT2:h2.IsTuple T #[w1,w2]:=by
   obtain⟨o,ho,r⟩:=hTup
   exact⟨o,hk2 T o (W.apart i T h' hM) ho,r⟩
  have I3:Inv X pins σ (upd H T (.tup [x,y])) {s with heap:=h2,toks:=tk}:=
   I2.track fT ⟨by show 2<=sizeLine;decide,[w1,w2],.cons ru1 (.cons ru2 .nil),hT2⟩
  refine⟨.ref T,_,I3,rfl,⟨T,x,y,fun zs hz'=>by rw[I.list_inj hz' hq1];exact hx,fun zs hz'=>by rw[I.list_inj hz' hq2];exact hy,hHT,rfl,rfl⟩,⟨st2.1,st2.2.1,st2.2.2.1,st2.2.2.2.1,st2.2.2.2.2.1⟩,fun c hc'=>?_⟩
  obtain⟨o,ho,_⟩:=st.obj c hc'
  have hlt:=Heap.lt_size ho
  rw[G8 (fun z=>by rw[z]at hlt;exact absurd hlt (Nat.not_lt.mpr hT))]
  exact(hf c hc').1
 done:=by
  intro X hP hw hK hc i pins s σ H E I hf st hg
  subst hP hw hK
  obtain⟨xs,ys,hq1,hq2,hx,hy⟩:=hg
  obtain⟨its1,rv1,p1,hz1⟩:=I.list hq1
  obtain⟨its2,rv2,p2,hz2⟩:=I.list hq2
  have W:=WalksT.zip2 (prog:=X.prog) (w:=X.w) (A:=X.A) (I.ok.hd hc) (n+4) (n+2) (n+3) n (n+1) a b (PySem.W.ktu_apart n a b ha hb) its1.toArray its2.toArray
  have l1:=rv1.length
  have l2:=rv2.length
  have hmin:min its1.toArray.size its2.toArray.size=i:=by simp only[List.size_toArray];omega
  rw[hmin]at W
  have hsub:∀c,c∈[n+4,n+3,n,n+1]->c∈a0M n:=fun c hc=>by
   simp only[a0M,List.mem_cons,List.not_mem_nil,or_false]at hc⊢
   rcases hc with z | z | z | z<;>simp[z]
  refine W.done s _ _ ⟨st.1,st.2.1,st.2.2.1,st.2.2.2.1,st.2.2.2.2,p1.isList,p2.isList⟩ fun h' tk hk=>⟨rfl,?_⟩
  exact I.turnedL hk fun c hc=>hf c (hsub c hc)
 self:=fun _ _ _ _ _ st h=>wpAny_pyIter_zip st.1 h
section
variable{X:Cx}{elts:List Expr}{k:Nat}{tpos:Pos}
noncomputable def b5z (K:PySem.W.Frag) (ta:TA):TI:=fun σ H R=>ta σ H fun vs H1=>∃a b,vs=[.ref a,.ref b]/\(∃xs,SqL K H1 a xs)/\(∃ys,SqL K H1 b ys)/\R (b1d K a b) H1
theorem b3k{e1 e2:Expr}{ta:TA}{p pos:Pos}(hg:Gl X "zip")(hm:X.mg "zip"=none)(ha:PA X [e1,e2] ta)(hs:starEach [e1,e2] X.env=(false,eval e1 X.env)::starEach [e2] X.env:=by rfl)(hs2:∀pos,(backTo pos (starEach [e2] X.env)).any (·.1)=false:=by intro _;rfl):
  PI X (.Tuple elts k tpos) (.Call (.Name "zip" p) [e1,e2] [] pos) (b5z X.K ta):=by
 intro pins s σ H R I h
 refine Call_ (a1b I hg hm boot_zip (PyProof.Rows.callWith_type1 (thn (ha pos pins s σ H _ I h) fun us s1⟨vs,H1,I1,r1,q1⟩=>?_) hs (hs2 _)))
 obtain⟨a,b,e,⟨xs,hq1⟩,⟨ys,hq2⟩,q⟩:=q1
 subst e
 cases r1 with
 | cons ra rr=>
 cases rr with
 | cons rb rr=>
  cases rr
  cases ra
  cases rb
  obtain⟨its1,rv1,p1,hz1⟩:=I1.list hq1
  obtain⟨its2,rv2,p2,hz2⟩:=I1.list hq2
  have la:a < s1.heap.objs.size:=by obtain⟨o,ho,_⟩:=p1.isList;exact Heap.lt_size ho
  have lb:b < s1.heap.objs.size:=by obtain⟨o,ho,_⟩:=p2.isList;exact Heap.lt_size ho
  refine call_zip_2 p1.isList p2.isList fun h' z1 z2 z3 z4 z5 z6 hk=>?_
  have I2:Inv X pins σ H1 {s1 with heap:=h'}:=I1.kept (t':=s1.toks) hk
  refine wpAny_pyIter_zip z1 ⟨s1.heap.objs.size+4,a0M s1.heap.objs.size,_,_,H1,rfl,I2,b0u s1.heap.objs.size a b la lb,⟨z1,z2,⟨_,_,z3⟩,z4,z5⟩,fun c hc=>?_,q⟩
  have hc':s1.heap.objs.size<=c:=by
   simp only[a0M,List.mem_cons,List.not_mem_nil,or_false]at hc
   rcases hc with z | z | z | z | z<;>rw[z]<;>first | exact Nat.le_refl _ | exact Nat.le_add_right _ _
  exact I1.fpOk hc' (I1.hok.fresh hc')
end
theorem b1y{K:PySem.W.Frag}{a b:Addr}{xs ys:List V}{g:TG}{tb:TS}{D:a1B}{σ:St}{H:Hp}(Pv:Nat->St->Hp->Prop)(hlen:xs.length=ys.length)(h0:Pv 0 σ H)(hl:∀i σ H,i<=xs.length->Pv i σ H->SqL K H a xs/\SqL K H b ys)
  (hs:∀i x y p σ H,xs[i]?=some x->ys[i]?=some y->Pv i σ H->H p=none->g (.ref p) σ (upd H p (.tup [x,y])) fun σ2 H2=>tb {D with nx:=Pv (i+1),ct:=Pv (i+1),bk:=D.nx} σ2 H2)(hd:∀σ H,Pv xs.length σ H->D.nx σ H):
  ∃W:Nat->Nat->St->Hp->Prop,(∃m,W 0 m σ H)/\∀i m σ H,W i m σ H->
   ((b1d K a b).stop i H/\D.nx σ H)\/((b1d K a b).go i H/\∃N:St->Hp->Prop,(∀σ' H',N σ' H'->∃m',m' < m/\W (i+1) m' σ' H')/\∀x H',(b1d K a b).yld i H x H'->g x σ H' fun σ2 H2=>tb {D with nx:=N,ct:=N,bk:=D.nx} σ2 H2):=by
 refine⟨fun i m σ H=>m=xs.length - i/\i<=xs.length/\Pv i σ H,⟨xs.length,by simp,Nat.zero_le _,h0⟩,?_⟩
 rintro i m σ H ⟨rfl,hi,p⟩
 have q:=hl i σ H hi p
 by_cases hlt:i < xs.length
 ·have hlt2:i < ys.length:=by omega
  refine .inr ⟨⟨xs,ys,xs[i],ys[i],q.1,q.2,by simp[hlt],by simp[hlt2]⟩,Pv (i+1),fun σ' H' p'=>⟨xs.length - (i+1),by omega,rfl,hlt,p'⟩,fun x H' y=>?_⟩
  obtain⟨pp,u,v,y1,y2,hn,e1,e2⟩:=y
  subst e1 e2
  exact hs i u v pp σ _ (y1 xs q.1) (y2 ys q.2) p hn
 ·have e:i=xs.length:=by omega
  subst e
  exact .inl ⟨⟨xs,ys,q.1,q.2,rfl,hlen.symm⟩,hd σ H p⟩
end L2
namespace L2
open PySem PySem.Spec PyProof.Rows
inductive Pr where
 | own (k n:Str) (xs:List Int)
 | bring (j:Nat) (ps:List (Str×Str)) (xs:List Int)
 | give (o g:Str) (xs:List Int)
 | ask (j:Nat) (xs:List Int)
 | sum (k:Str) (xs:List Int)
structure Pp where
 rows:List Pr
 owns:List Str
 gives:List Str
 sh:Int
noncomputable def a6T (H:Hp) (F:Addr->Prop) (x:Addr) (xs:List Int):Prop:=H x=some (.lst (xs.map V.int))/\¬F x
noncomputable def a6O (H:Hp) (F:Addr->Prop) (v:V):Pr->Prop
 | .own k n xs=>∃t x,v= .ref t/\H t=some (.tup [.str k,.str n,.ref x])/\a6T H F x xs
 | .bring j ps xs=>∃t u q x,v= .ref t/\H t=some (.tup [.str "bring",.ref u,.ref x])/\H u=some (.tup [.int j,.ref q])/\a1p H q ps/\a6T H F x xs
 | .give o g xs=>∃t u x,v= .ref t/\H t=some (.tup [.str "give",.ref u,.ref x])/\H u=some (.tup [.str o,.str g])/\a6T H F x xs
 | .ask j xs=>∃t x,v= .ref t/\H t=some (.tup [.str "ask",.int j,.ref x])/\a6T H F x xs
 | .sum k xs=>∃t x,v= .ref t/\H t=some (.tup [.str k,.non,.ref x])/\a6T H F x xs
theorem a6O.keep{H H':Hp}{F F':Addr->Prop}(ht:J9 H H')(hk:∀x xs,¬F x->H x=some (.lst xs)->H' x=some (.lst xs)/\¬F' x){v:V}{pr:Pr}(h:a6O H F v pr):a6O H' F' v pr:=by
 have X:∀{x xs},a6T H F x xs->a6T H' F' x xs:=fun{x xs}z=>hk x _ z.2 z.1
 cases pr with
 | own k n xs=>obtain⟨t,x,e,h1,h2⟩:=h;exact⟨t,x,e,ht _ _ h1,X h2⟩
 | bring j ps xs=>obtain⟨t,u,q,x,e,h1,h2,h3,h4⟩:=h;exact⟨t,u,q,x,e,ht _ _ h1,ht _ _ h2,h3.mono ht,X h4⟩
 | give o g xs=>obtain⟨t,u,x,e,h1,h2,h3⟩:=h;exact⟨t,u,x,e,ht _ _ h1,ht _ _ h2,X h3⟩
 | ask j xs=>obtain⟨t,x,e,h1,h2⟩:=h;exact⟨t,x,e,ht _ _ h1,X h2⟩
 | sum k xs=>obtain⟨t,x,e,h1,h2⟩:=h;exact⟨t,x,e,ht _ _ h1,X h2⟩
structure Q4 where
 p:Addr
 r:Addr
 o:Addr
 g:Addr
noncomputable def Q4.nth (q:Q4):Nat->Addr
 | 0=>q.p
 | 1=>q.r
 | 2=>q.o
 | _=>q.g
noncomputable def inH (l:Addr) (A:List Q4) (ex:List Addr) (a:Addr):Prop:=a=l\/a∈ex\/∃(i:Nat)(q:Q4)(x:Nat),A[i]?=some q/\x < 4/\q.nth x=a
structure b2k(H:Hp)(F:Addr->Prop)(q:Q4)(pp:Pp):Prop where
 p:H q.p=some (.lst [.ref q.r,.ref q.o,.ref q.g,.int pp.sh])
 r:∃vs,H q.r=some (.lst vs)/\Paired (a6O H F) vs pp.rows
 o:H q.o=some (.lst (pp.owns.map V.str))
 g:H q.g=some (.lst (pp.gives.map V.str))
structure U2(H:Hp)(l:Addr)(A:List Q4)(ex:List Addr)(hs:List Pp):Prop where
 ll:H l=some (.lst (A.map fun q=>V.ref q.p))
 len:A.length=hs.length
 pt:∀(i:Nat)(q:Q4)(pp:Pp),A[i]?=some q->hs[i]?=some pp->b2k H (inH l A ex) q pp
 nl:∀(i:Nat)(q:Q4)(x:Nat),A[i]?=some q->x < 4->q.nth x≠l
 xl:∀d∈ex,d≠l/\∀(i:Nat)(q:Q4)(x:Nat),A[i]?=some q->x < 4->q.nth x≠d
 ap:∀(i j:Nat)(q u:Q4)(x y:Nat),A[i]?=some q->A[j]?=some u->x < 4->y < 4->q.nth x=u.nth y->i=j/\x=y
theorem b2k.keep{H H':Hp}{F:Addr->Prop}{q:Q4}{pp:Pp}(ht:J9 H H')(hk:∀x xs,¬F x->H x=some (.lst xs)->H' x=some (.lst xs))(h4:∀x,x < 4->H' (q.nth x)=H (q.nth x))(h:b2k H F q pp):b2k H' F q pp where
 p:=(h4 0 (by omega)).trans h.p
 r:=by
  obtain⟨vs,h1,h2⟩:=h.r
  exact⟨vs,(h4 1 (by omega)).trans h1,Paired.mapP h2 fun _ _ z=>z.keep ht fun x xs hx hv=>⟨hk x xs hx hv,hx⟩⟩
 o:=(h4 2 (by omega)).trans h.o
 g:=(h4 3 (by omega)).trans h.g
theorem U2.same{H H':Hp}{l:Addr}{A:List Q4}{ex:List Addr}{hs:List Pp}(h:U2 H l A ex hs)(s:G6 H H'):U2 H' l A ex hs where
 ll:=s _ _ h.ll
 len:=h.len
 pt:=fun i q pp e1 e2=>by
  have z:=h.pt i q pp e1 e2
  obtain⟨vs,h1,h2⟩:=z.r
  exact⟨s _ _ z.p,⟨vs,s _ _ h1,Paired.mapP h2 fun _ _ y=>y.keep s.tups fun x xs hx hv=>⟨s _ _ hv,hx⟩⟩,s _ _ z.o,s _ _ z.g⟩
 nl:=h.nl
 xl:=h.xl
 ap:=h.ap
theorem U2.put{H:Hp}{l:Addr}{A:List Q4}{ex:List Addr}{hs:List Pp}(h:U2 H l A ex hs){i:Nat}{q:Q4}{pp pp':Pp}{x:Nat}{vs':List V}(e1:A[i]?=some q)(e2:hs[i]?=some pp)(hx:x < 4)
  (hn:∀H',H'=upd H (q.nth x) (.lst vs')->J9 H H'->(∀y ys,¬inH l A ex y->H y=some (.lst ys)->H' y=some (.lst ys))->(∀y,y < 4->y≠x->H' (q.nth y)=H (q.nth y))->b2k H' (inH l A ex) q pp')(hl:∃xs,H (q.nth x)=some (.lst xs)):
  U2 (upd H (q.nth x) (.lst vs')) l A ex (hs.set i pp'):=by
 obtain⟨xs,hl⟩:=hl
 have T:J9 H (upd H (q.nth x) (.lst vs')):=J9.lst hl
 have K:∀y ys,¬inH l A ex y->H y=some (.lst ys)->upd H (q.nth x) (.lst vs') y=some (.lst ys):=fun y ys hy hv=>by
  rw[G8 (fun z=>hy (Or.inr (Or.inr ⟨i,q,x,e1,hx,z.symm⟩)))]
  exact hv
 refine⟨?_,by rw[List.length_set];exact h.len,fun j u up f1 f2=>?_,h.nl,h.xl,h.ap⟩
 ·rw[G8 (h.nl i q x e1 hx).symm]
  exact h.ll
 ·by_cases hij:i=j
  ·subst hij
   rw[e1]at f1
   cases f1
   rw[List.getElem?_set_self ((List.getElem?_eq_some_iff.mp e2).1)]at f2
   cases f2
   refine hn _ rfl T K fun y hy hne=>?_
   rw[G8 (fun z=>hne (h.ap i i q q y x e1 e1 hy hx z).2)]
  ·rw[List.getElem?_set_ne hij]at f2
   refine(h.pt j u up f1 f2).keep T K fun y hy=>?_
   rw[G8 (fun z=>hij (h.ap j i u q y x f1 e1 hy hx z).1.symm)]
theorem U2.add{H H4:Hp}{l:Addr}{A:List Q4}{hs:List Pp}(h:U2 H l A [] hs){q:Q4}{c:Int}(s:G6 H H4)(hnew:∀x,x < 4->H (q.nth x)=none)(hdis:∀x y,x < 4->y < 4->q.nth x=q.nth y->x=y)
  (hp:H4 q.p=some (.lst [.ref q.r,.ref q.o,.ref q.g,.int c]))(hr:H4 q.r=some (.lst []))(ho:H4 q.o=some (.lst []))(hg:H4 q.g=some (.lst [])):
  U2 (upd H4 l (.lst ((A.map fun q=>V.ref q.p)++[.ref q.p]))) l (A++[q]) [] (hs++[⟨[],[],[],c⟩]):=by
 have hql:∀x,x < 4->q.nth x≠l:=fun x hx z=>by
  have:=hnew x hx
  rw[z,h.ll]at this
  cases this
 have hqa:∀(i:Nat)(u:Q4)(x y:Nat),A[i]?=some u->x < 4->y < 4->u.nth y≠q.nth x:=fun i u x y e hx hy z=>by
  have h1:=hnew x hx
  rw[<-z]at h1
  have hi:=(List.getElem?_eq_some_iff.mp e).1
  have hi2:i < hs.length:=by rw[<-h.len];exact hi
  have e2:hs[i]?=some hs[i]:=by simp[hi2]
  have P:=h.pt i u _ e e2
  obtain⟨vs,r1,_⟩:=P.r
  have:y=0\/y=1\/y=2\/y=3:=by omega
  rcases this with rfl | rfl | rfl | rfl
  ·rw[show H (u.nth 0)=_ from P.p]at h1;cases h1
  ·rw[show H (u.nth 1)=_ from r1]at h1;cases h1
  ·rw[show H (u.nth 2)=_ from P.o]at h1;cases h1
  ·rw[show H (u.nth 3)=_ from P.g]at h1;cases h1
 have T:J9 H (upd H4 l (.lst ((A.map fun q=>V.ref q.p)++[.ref q.p]))):=s.tups.trans (J9.lst (s _ _ h.ll))
 have hget:∀(i:Nat)(u:Q4),(A++[q])[i]?=some u->(A[i]?=some u)\/(i=A.length/\u=q):=fun i u e=>by
  by_cases hi:i < A.length
  ·rw[List.getElem?_append_left hi]at e
   exact .inl e
  ·rw[List.getElem?_append_right (by omega)]at e
   have h0:i - A.length=0:=by
    have:=(List.getElem?_eq_some_iff.mp e).1
    simp only[List.length_singleton]at this
    omega
   rw[h0]at e
   simp only[List.getElem?_cons_zero,Option.some.injEq]at e
   exact .inr ⟨by omega,e.symm⟩
 refine⟨?_,by rw[List.length_append,List.length_append,h.len];rfl,fun i u pp e1 e2=>?_,fun i u x e hx=>?_,fun d hd=>by simp at hd,fun i j u v x y e1 e2 hx hy z=>?_⟩
 ·rw[G1,List.map_append];rfl
 ·rcases hget i u e1 with f1 | ⟨f1,rfl⟩
  ·have hi:=(List.getElem?_eq_some_iff.mp f1).1
   rw[List.getElem?_append_left (by rw[<-h.len];exact hi)]at e2
   have P:=h.pt i u pp f1 e2
   have hne:∀x,x < 4->upd H4 l (.lst ((A.map fun q=>V.ref q.p)++[.ref q.p])) (u.nth x)=H4 (u.nth x):=fun x hx=>G8 (h.nl i u x f1 hx)
   obtain⟨vs,r1,r2⟩:=P.r
   refine⟨(hne 0 (by omega)).trans (s _ _ P.p),⟨vs,(hne 1 (by omega)).trans (s _ _ r1),Paired.mapP r2 fun _ _ y=>y.keep T fun x xs hx hv=>⟨?_,?_⟩⟩,(hne 2 (by omega)).trans (s _ _ P.o),(hne 3 (by omega)).trans (s _ _ P.g)⟩
   ·rw[G8 (fun z=>hx (Or.inl z))]
    exact s _ _ hv
   ·rintro(z | z | ⟨j,v,y,g1,g2,g3⟩)
    ·exact hx (Or.inl z)
    ·simp at z
    ·rcases hget j v g1 with g1 | ⟨g1,rfl⟩
     ·exact hx (Or.inr (Or.inr ⟨j,v,y,g1,g2,g3⟩))
     ·have:=hnew y g2
      rw[g3,hv]at this
      cases this
  ·rw[f1,h.len,List.getElem?_append_right (Nat.le_refl _),Nat.sub_self]at e2
   simp only[List.getElem?_cons_zero,Option.some.injEq]at e2
   subst e2
   have hne:∀x,x < 4->upd H4 l (.lst ((A.map fun q=>V.ref q.p)++[.ref u.p])) (u.nth x)=H4 (u.nth x):=fun x hx=>G8 (hql x hx)
   exact⟨(hne 0 (by omega)).trans hp,⟨[],(hne 1 (by omega)).trans hr,.nil⟩,(hne 2 (by omega)).trans ho,(hne 3 (by omega)).trans hg⟩
 ·rcases hget i u e with f1 | ⟨f1,rfl⟩
  ·exact h.nl i u x f1 hx
  ·exact hql x hx
 ·rcases hget i u e1 with f1 | ⟨f1,rfl⟩
  ·rcases hget j v e2 with g1 | ⟨g1,rfl⟩
   ·exact h.ap i j u v x y f1 g1 hx hy z
   ·exact absurd z (hqa i u y x f1 hy hx)
  ·rcases hget j v e2 with g1 | ⟨g1,rfl⟩
   ·exact absurd z.symm (hqa j v x y g1 hx hy)
   ·exact⟨by omega,hdis x y hx hy z⟩
theorem U2.there{H:Hp}{l:Addr}{A:List Q4}{ex:List Addr}{hs:List Pp}(h:U2 H l A ex hs){i:Nat}{q:Q4}{x:Nat}(e:A[i]?=some q)(hx:x < 4):∃xs,H (q.nth x)=some (.lst xs):=by
 have hi:=(List.getElem?_eq_some_iff.mp e).1
 have hi2:i < hs.length:=by rw[<-h.len];exact hi
 have P:=h.pt i q hs[i] e (by simp[hi2])
 obtain⟨vs,r1,_⟩:=P.r
 have:x=0\/x=1\/x=2\/x=3:=by omega
 rcases this with rfl | rfl | rfl | rfl
 ·exact⟨_,P.p⟩
 ·exact⟨_,r1⟩
 ·exact⟨_,P.o⟩
 ·exact⟨_,P.g⟩
theorem U2.aside{H:Hp}{l d:Addr}{A:List Q4}{ex:List Addr}{hs:List Pp}(h:U2 H l A ex hs)(hd:H d=none):U2 H l A (d::ex) hs where
 ll:=h.ll
 len:=h.len
 pt:=fun i q pp e1 e2=>by
  have P:=h.pt i q pp e1 e2
  obtain⟨vs,r1,r2⟩:=P.r
  refine⟨P.p,⟨vs,r1,Paired.mapP r2 fun _ _ y=>y.keep (J9.refl H) fun x xs hx hv=>⟨hv,?_⟩⟩,P.o,P.g⟩
  rintro(z | z | z)
  ·exact hx (Or.inl z)
  ·rcases List.mem_cons.mp z with z | z
   ·rw[z,hd]at hv;cases hv
   ·exact hx (Or.inr (Or.inl z))
  ·exact hx (Or.inr (Or.inr z))
 nl:=h.nl
 xl:=fun c hc=>by
  rcases List.mem_cons.mp hc with z | z
  ·rw[z]
   refine⟨fun y=>?_,fun i q x e hx y=>?_⟩
   ·rw[y,h.ll]at hd;cases hd
   ·obtain⟨xs,hxs⟩:=h.there e hx
    rw[y,hd]at hxs;cases hxs
  ·exact h.xl c z
 ap:=h.ap
theorem U2.back{H:Hp}{l d:Addr}{A:List Q4}{ex:List Addr}{hs:List Pp}(h:U2 H l A (d::ex) hs):U2 H l A ex hs where
 ll:=h.ll
 len:=h.len
 pt:=fun i q pp e1 e2=>by
  have P:=h.pt i q pp e1 e2
  obtain⟨vs,r1,r2⟩:=P.r
  refine⟨P.p,⟨vs,r1,Paired.mapP r2 fun _ _ y=>y.keep (J9.refl H) fun x xs hx hv=>⟨hv,?_⟩⟩,P.o,P.g⟩
  rintro(z | z | z)
  ·exact hx (Or.inl z)
  ·exact hx (Or.inr (Or.inl (List.mem_cons_of_mem _ z)))
  ·exact hx (Or.inr (Or.inr z))
 nl:=h.nl
 xl:=fun c hc=>h.xl c (List.mem_cons_of_mem _ hc)
 ap:=h.ap
theorem U2.other{H:Hp}{l d:Addr}{A:List Q4}{ex:List Addr}{hs:List Pp}{xs ys:List V}(h:U2 H l A ex hs)(hd:d∈ex)(hx:H d=some (.lst xs)):U2 (upd H d (.lst ys)) l A ex hs where
 ll:=by rw[G8 (h.xl d hd).1.symm];exact h.ll
 len:=h.len
 pt:=fun i q pp e1 e2=>(h.pt i q pp e1 e2).keep (J9.lst hx) (fun x zs hn hv=>by rw[G8 (fun z=>hn (Or.inr (Or.inl (by rw[z];exact hd))))];exact hv) fun x hx=>G8 ((h.xl d hd).2 i q x e1 hx)
 nl:=h.nl
 xl:=h.xl
 ap:=h.ap
end L2
namespace L2
open PySem PySem.Spec PyProof.Rows
theorem b4D:∀i:Nat,i < 36->a3q (("abcdefghijklmnopqrstuvwxyz0123456789":Str).cps.toList.getD i 0)=true:=by decide +kernel
theorem a0d{i:Int}(h0:0<=i)(h1:i < 26):a3D (a0o i)=true:=b2a i.toNat (by omega)
theorem b2L{i:Int}(h0:0<=i)(h1:i < 36):a3q (b4P i)=true:=b4D i.toNat (by omega)
theorem a6Y{c:Nat}(h:a3D c=true):a3q c=true:=by unfold a3q;rw[h];rfl
theorem a3X{l:List Nat}{c:Nat}{r:List Nat}(e:l=c::r)(hc:a3D c=true)(hr:∀x∈r,a3q x=true)(hl:r.length<=7):D3 ⟨l.toArray⟩:=by
 subst e
 show(a3D c && r.all a3q && decide (r.length<=7))=true
 rw[hc,List.all_eq_true.mpr hr,decide_eq_true hl]
 rfl
theorem b1G:∀i:Nat,i < 24->(∀c∈(Str.ofString (toString (i:Int))).cps.toList,a3q c=true)/\(Str.ofString (toString (i:Int))).cps.toList.length<=2:=by decide +kernel
theorem b1a(b k z:Int)(hb:0<=b)(hk:0<=k):∀n,∀c∈nm3 b k z n,a3q c=true
 | 0,c,hc=>by simp[nm3]at hc
 | n+1,c,hc=>by
  rcases List.mem_append.mp (show c∈nm3 b k z n++[_]from hc)with h | h
  ·exact b1a b k z hb hk n c h
  ·rw[List.mem_singleton.mp h]
   split
   ·exact a6Y (a0d (by omega) (by omega))
   ·split
    ·exact a6Y (a0d (by omega) (by omega))
    ·exact b2L (by omega) (by omega)
theorem a7U{b k:Int}(hb:0<=b):D3 (Y3 b k):=by
 obtain⟨r1,r2⟩:=a2O b k
 unfold Y3
 generalize a2b b k=k' at*
 have hb':0<=b/144:=by omega
 generalize b/144=b' at*
 simp only
 split
 ·refine a3X (r:=List.replicate (k' % 8).toNat (a0o ((b'/4+k'/8) % 26))) (c:=a0o ((b'/4+k'/8) % 26)) ?_ (a0d (by omega) (by omega)) (fun x hx=>?_) ?_
  ·rw[show(1+k' % 8).toNat=(k' % 8).toNat+1 by omega,List.replicate_succ]
  ·rw[(List.mem_replicate.mp hx).2]
   exact a6Y (a0d (by omega) (by omega))
  ·rw[List.length_replicate];omega
 ·split
  ·obtain⟨d1,d2⟩:=b1G k'.toNat (by omega)
   rw[show((k'.toNat:Nat):Int)=k' by omega]at d1 d2
   have e:(⟨(List.replicate (1+b'/104 % 6).toNat (a0o (b'/4 % 26))).toArray⟩:Str)++Str.ofString (toString k')=⟨(List.replicate (1+b'/104 % 6).toNat (a0o (b'/4 % 26))++(Str.ofString (toString k')).cps.toList).toArray⟩:=by
    show(⟨(List.replicate (1+b'/104 % 6).toNat (a0o (b'/4 % 26))).toArray++(Str.ofString (toString k')).cps⟩:Str)=_
    congr 1
    apply Array.toList_inj.mp
    simp
   rw[e]
   refine a3X (c:=a0o (b'/4 % 26)) (r:=List.replicate (b'/104 % 6).toNat (a0o (b'/4 % 26))++(Str.ofString (toString k')).cps.toList) ?_ (a0d (by omega) (by omega)) (fun x hx=>?_) ?_
   ·rw[show(1+b'/104 % 6).toNat=(b'/104 % 6).toNat+1 by omega,List.replicate_succ];rfl
   ·rcases List.mem_append.mp hx with h | h
    ·rw[(List.mem_replicate.mp h).2]
     exact a6Y (a0d (by omega) (by omega))
    ·exact d1 x h
   ·rw[List.length_append,List.length_replicate];omega
  ·have hz:0 < 1+b'/4 % 8:=by omega
   have hz8:1+b'/4 % 8<=8:=by omega
   generalize 1+b'/4 % 8=z at*
   have hl:=a2H b' k' z z.toNat
   have hs:=b1a b' k' z hb' r1 z.toNat
   have h0:=a4K b' k' z z.toNat 0 (by omega)
   cases e:nm3 b' k' z z.toNat with
   | nil=>rw[e]at hl;simp at hl;omega
   | cons c r=>
    rw[e]at hl hs h0
    refine a3X rfl ?_ (fun x hx=>hs x (List.mem_cons_of_mem _ hx)) (by simp only[List.length_cons]at hl;omega)
    simp only[List.getElem?_cons_zero,Option.some.injEq]at h0
    rw[h0]
    split
    ·exact a0d (by omega) (by omega)
    ·rw[if_pos (by rfl)]
     exact a0d (by omega) (by omega)
noncomputable def W9 (b sh:Int) (n:Nat):List Str:=(List.range n).map fun(j:Nat)=>Y3 b (((j:Int)+sh) % 24)
theorem a1g(b sh:Int)(n:Nat):(W9 b sh n).length=n:=by unfold W9;simp
theorem a1k(b sh:Int)(n:Nat):W9 b sh (n+1)=W9 b sh n++[Y3 b (((n:Int)+sh) % 24)]:=by
 unfold W9;rw[List.range_succ,List.map_append];rfl
theorem a4o{b sh:Int}{n:Nat}(hb:0<=b):∀x∈W9 b sh n,D3 x:=fun x hx=>by
 obtain⟨j,_,rfl⟩:=List.mem_map.mp hx
 exact a7U hb
end L2
namespace L2
open PySem PySem.Spec PyProof.Rows
section
variable{P:Program}{w:World}{A:Around}{E:Value->Shared->Prop}{s:Shared}{z TI TO i1 i2 l1 l2:Addr}{xs ys:Array Value}{I1 I2:Nat->Heap->Prop}{S1 S2:Heap->Prop}
end
section
variable{X:Cx}{elts:List Expr}{k:Nat}{tpos:Pos}
end
end L2
namespace L2
open PySem PySem.Spec PyProof.Rows PySem.W
noncomputable def a0A (h:Heap) (d:Addr) (es:Array DictEntry) (ep:Nat):Prop:=∃o,h.get? d=some o/\o.ExactDict/\o.data= .dict es ep
theorem a0A.move{h h':Heap}{d:Addr}{es:Array DictEntry}{ep:Nat}(r:a0A h d es ep)(k:∀o,h.get? d=some o->h'.get? d=some o):a0A h' d es ep:=by
 obtain⟨ob,e,c⟩:=r
 exact⟨ob,k ob e,c⟩
theorem a0A.lt{h:Heap}{d:Addr}{es:Array DictEntry}{ep:Nat}(r:a0A h d es ep):d < h.objs.size:=by
 obtain⟨ob,e,_⟩:=r
 exact Heap.lt_size e
section
variable{P:Program}{w:World}{A:Around}{E:Value->Shared->Prop}{s:Shared}{d:Addr}{es:Array DictEntry}{ep:Nat}
theorem a0A.ty(r:a0A s.heap d es ep):s.TypeIs (.ref d) "dict":=by
 obtain⟨ob,e,c,_⟩:=r
 exact⟨ob,e,c.1⟩
theorem a7h{Q:Value->Shared->Prop}(lo:(d==sysModules)=false)(r:a0A s.heap d es ep)
  (q:Q (.ref s.heap.objs.size) {s with heap:=s.heap.push {cls:= .type "dict_keyiterator",data:= .fields #[.ref d,.int 0 0,.int es.size 0,.int ep 0]}}):wpAny (model P w) A (pyIter (.ref d)) Q E s:=by
 have ty:=r.ty
 obtain⟨ob,eb,cb,db⟩:=r
 refine wpAny_pyIter_slot ty F.slot_dict_iter (wpAny_call_entry F.slot_dict_iter ty F.entry_dict_iter ?_ (F.args_dict_iter_1 _))
 unfold Builtin.«dict.__iter__» Builtin.Dict.dictSlotNone
 refine wpAny_bind (wpAny_bind (wpAny_notOrdered_dict ty ?_))
 show wpAny _ _ (pure (Value.ref d)) _ _ s
 refine wpAny_pure ?_
 show wpAny _ _ (Builtin.Dict.showsAll d >>= _) _ _ s
 unfold Builtin.Dict.showsAll
 rw[if_neg (fun z=>by rw[lo]at z;exact Bool.false_ne_true z)]
 refine wpAny_bind (wpAny_pure (wpAny_bind (wpAny_dictEntries eb db (wpAny_bind (wpAny_dictEpoch eb db ?_)))))
 refine wpAny_bind (wpAny_newObj_type (wpAny_pure ⟨_,rfl,"dict_keyiterator",_,⟨_,Heap.get?_push_size _ rfl,rfl⟩,F.slot_dict_keyiterator_next.lookup,?_⟩))
 simpa [rawInt]using q
theorem a7N{it:Addr}{i:Nat}{e:DictEntry}{Q:Option Value->Shared->Prop}(hi:s.heap.IsKeyIter it d i es.size ep)(r:a0A s.heap d es ep)(he:es[i]?=some e)
  (q:∀h',h'.IsKeyIter it d (i+1) es.size ep->Heap.SameBut it s.heap h'->Q (some e.key) {s with heap:=h'}):wpAny (model P w) A (pyNext (.ref it)) Q E s:=by
 obtain⟨oi,ei,ci,di⟩:=id hi
 obtain⟨ob,eb,cb,db⟩:=r
 unfold pyNext
 refine wpAny_bind (wpAny_attempt (wpAny_callSpecial?_slot (name:=Str.ofString "__next__") hi.typeIs F.slot_dict_keyiterator_next (wpAny_call_entry F.slot_dict_keyiterator_next hi.typeIs F.entry_dict_keyiterator_next ?_ (F.args_dict_keyiterator_next_1 _))))
 refine wpAny_bind (wpAny_pure (wpAny_bind (wpAny_bind ?_)))
 first | refine wpAny_bind (wpAny_typeNameOfWhole_keyiter hi.typeIs (wpAny_pure (wpAny_bind (wpAny_fieldsOf ei di ?_)))) | refine wpAny_bind (wpAny_typeNameOf_keyiter hi.typeIs (wpAny_pure (wpAny_bind (wpAny_fieldsOf ei di ?_))))
 simp only[show Builtin.Dict_items.ownsTuple "dict_keyiterator"=false by decide,Bool.false_eq_true,if_false]
 show wpAny _ _ (ite ((Value.ref d==Value.none)=true) _ _) _ _ s
 rw[if_neg (by exact Bool.false_ne_true)]
 refine wpAny_bind (wpAny_pure (wpAny_bind (wpAny_dictEntries eb db ?_)))
 rw[if_neg (by simp)]
 refine wpAny_bind (wpAny_pure (wpAny_bind (wpAny_dictEpoch eb db ?_)))
 rw[if_neg (by simp)]
 refine wpAny_pure ?_
 simp only[show¬((i:Int) < 0)from by omega,if_false,Int.toNat_natCast,he]
 refine wpAny_bind ?_
 first | refine wpAny_bind (wpAny_typeNameOfWhole_keyiter hi.typeIs (wpAny_pure (wpAny_bind (wpAny_isOneOf_keyiter hi.typeIs ?_)))) | refine wpAny_bind (wpAny_typeNameOf_keyiter hi.typeIs (wpAny_pure (wpAny_bind (wpAny_isOneOf_keyiter hi.typeIs ?_))))
 show wpAny _ _ (setField (Value.ref it) 1 (rawInt ((i:Int)+1)) >>= _) _ _ s
 refine wpAny_bind (wpAny_setField ei di (by simp) ?_)
 have hi2:(s.heap.update it (Obj.mapFields (·.setIfInBounds 1 (rawInt ((i:Int)+1))))).IsKeyIter it d (i+1) es.size ep:=⟨_,Heap.get?_update_self _ ei (Obj.isFreed_of_fields (Obj.data_mapFields di _)),(Obj.cls_mapFields ..).trans ci,by
  rw[Obj.data_mapFields di]
  simp[rawInt]⟩
 refine wpAny_bind (wpAny_holding (wpAny_bind (wpAny_isOneOf_keyiter (s:={s with heap:=s.heap.update it (Obj.mapFields (·.setIfInBounds 1 (rawInt ((i:Int)+1))))}) hi2.typeIs ?_)))
 show wpAny _ _ (pure e.key) _ _ _
 exact wpAny_pure (wpAny_pure ⟨_,rfl,wpAny_pure (q _ hi2 (Heap.SameBut.update ..))⟩)
theorem a7D{it:Addr}{i:Nat}{Q:Option Value->Shared->Prop}(hA:A.handled=none)(hi:s.heap.IsKeyIter it d i es.size ep)(r:a0A s.heap d es ep)(he:es[i]?=none)
  (q:∀h',Heap.ExtBut it s.heap h'->Q none {s with heap:=h'}):wpAny (model P w) A (pyNext (.ref it)) Q E s:=by
 obtain⟨oi,ei,ci,di⟩:=id hi
 obtain⟨ob,eb,cb,db⟩:=r
 unfold pyNext
 refine wpAny_bind (wpAny_attempt (wpAny_callSpecial?_slot (name:=Str.ofString "__next__") hi.typeIs F.slot_dict_keyiterator_next (wpAny_call_entry F.slot_dict_keyiterator_next hi.typeIs F.entry_dict_keyiterator_next ?_ (F.args_dict_keyiterator_next_1 _))))
 refine wpAny_bind (wpAny_pure (wpAny_bind (wpAny_bind ?_)))
 first | refine wpAny_bind (wpAny_typeNameOfWhole_keyiter hi.typeIs (wpAny_pure (wpAny_bind (wpAny_fieldsOf ei di ?_)))) | refine wpAny_bind (wpAny_typeNameOf_keyiter hi.typeIs (wpAny_pure (wpAny_bind (wpAny_fieldsOf ei di ?_))))
 simp only[show Builtin.Dict_items.ownsTuple "dict_keyiterator"=false by decide,Bool.false_eq_true,if_false]
 show wpAny _ _ (ite ((Value.ref d==Value.none)=true) _ _) _ _ s
 rw[if_neg (by exact Bool.false_ne_true)]
 refine wpAny_bind (wpAny_pure (wpAny_bind (wpAny_dictEntries eb db ?_)))
 rw[if_neg (by simp)]
 refine wpAny_bind (wpAny_pure (wpAny_bind (wpAny_dictEpoch eb db ?_)))
 rw[if_neg (by simp)]
 refine wpAny_pure ?_
 simp only[show¬((i:Int) < 0)from by omega,if_false,Int.toNat_natCast,he]
 refine wpAny_bind ?_
 first | refine wpAny_bind (wpAny_typeNameOfWhole_keyiter hi.typeIs (wpAny_pure ?_)) | refine wpAny_bind (wpAny_typeNameOf_keyiter hi.typeIs (wpAny_pure ?_))
 show wpAny _ _ (setField (Value.ref it) 0 .none >>= _) _ _ s
 refine wpAny_bind (wpAny_setField ei di (by simp) ?_)
 show wpAny _ _ (newExc (Value.type "StopIteration") [] >>= _) _ _ _
 refine wpAny_bind ?_
 simp only[newTuple,newExc]
 refine wpAny_bind (wpAny_newObj_type (wpAny_bind (m:=firstArgMember _ _) (wpAny_of_eq (a:=Value.none) (by first | rfl | (simp only[firstArgMember];rfl)) (wpAny_newObj_type ?_ (by size_fits)))) (by size_fits))
 simp only[raiseNew]
 refine wpAny_bind (wpAny_handled ?_)
 rw[show A.in1.handled=none from hA]
 refine wpAny_bind (wpAny_pure (wpAny_throw ?_))
 exact wpAny_bind (wpAny_isInstance (T:="StopIteration") (b:=true) ⟨_,Heap.get?_push_size _ rfl,rfl⟩ isSubtype_stop (wpAny_pure (q _ (((Heap.SameBut.update ..).extBut.push _).push _))))
theorem b0e(hA:A.handled=none)(I:Addr)(hne:d≠I):Walks P w A I [I,d] [I] es.size (fun i v=>∃e,es[i]?=some e/\v=e.key) (fun i h=>h.IsKeyIter I d i es.size ep/\a0A h d es ep)where
 sub:=fun b hb=>by
  have e:b=I:=by simpa using hb
  simp[e]
 frame:=fun _ _ _ st k=>⟨st.1.at fun o e=>k I (by simp) o e,st.2.move fun o e=>k d (by simp) o e⟩
 item:=fun i s Q E hlt st q=>by
  refine a7N st.1 st.2 (e:=es[i]) (by simp[hlt]) fun h' k1 k2=>?_
  exact q _ h' s.toks ⟨es[i],by simp[hlt],rfl⟩ ⟨k1,st.2.move fun o e=>k2.extBut _ o hne e⟩ fun b o hb e=>k2.extBut b o (fun z=>hb (by simp[z])) e
 done:=fun s Q E st q=>a7D hA st.1 st.2 (by simp) fun h' k=>q h' s.toks fun b o hb e=>k b o (fun z=>hb (by simp[z])) e
 self:=fun _ _ _ _ st q=>wpAny_pyIter_keyiter st.1 q
theorem b3u(lo:(d==sysModules)=false):KdlSrc P w "dict" d d es.size (fun i v=>∃e,es[i]?=some e/\v=e.key) (fun h=>a0A h d es ep)where
 type:=fun s r=>r.ty
 there:=fun _ r=>⟨r.lt,r.lt⟩
 keep:=fun _ _ r k=>r.move fun o e=>k d (.inl rfl) o e
 notList:=by decide
 notTuple:=by decide
 hint:=fun _ _ s _ r q=>kdl_hint_dict r.ty q
 iter:=fun _ s hA r=>⟨_,_,(fun _ _ q=>a7h lo r q),b0e hA _ (Nat.ne_of_lt r.lt),⟨⟨_,Heap.get?_push_size _ rfl,rfl,rfl⟩,r.move fun o e=>Heap.get?_push_of_some _ e⟩⟩
end
noncomputable def a2X (H:Hp) (v:V) (kv:List Key×V):Prop:=∃b,v= .ref b/\H b=some (.tup (kv.1.map kV))
theorem a7x{P:Program}{w:World}{H:Hp}{knd:HeapKind P w (List Key)}:∀{kvs:List (List Key×V)}{xs:List (List Key×Addr×Value)}{us:List Value},KT H kvs xs->us.length=xs.length->(∀(j:Nat)(u:Value),us[j]?=some u->∃e,(xs.map (entryOfKey knd))[j]?=some e/\u=e.key)->∃vs,W5 vs us/\Paired (a2X H) vs kvs
 | _,_,[],.nil,_,_=>⟨[],.nil,.nil⟩
 | _,_,_::_,.nil,hl,_=>by simp at hl
 | _,_,[],.cons _ _,hl,_=>by simp at hl
 | _,_,u::us,.cons (a:=p) (b:=q) h hr,hl,hv=>by
  obtain⟨e,he,hu⟩:=hv 0 u rfl
  simp only[List.map_cons,List.getElem?_cons_zero,Option.some.injEq]at he
  obtain⟨vs,h1,h2⟩:=a7x (knd:=knd) hr (by simpa using hl) fun j v hj=>by simpa using hv (j+1) v (by simpa using hj)
  refine⟨.ref q.2.1::vs,.cons ?_ h1,.cons ⟨q.2.1,rfl,h.2.1⟩ h2⟩
  rw[hu,<-he]
  rfl
section
variable{X:Cx}
theorem a8I(hc:X.calm=true):a1o X (.type "list") (fun xs H Q=>∃a kvs,xs=[.ref a]/\Rd H a (.dT kvs)/\∀l vs,H l=none->Paired (a2X H) vs kvs->Q (.ref l) (upd H l (.lst vs))):=by
 intro pins s σ H xs us Q I r h
 obtain⟨a,kvs,rfl,ha,q⟩:=h
 obtain⟨u,rfl,ru⟩:=a3z r
 cases ru
 obtain⟨z,lo,ts,rel,o,es,ep,h1,h2,h3,h4,_⟩:=a6u I.hok ha
 have hl:kvs.length=ts.length:=Paired.length rel
 have hes:es.size=ts.length:=by rw[<-Array.length_toList,h4,List.length_map]
 refine kdl_call (b3u (es:=es) (ep:=ep) lo) (I.ok.hd hc) ⟨o,h1,h2,h3⟩ (by omega) fun h' tk acc c hk hS hacc=>?_
 obtain⟨vs,v1,v2⟩:=a7x (us:=acc.toList) rel (by rw[Array.length_toList,hacc.1,hes]) fun j u e=>by
  obtain⟨e',he',hu⟩:=hacc.2 j u (by rw[<-Array.getElem?_toList];exact e)
  refine⟨e',?_,hu⟩
  rw[<-h4,Array.getElem?_toList]
  exact he'
 exact⟨.ref s.heap.objs.size,_,I.laid (t':=tk) hk (Nat.le_refl _) (show Z7 X.prog X.w _ h' _ (.lst vs)from⟨by rw[v1.length,Array.length_toList,hacc.1];omega,acc.toList,c,v1,by simpa using hS⟩),rfl,q _ vs (I.hok.fresh (Nat.le_refl _)) v2⟩
end
end L2
namespace L2
open PySem PySem.Spec PyProof.Rows
section
variable{X:Cx}
end
end L2
namespace L2
open PySem PySem.Spec PyProof.Rows PySem.W
section
variable{X:Cx}{pins:List (Addr×Obj)}{σ:List (Option V)}{H:Hp}{s:Shared}
theorem Inv.freeze{d:Addr}{o:Obj}{u:HO}(I:Inv X pins σ H s)(h:H d=some u)(n1:∀xs,u≠ .tup xs)(n2:∀o' u',u≠ .frz o' u')(n3:∀ps,u≠ .tbl ps)(n4:∀a,u≠ .own a)(ho:s.heap.get? d=some o):Inv X pins σ (upd H d (.frz o u)) s:=by
 have ne:∀{b:Addr}{v:HO},H b=some v->v≠u->b≠d:=fun{b v}e hv z=>by
  rw[z,h]at e
  exact hv (Option.some.inj e).symm
 have kt:∀(b:Addr)(xs:List V),H b=some (.tup xs)->upd H d (.frz o u) b=some (.tup xs):=fun b xs e=>by
  rw[G8 (ne e fun z=>n1 xs z.symm)]
  exact e
 have ko:∀(a b:Addr),H b=some (.own a)->upd H d (.frz o u) b=some (.own a):=fun a b e=>by
  rw[G8 (ne e fun z=>n4 a z.symm)]
  exact e
 refine I.step (h':=s.heap) (g':=s.gens) (d':=s.drawn) (t':=s.toks) (ch:=[]) (fun _ z=>nomatch z) (fun b ob _ _ _ e _=>e) (fun b ob _ _ _ e _=>⟨ob.slots,e⟩)
  (fun b ob _ _ n=>by rw[G8 (fun z=>by rw[z,h]at n;cases n)];exact n) (fun b ob _ e=>⟨ob,e⟩) kt
  (fun b ob v e=>by rw[G8 (ne e fun z=>n2 ob v z.symm)];exact e) (fun b ps e=>⟨#[],by rw[G8 (ne e fun z=>n3 ps z.symm),e];simp⟩) (fun m hm=>hm) (fun b v e=>?_) I.bare
 by_cases hb:b=d
 ·subst hb
  rw[G1]at e
  cases e
  exact⟨ho,(I.hok b u h).stay (fun c w _ q=>q) (fun c q=>ko b c q) kt⟩
 ·rw[G8 hb]at e
  exact(I.hok b v e).stay (fun c w _ q=>q) (fun c q=>ko b c q) kt
end
noncomputable def ItD (d:Addr) (o:Obj) (u:HO) (ks:List V):It:=⟨fun i H=>H d=some (.frz o u)/\i < ks.length,fun i H x H'=>H'=H/\ks[i]?=some x,fun i H=>H d=some (.frz o u)/\ks.length<=i⟩
theorem a9P{P:Program}{w:World}{K:PySem.W.Frag}{tg:Expr}{d it:Addr}{o:Obj}{u:HO}{ks:List V}{es:Array DictEntry}{ep:Nat}(hx:o.ExactDict)(hd:o.data= .dict es ep)(hl:ks.length=es.size)(hk:∀(i:Nat)(k:V),ks[i]?=some k->∃e:DictEntry,es[i]?=some e/\W7 k e.key):
  a7Q P w K tg (ItD d o u ks) [it] it (fun i h=>h.IsKeyIter it d i es.size ep)where
 mem:=by simp
 obj:=fun i h st b hb=>by
  have z:b=it:=by simpa using hb
  subst z
  obtain⟨oi,ei,ci,di⟩:=st
  exact⟨oi,ei,fun v y=>by rw[di]at y;cases y⟩
 keep:=fun i h h' st kp=>st.at fun ob e=>kp it (by simp) ob e
 item:=by
  intro X hP hw hK hc i pins s σ H E I hf st hg
  subst hP hw hK
  obtain⟨hfz,hi⟩:=hg
  have hod:s.heap.get? d=some o:=(show Z7 X.prog X.w H s.heap d (.frz o u)from I.hok d _ hfz).1
  obtain⟨k,hki⟩:∃k,ks[i]?=some k:=⟨ks[i],by simp[hi]⟩
  obtain⟨e,he,hr⟩:=hk i k hki
  obtain⟨f0,f1,f2,f3,f4,f5⟩:=hf it (by simp)
  refine a7N st ⟨o,hod,hx,hd⟩ he fun h' st' sb=>?_
  have I1:Inv X pins σ H {s with heap:=h'}:=I.turned (t':=s.toks) (fun b ob hb e=>(sb.2 b hb).trans e) f0 f1 f3 f4 f5
  obtain⟨oi,ei,ci,di⟩:=id st'
  exact⟨e.key,rfl,a9z (s:={s with heap:=h'}) ei ci di (by decide) ⟨k,H,I1,hr,⟨rfl,hki⟩,st',fun b hb=>(hf b hb).1⟩⟩
 done:=by
  intro X hP hw hK hc i pins s σ H E I hf st hg
  subst hP hw hK
  obtain⟨hfz,hi⟩:=hg
  have hod:s.heap.get? d=some o:=(show Z7 X.prog X.w H s.heap d (.frz o u)from I.hok d _ hfz).1
  obtain⟨f0,f1,f2,f3,f4,f5⟩:=hf it (by simp)
  exact a7D (I.ok.hd hc) st ⟨o,hod,hx,hd⟩ (by simp;omega) fun h' eb=>⟨rfl,I.turned (t':=s.toks) (fun b ob hb e=>eb b ob hb e) f0 f1 f3 f4 f5⟩
 self:=fun _ _ _ _ _ st h=>wpAny_pyIter_keyiter st h
section
variable{X:Cx}{tg:Expr}
theorem b0i{H:Hp}{h:Heap}{d:Addr}{kvs:List (List Key×V)}(ok:Z7 X.prog X.w H h d (.dT kvs)):∃(o:Obj)(es:Array DictEntry)(ep:Nat)(vs:List V),h.get? d=some o/\o.ExactDict/\o.data= .dict es ep/\(d==sysModules)=false/\Paired (a2X H) vs kvs/\vs.length=es.size/\∀(i:Nat)(k:V),vs[i]?=some k->∃e:DictEntry,es[i]?=some e/\W7 k e.key:=by
 obtain⟨z,lo,xs,rel,o,es,ep,h1,h2,h3,h4,h5⟩:=ok
 have rel':KT H kvs xs:=rel
 have l1:kvs.length=xs.length:=Paired.length rel
 have l2:es.size=xs.length:=by rw[<-Array.length_toList,h4,List.length_map]
 have hget:∀i,es[i]?=(xs[i]?).map (entryOfKey (tupleKind (Z3 X.prog X.w))):=fun i=>by
  rw[<-Array.getElem?_toList,h4,List.getElem?_map]
 refine⟨o,es,ep,xs.map fun x=>V.ref x.2.1,h1,h2,h3,lo,?_,by rw[List.length_map,l2],fun i k e=>?_⟩
 ·have:∀{kvs:List (List Key×V)}{xs:List (List Key×Addr×Value)},KT H kvs xs->Paired (a2X H) (xs.map fun x=>V.ref x.2.1) kvs:=by
   intro kvs xs r
   induction r with
   | nil=>exact .nil
   | cons a _ ih=>exact .cons ⟨_,rfl,a.2.1⟩ ih
  exact this rel'
 ·rw[List.getElem?_map]at e
  cases hx:xs[i]? with
  | none=>rw[hx]at e;cases e
  | some x=>
   rw[hx]at e
   have ek:V.ref x.2.1=k:=Option.some.inj e
   refine⟨entryOfKey (tupleKind (Z3 X.prog X.w)) x,by rw[hget,hx];rfl,?_⟩
   rw[<-ek]
   rfl
noncomputable def b4y (te:TE):TI:=fun σ H R=>te σ H fun x H1=>∃d kvs,x= .ref d/\H1 d=some (.dT kvs)/\∀o vs,Paired (a2X H1) vs kvs->R (ItD d o (.dT kvs) vs) (upd H1 d (.frz o (.dT kvs)))
theorem a5o{l:Expr}{tl:TE}(hl:PE X l tl):PI X tg l (b4y tl):=by
 intro pins s σ H R I h
 refine thn (hl pins s σ H _ I h) fun v s1⟨x,H1,I1,r1,q1⟩=>?_
 obtain⟨d,kvs,e,hd,q⟩:=q1
 subst e
 cases r1
 obtain⟨o,es,ep,vs,h1,h2,h3,lo,hp,hlen,hks⟩:=b0i (X:=X) (I1.hok d _ hd)
 have I2:=I1.freeze hd (fun _ z=>nomatch z) (fun _ _ z=>nomatch z) (fun _ z=>nomatch z) (fun _ z=>nomatch z) h1
 refine a7h lo ⟨o,h1,h2,h3⟩ ?_
 refine⟨s1.heap.objs.size,[s1.heap.objs.size],_,_,_,rfl,I2.kept (t':=s1.toks) fun b ob e=>Heap.get?_push_of_some _ e,a9P h2 h3 hlen hks,⟨_,Heap.get?_push_size _ rfl,rfl,rfl⟩,fun b hb=>?_,q o vs hp⟩
 have z:b=s1.heap.objs.size:=by simpa using hb
 subst z
 exact I2.fpOk (Nat.le_refl _) (I2.hok.fresh (Nat.le_refl _))
end
theorem a7o{d:Addr}{o:Obj}{u:HO}{ks:List V}{g:TG}{tb:TS}{D:a1B}{σ:St}{H:Hp}(Pv:Nat->St->Hp->Prop)(h0:Pv 0 σ H)(hl:∀i σ H,i<=ks.length->Pv i σ H->H d=some (.frz o u))(hs:∀(i:Nat)(k:V)σ H,ks[i]?=some k->Pv i σ H->g k σ H fun σ2 H2=>tb {D with nx:=Pv (i+1),ct:=Pv (i+1),bk:=D.nx} σ2 H2)(hd:∀σ H,Pv ks.length σ H->D.nx σ H):
  ∃W:Nat->Nat->St->Hp->Prop,(∃m,W 0 m σ H)/\∀i m σ H,W i m σ H->
   ((ItD d o u ks).stop i H/\D.nx σ H)\/((ItD d o u ks).go i H/\∃N:St->Hp->Prop,(∀σ' H',N σ' H'->∃m',m' < m/\W (i+1) m' σ' H')/\∀y H',(ItD d o u ks).yld i H y H'->g y σ H' fun σ2 H2=>tb {D with nx:=N,ct:=N,bk:=D.nx} σ2 H2):=by
 refine⟨fun i m σ H=>m=ks.length - i/\i<=ks.length/\Pv i σ H,⟨_,rfl,Nat.zero_le _,h0⟩,?_⟩
 rintro i m σ H ⟨rfl,hi,p⟩
 have q:=hl i σ H hi p
 by_cases hlt:i < ks.length
 ·refine .inr ⟨⟨q,hlt⟩,Pv (i+1),fun σ' H' p'=>⟨ks.length - (i+1),by omega,rfl,hlt,p'⟩,?_⟩
  rintro y H' ⟨rfl,hy⟩
  exact hs i y σ _ hy p
 ·have e:i=ks.length:=by omega
  subst e
  exact .inl ⟨⟨q,Nat.le_refl _⟩,hd σ H p⟩
end L2
namespace L2
open PySem PySem.Spec PyProof.Rows PySem.W
section
variable{prog:Program}{w:World}{KT:Type}[DecidableEq KT]{knd:KeyKind prog w KT}{A:Around}{E:Value->Shared->Prop}{s:Shared}{r d:Addr}{kvs:List (KT×Value)}{ep:Nat}
end
section
variable{X:Cx}{o:Expr}{to:TE}{apos cpos:Pos}
end
end L2
namespace L2
open PySem PySem.Spec PyProof.Rows PySem.W
section
variable{X:Cx}{o:Expr}{to:TE}{apos cpos:Pos}{elts:List Expr}{k:Nat}{tpos:Pos}
end
section
variable{X:Cx}{o e f:Expr}{apos cpos:Pos}{td ty tx:TE}
end
end L2
namespace L2
open PySem PySem.Spec PyProof.Rows PySem.W
section
variable{P:Program}{w:World}{A:Around}{E:Value->Shared->Prop}{s:Shared}{d:Addr}{es:Array DictEntry}{ep:Nat}
theorem a8C(hd:(d==sysModules)=false):MeetsIn P w (Builtin.«dict.items» ⟨[.ref d],[]⟩) (fun _ R s=>a0A s.heap d es ep/\R (.ok (.ret (.ref s.heap.objs.size))) {s with heap:=s.heap.push {cls:= .type "dict_items",data:= .fields #[.ref d]}}):=
 .of_wp fun A R s⟨r,q⟩=>by
  unfold Builtin.«dict.items» Builtin.Dict.noArgs
  refine wpAny_bind (wpAny_bind (wpAny_notOrdered_dict r.ty ?_))
  show wpAny _ _ (pure d) _ _ s
  refine wpAny_pure ?_
  show wpAny _ _ (Builtin.Dict.showsAll d >>= _) _ _ s
  unfold Builtin.Dict.showsAll
  rw[if_neg (fun z=>by rw[hd]at z;exact Bool.false_ne_true z)]
  exact wpAny_bind (wpAny_pure (wpAny_bind (wpAny_newObj_type (wpAny_pure ⟨_,rfl,q⟩))))
theorem b0E{v:Addr}{Q:Value->Shared->Prop}(hv:s.heap.IsItemsView v d)(r:a0A s.heap d es ep)
  (q:Q (.ref s.heap.objs.size) {s with heap:=s.heap.push {cls:= .type "dict_itemiterator",data:= .fields #[.none,.bool false,.ref d,.int 0 0,.int es.size 0,.int ep 0,.none,.none]}}):wpAny (model P w) A (pyIter (.ref v)) Q E s:=by
 have ty:=hv.typeIs (s:=s)
 obtain⟨ov,ev,cv,dv⟩:=hv
 obtain⟨ob,eb,cb,db⟩:=r
 refine wpAny_pyIter_slot ty F.slot_dict_items_iter (wpAny_call_entry F.slot_dict_items_iter ty F.entry_dict_items_iter ?_ (F.args_dict_items_iter_1 _))
 unfold Builtin.«dict_items.__iter__»
 refine wpAny_bind (wpAny_pure (wpAny_bind ?_))
 unfold Builtin.Dict_items.dictOf
 refine wpAny_bind (wpAny_field ev dv (x:= .ref d) rfl (wpAny_pure (wpAny_bind ?_)))
 unfold Builtin.Dict_items.newIterator
 refine wpAny_bind (wpAny_dictEntries eb db (wpAny_bind (wpAny_dictEpoch eb db ?_)))
 simp only[show Builtin.Dict_items.ownsTuple "dict_itemiterator"=true by decide,if_true]
 refine wpAny_newObj_type (wpAny_pure ⟨_,rfl,"dict_itemiterator",_,⟨_,Heap.get?_push_size _ rfl,rfl⟩,F.slot_dict_itemiterator_next.lookup,?_⟩) (by simp only[sizeOk,Builtin.Dict_items.ownedTupleFields,List.size_toArray,List.length_append,List.length_cons,List.length_nil,sizeLine_eq];omega)
 simpa [rawInt,Builtin.Dict_items.ownedTupleFields]using q
theorem a9R{it:Addr}{i:Nat}{e:DictEntry}{ok ov:Value}{Q:Option Value->Shared->Prop}(hi:IsItemIter s.heap it d i es.size ep ok ov)(r:a0A s.heap d es ep)(he:es[i]?=some e)
  (q:∀h',IsItemIterOut h' it d (i+1) es.size ep e.key e.val s.heap.objs.size->h'.get? s.heap.objs.size=some {cls:= .type "tuple",data:= .seq #[e.key,e.val]}->(∀b o,b≠it->s.heap.get? b=some o->h'.get? b=some o)->Q (some (.ref s.heap.objs.size)) {s with heap:=h'}):wpAny (model P w) A (pyNext (.ref it)) Q E s:=by
 obtain⟨hp,g,dr,tk,os⟩:=s
 obtain⟨ob,eb,cb,db⟩:=r
 have ty:Shared.TypeIs ⟨hp,g,dr,tk,os⟩ (.ref it) "dict_itemiterator":=⟨_,hi,rfl⟩
 unfold pyNext
 refine wpAny_bind (wpAny_attempt (wpAny_callSpecial?_slot (name:=Str.ofString "__next__") ty F.slot_dict_itemiterator_next (wpAny_call_entry F.slot_dict_itemiterator_next ty F.entry_dict_itemiterator_next ?_ (F.args_dict_itemiterator_next_1 _))))
 refine wpAny_bind (wpAny_pure (wpAny_bind (wpAny_bind ?_)))
 first | refine wpAny_bind (wpAny_typeNameOfWhole_itemiter ty (wpAny_pure (wpAny_bind (wpAny_fieldsOf hi rfl ?_)))) | refine wpAny_bind (wpAny_typeNameOf_itemiter ty (wpAny_pure (wpAny_bind (wpAny_fieldsOf hi rfl ?_))))
 simp only[show Builtin.Dict_items.ownsTuple "dict_itemiterator"=true by decide,if_true]
 show wpAny _ _ (ite ((Value.ref d==Value.none)=true) _ _) _ _ _
 rw[if_neg (by exact Bool.false_ne_true)]
 refine wpAny_bind (wpAny_pure (wpAny_bind (wpAny_dictEntries eb db ?_)))
 rw[if_neg (by simp)]
 refine wpAny_bind (wpAny_pure (wpAny_bind (wpAny_dictEpoch eb db ?_)))
 rw[if_neg (by simp)]
 refine wpAny_pure ?_
 simp only[show¬((i:Int) < 0)from by omega,if_false,Int.toNat_natCast,he]
 refine wpAny_bind ?_
 first | refine wpAny_bind (wpAny_typeNameOfWhole_itemiter ty (wpAny_pure (wpAny_bind (wpAny_isOneOf_itemiter ty ?_)))) | refine wpAny_bind (wpAny_typeNameOf_itemiter ty (wpAny_pure (wpAny_bind (wpAny_isOneOf_itemiter ty ?_))))
 show wpAny _ _ (setField (Value.ref it) 3 (rawInt ((i:Int)+1)) >>= _) _ _ ⟨hp,g,dr,tk,os⟩
 refine wpAny_bind (wpAny_setField_rec hi (by simp) fun h1 e1 s1=>?_)
 have x1:IsItemIter h1 it d (i+1) es.size ep ok ov:=by
  unfold IsItemIter
  rw[show((i+1:Nat):Int)=(i:Int)+1 by omega]
  simpa [rawInt]using e1
 have k1:Heap.SameBut it hp h1:=s1
 have t1:Shared.TypeIs ⟨h1,g,dr,tk,os⟩ (.ref it) "dict_itemiterator":=⟨_,x1,rfl⟩
 refine wpAny_bind (wpAny_holding (wpAny_bind (wpAny_isOneOf_itemiter t1 (wpAny_bind (wpAny_isOneOf_itemiter t1 ?_)))))
 show wpAny _ _ (Builtin.Dict_items.pairFromOwner (Value.ref it) 6 e.key e.val) _ _ ⟨h1,g,dr,tk,os⟩
 unfold Builtin.Dict_items.pairFromOwner
 refine wpAny_bind (wpAny_newTuple ?_)
 have hz:h1.objs.size=hp.objs.size:=k1.1
 obtain⟨h2,d2⟩:∃h2,h2=h1.push {cls:= .type "tuple",data:= .seq #[e.key,e.val]}:=⟨_,rfl⟩
 have x2:IsItemIter h2 it d (i+1) es.size ep ok ov:=by
  rw[d2]
  exact Heap.get?_push_of_some _ x1
 have tp:h2.get? hp.objs.size=some {cls:= .type "tuple",data:= .seq #[e.key,e.val]}:=by
  rw[d2,<-hz]
  exact Heap.get?_push_size _ rfl
 have kp:∀b o,b≠it->hp.get? b=some o->h2.get? b=some o:=fun b o hb z=>by
  rw[d2]
  exact Heap.get?_push_of_some _ (k1.extBut b o hb z)
 have nt:hp.objs.size≠it:=Nat.ne_of_gt (Heap.lt_size hi)
 show wpAny _ _ (Builtin.Dict_items.ownedTupleIsFree (.ref it) >>= _) _ _ ⟨h1.push {cls:= .type "tuple",data:= .seq #[e.key,e.val]},g,dr,tk,os⟩
 rw[<-d2,hz]
 refine wpAny_bind ?_
 unfold Builtin.Dict_items.ownedTupleIsFree
 refine wpAny_bind (wpAny_field x2 rfl (x:= .none) rfl (wpAny_pure ?_))
 simp only[if_true]
 refine wpAny_bind (wpAny_field x2 rfl (x:=ok) rfl (wpAny_bind (wpAny_field x2 rfl (x:=ov) rfl (wpAny_bind (wpAny_setField_rec x2 (by simp) fun h3 e3 s3=>?_)))))
 have x3:IsItemIter h3 it d (i+1) es.size ep e.key ov:=e3
 refine wpAny_bind (wpAny_setField_rec x3 (by simp) fun h4 e4 s4=>?_)
 have x4:IsItemIter h4 it d (i+1) es.size ep e.key e.val:=e4
 refine wpAny_bind (wpAny_setField_rec x4 (by simp) fun h5 e5 s5=>?_)
 have x5:IsItemIterOut h5 it d (i+1) es.size ep e.key e.val hp.objs.size:=e5
 refine wpAny_bind (wpAny_setField_rec x5 (by simp) fun h6 e6 s6=>?_)
 have x6:IsItemIterOut h6 it d (i+1) es.size ep e.key e.val hp.objs.size:=e6
 have k6:∀b o,b≠it->h2.get? b=some o->h6.get? b=some o:=fun b o hb z=>s6.extBut b o hb (s5.extBut b o hb (s4.extBut b o hb (s3.extBut b o hb z)))
 exact wpAny_bind (wpAny_letGo (wpAny_pure (wpAny_pure ⟨_,rfl,wpAny_pure (q h6 x6 (k6 _ _ nt tp) fun b o hb z=>k6 b o hb (kp b o hb z))⟩)))
theorem b0J{it:Addr}{i:Nat}{ok ov:Value}{Q:Option Value->Shared->Prop}(hA:A.handled=none)(hi:IsItemIter s.heap it d i es.size ep ok ov)(r:a0A s.heap d es ep)(he:es[i]?=none)
  (q:∀h',Heap.ExtBut it s.heap h'->Q none {s with heap:=h'}):wpAny (model P w) A (pyNext (.ref it)) Q E s:=by
 have ty:s.TypeIs (.ref it) "dict_itemiterator":=⟨_,hi,rfl⟩
 obtain⟨ob,eb,cb,db⟩:=r
 unfold pyNext
 refine wpAny_bind (wpAny_attempt (wpAny_callSpecial?_slot (name:=Str.ofString "__next__") ty F.slot_dict_itemiterator_next (wpAny_call_entry F.slot_dict_itemiterator_next ty F.entry_dict_itemiterator_next ?_ (F.args_dict_itemiterator_next_1 _))))
 refine wpAny_bind (wpAny_pure (wpAny_bind (wpAny_bind ?_)))
 first | refine wpAny_bind (wpAny_typeNameOfWhole_itemiter ty (wpAny_pure (wpAny_bind (wpAny_fieldsOf hi rfl ?_)))) | refine wpAny_bind (wpAny_typeNameOf_itemiter ty (wpAny_pure (wpAny_bind (wpAny_fieldsOf hi rfl ?_))))
 simp only[show Builtin.Dict_items.ownsTuple "dict_itemiterator"=true by decide,if_true]
 show wpAny _ _ (ite ((Value.ref d==Value.none)=true) _ _) _ _ s
 rw[if_neg (by exact Bool.false_ne_true)]
 refine wpAny_bind (wpAny_pure (wpAny_bind (wpAny_dictEntries eb db ?_)))
 rw[if_neg (by simp)]
 refine wpAny_bind (wpAny_pure (wpAny_bind (wpAny_dictEpoch eb db ?_)))
 rw[if_neg (by simp)]
 refine wpAny_pure ?_
 simp only[show¬((i:Int) < 0)from by omega,if_false,Int.toNat_natCast,he]
 refine wpAny_bind ?_
 first | refine wpAny_bind (wpAny_typeNameOfWhole_itemiter ty (wpAny_pure ?_)) | refine wpAny_bind (wpAny_typeNameOf_itemiter ty (wpAny_pure ?_))
 show wpAny _ _ (setField (Value.ref it) 2 .none >>= _) _ _ s
 refine wpAny_bind (wpAny_setField hi rfl (by simp) ?_)
 show wpAny _ _ (newExc (Value.type "StopIteration") [] >>= _) _ _ _
 refine wpAny_bind ?_
 simp only[newTuple,newExc]
 refine wpAny_bind (wpAny_newObj_type (wpAny_bind (m:=firstArgMember _ _) (wpAny_of_eq (a:=Value.none) (by first | rfl | (simp only[firstArgMember];rfl)) (wpAny_newObj_type ?_ (by size_fits)))) (by size_fits))
 simp only[raiseNew]
 refine wpAny_bind (wpAny_handled ?_)
 rw[show A.in1.handled=none from hA]
 refine wpAny_bind (wpAny_pure (wpAny_throw ?_))
 exact wpAny_bind (wpAny_isInstance (T:="StopIteration") (b:=true) ⟨_,Heap.get?_push_size _ rfl,rfl⟩ isSubtype_stop (wpAny_pure (q _ (((Heap.SameBut.update ..).extBut.push _).push _))))
end
noncomputable def b2Z (H:Hp) (p:V×V) (kv:List Key×V):Prop:=a2X H p.1 kv/\p.2=kv.2
noncomputable def ItT (d:Addr) (o:Obj) (u:HO) (ps:List (V×V)):It:=
 ⟨fun i H=>H d=some (.frz o u)/\i < ps.length,fun i H x H'=>∃p kv,ps[i]?=some kv/\H p=none/\x= .ref p/\H'=upd H p (.tup [kv.1,kv.2]),fun i H=>H d=some (.frz o u)/\ps.length<=i⟩
theorem a7C{P:Program}{w:World}{K:PySem.W.Frag}{elts:List Expr}{k:Nat}{pos:Pos}{d it:Addr}{o:Obj}{u:HO}{ps:List (V×V)}{es:Array DictEntry}{ep:Nat}(hx:o.ExactDict)(hd:o.data= .dict es ep)(hl:ps.length=es.size)(hk:∀(i:Nat)(p:V×V),ps[i]?=some p->∃e:DictEntry,es[i]?=some e/\W7 p.1 e.key/\W7 p.2 e.val):
  a7Q P w K (.Tuple elts k pos) (ItT d o u ps) [it] it (fun i h=>∃ok ov,IsItemIter h it d i es.size ep ok ov)where
 mem:=by simp
 obj:=fun i h st b hb=>by
  have z:b=it:=by simpa using hb
  subst z
  obtain⟨ok,ov,he⟩:=st
  exact⟨_,he,fun v z=>by
   have z':Data.fields _=Data.cell v:=z
   cases z'⟩
 keep:=fun i h h' st kk=>by
  obtain⟨ok,ov,he⟩:=st
  exact⟨ok,ov,kk it (by simp) _ he⟩
 item:=by
  intro X hP hw hK hc i pins s σ H E I hf st hg
  subst hP hw hK
  obtain⟨hfz,hi⟩:=hg
  obtain⟨ok,ov,he⟩:=st
  have hod:s.heap.get? d=some o:=(show Z7 X.prog X.w H s.heap d (.frz o u)from I.hok d _ hfz).1
  obtain⟨p,hp⟩:∃p,ps[i]?=some p:=⟨ps[i],by simp[hi]⟩
  obtain⟨e,hee,r1,r2⟩:=hk i p hp
  obtain⟨f0,f1,f2,f3,f4,f5⟩:=hf it (by simp)
  refine a9R he ⟨o,hod,hx,hd⟩ hee fun h' ho hT hkk=>?_
  have I1:Inv X pins σ H {s with heap:=h'}:=I.turned (t':=s.toks) (fun b ob hb e=>hkk b ob hb e) f0 f1 f3 f4 f5
  have hHT:H s.heap.objs.size=none:=I.hok.fresh (Nat.le_refl _)
  have fT:a3l X pins H s.heap.objs.size:=I.fpOk (Nat.le_refl _) hHT
  have hTI:s.heap.objs.size≠it:=Nat.ne_of_gt (Heap.lt_size he)
  refine⟨_,rfl,wpAny_letOwnedTupleGo_items (s:={s with heap:=h'}) ho fun h2 he2 hs2=>?_⟩
  have I2:Inv X pins σ H {s with heap:=h2}:=I1.turned (t':=s.toks) (fun b ob hb e=>hs2.extBut b ob hb e) f0 f1 f3 f4 f5
  have hT2:=hs2.extBut _ _ hTI hT
  have I3:Inv X pins σ (upd H s.heap.objs.size (.tup [p.1,p.2])) {s with heap:=h2}:=
   I2.track fT ⟨by show 2<=sizeLine;decide,[e.key,e.val],.cons r1 (.cons r2 .nil),⟨_,hT2,rfl,0,rfl⟩⟩
  refine⟨.ref s.heap.objs.size,_,I3,rfl,⟨s.heap.objs.size,p,hp,hHT,rfl,rfl⟩,⟨_,_,he2⟩,fun b hb=>?_⟩
  have z:b=it:=by simpa using hb
  rw[z,G8 hTI.symm]
  exact(hf it (by simp)).1
 done:=by
  intro X hP hw hK hc i pins s σ H E I hf st hg
  subst hP hw hK
  obtain⟨hfz,hi⟩:=hg
  obtain⟨ok,ov,he⟩:=st
  have hod:s.heap.get? d=some o:=(show Z7 X.prog X.w H s.heap d (.frz o u)from I.hok d _ hfz).1
  obtain⟨f0,f1,f2,f3,f4,f5⟩:=hf it (by simp)
  exact b0J (I.ok.hd hc) he ⟨o,hod,hx,hd⟩ (by simp;omega) fun h' eb=>⟨rfl,I.turned (t':=s.toks) (fun b ob hb e=>eb b ob hb e) f0 f1 f3 f4 f5⟩
 self:=fun _ _ _ _ _ st h=>by
  obtain⟨ok,ov,he⟩:=st
  exact kcp_self he h
section
variable{X:Cx}{o:Expr}{to:TE}{apos cpos:Pos}{elts:List Expr}{k:Nat}{tpos:Pos}
theorem a8W{H:Hp}{h:Heap}{d:Addr}{kvs:List (List Key×V)}(ok:Z7 X.prog X.w H h d (.dT kvs)):∃(o:Obj)(es:Array DictEntry)(ep:Nat)(ps:List (V×V)),h.get? d=some o/\o.ExactDict/\o.data= .dict es ep/\(d==sysModules)=false/\Paired (b2Z H) ps kvs/\ps.length=es.size/\∀(i:Nat)(p:V×V),ps[i]?=some p->∃e:DictEntry,es[i]?=some e/\W7 p.1 e.key/\W7 p.2 e.val:=by
 obtain⟨z,lo,xs,rel,o,es,ep,h1,h2,h3,h4,h5⟩:=ok
 have rel':KT H kvs xs:=rel
 have l2:es.size=xs.length:=by rw[<-Array.length_toList,h4,List.length_map]
 have hget:∀i,es[i]?=(xs[i]?).map (entryOfKey (tupleKind (Z3 X.prog X.w))):=fun i=>by
  rw[<-Array.getElem?_toList,h4,List.getElem?_map]
 have mk:∀{kvs:List (List Key×V)}{xs:List (List Key×Addr×Value)},KT H kvs xs->∃ps:List (V×V),Paired (b2Z H) ps kvs/\ps.length=xs.length/\∀(i:Nat)(p:V×V),ps[i]?=some p->∃x,xs[i]?=some x/\p.1=V.ref x.2.1/\W7 p.2 x.2.2:=by
  intro kvs xs r
  induction r with
  | nil=>exact⟨[],.nil,rfl,fun i p e=>by cases i<;>cases e⟩
  | @cons kv x kvs' xs' a _ ih=>
   obtain⟨ps,q1,q2,q3⟩:=ih
   refine⟨(V.ref x.2.1,kv.2)::ps,.cons ⟨⟨_,rfl,a.2.1⟩,rfl⟩ q1,by rw[List.length_cons,List.length_cons,q2],fun i p e=>?_⟩
   cases i with
   | zero=>cases e;exact⟨x,rfl,rfl,a.2.2⟩
   | succ i=>exact q3 i p e
 obtain⟨ps,q1,q2,q3⟩:=mk rel'
 refine⟨o,es,ep,ps,h1,h2,h3,lo,q1,by omega,fun i p e=>?_⟩
 obtain⟨x,hx,e1,e2⟩:=q3 i p e
 refine⟨entryOfKey (tupleKind (Z3 X.prog X.w)) x,by rw[hget,hx];rfl,?_,e2⟩
 rw[e1]
 rfl
noncomputable def b2K (te:TE):TI:=fun σ H R=>te σ H fun x H1=>∃d kvs,x= .ref d/\H1 d=some (.dT kvs)/\∀ob ps,Paired (b2Z H1) ps kvs->R (ItT d ob (.dT kvs) ps) (upd H1 d (.frz ob (.dT kvs)))
theorem a9T(ho:PE X o to)(hbase:attributeBase o "items" X.env (eval o X.env)=eval o X.env:=by rfl)(hline:(apos.endLine==cpos.line)=true:=by rfl):PI X (.Tuple elts k tpos) (.Call (.Attribute o "items" apos) [] [] cpos) (b2K to):=by
 intro pins s σ H R I h
 refine wpAny_Call_method0_late hbase hline (thn (ho pins s σ H _ I h) fun v s1⟨x,H1,I1,r1,d,kvs,ex,hD,q1⟩=>?_)
 subst ex
 obtain rfl:v=Value.ref d:=r1
 obtain⟨ob,es,ep,ps,h1,h2,h3,lo,hp,hlen,hps⟩:=a8W (X:=X) (I1.hok d _ hD)
 have rw1:a0A s1.heap d es ep:=⟨ob,h1,h2,h3⟩
 refine⟨"dict","dict.items",PySem.F.plainAttrs_dict,PySem.F.slot_dict_items,PySem.F.type_dict_items,rw1.ty,fun b e=>?_,Calls.callWith_builtin rfl (PySem.evalArgs_none ?_)⟩
 ·injection e with e
  subst e
  exact⟨ob,h1,h2.2.1⟩
 refine call_meetsIn PySem.F.slot_dict_items rw1.ty PySem.F.entry_dict_items (PySem.F.args_dict_items_1 _) (a8C (es:=es) (ep:=ep) lo) ⟨rw1,?_⟩
 have hv:(s1.heap.push {cls:= .type "dict_items",data:= .fields #[.ref d]}).IsItemsView s1.heap.objs.size d:=⟨_,Heap.get?_push_size _ rfl,rfl,rfl⟩
 have I2:=I1.freeze hD (fun _ z=>nomatch z) (fun _ _ z=>nomatch z) (fun _ z=>nomatch z) (fun _ z=>nomatch z) h1
 have I3:Inv X pins σ (upd H1 d (.frz ob (.dT kvs))) {s1 with heap:=s1.heap.push {cls:= .type "dict_items",data:= .fields #[.ref d]}}:=I2.kept (t':=s1.toks) fun b w e=>Heap.get?_push_of_some _ e
 refine b0E (s:={s1 with heap:=s1.heap.push {cls:= .type "dict_items",data:= .fields #[.ref d]}}) hv (rw1.move fun o e=>Heap.get?_push_of_some _ e) ?_
 refine⟨_,[_],_,_,_,rfl,I3.kept (t':=s1.toks) fun b w e=>Heap.get?_push_of_some _ e,a7C (o:=ob) h2 h3 hlen hps,⟨_,_,Heap.get?_push_size _ rfl⟩,fun b hb=>?_,q1 ob ps hp⟩
 have z:b=(s1.heap.push {cls:= .type "dict_items",data:= .fields #[.ref d]}).objs.size:=by simpa using hb
 subst z
 exact I3.fpOk (Nat.le_refl _) (I3.hok.fresh (Nat.le_refl _))
end
theorem a8E{d:Addr}{o:Obj}{u:HO}{ps:List (V×V)}{g:TG}{tb:TS}{D:a1B}{σ:St}{H:Hp}(Pv:Nat->St->Hp->Prop)(h0:Pv 0 σ H)(hl:∀i σ H,i<=ps.length->Pv i σ H->H d=some (.frz o u))
  (hs:∀(i:Nat)(kv:V×V)p σ H,ps[i]?=some kv->Pv i σ H->H p=none->g (.ref p) σ (upd H p (.tup [kv.1,kv.2])) fun σ2 H2=>tb {D with nx:=Pv (i+1),ct:=Pv (i+1),bk:=D.nx} σ2 H2)(hd:∀σ H,Pv ps.length σ H->D.nx σ H):
  ∃W:Nat->Nat->St->Hp->Prop,(∃m,W 0 m σ H)/\∀i m σ H,W i m σ H->
   ((ItT d o u ps).stop i H/\D.nx σ H)\/((ItT d o u ps).go i H/\∃N:St->Hp->Prop,(∀σ' H',N σ' H'->∃m',m' < m/\W (i+1) m' σ' H')/\∀y H',(ItT d o u ps).yld i H y H'->g y σ H' fun σ2 H2=>tb {D with nx:=N,ct:=N,bk:=D.nx} σ2 H2):=by
 refine⟨fun i m σ H=>m=ps.length - i/\i<=ps.length/\Pv i σ H,⟨_,rfl,Nat.zero_le _,h0⟩,?_⟩
 rintro i m σ H ⟨rfl,hi,p⟩
 have q:=hl i σ H hi p
 by_cases hlt:i < ps.length
 ·refine .inr ⟨⟨q,hlt⟩,Pv (i+1),fun σ' H' p'=>⟨ps.length - (i+1),by omega,rfl,hlt,p'⟩,?_⟩
  rintro y H' ⟨a,kv,hy,ha,rfl,rfl⟩
  exact hs i kv a σ _ hy p ha
 ·have e:i=ps.length:=by omega
  subst e
  exact .inl ⟨⟨q,Nat.le_refl _⟩,hd σ H p⟩
end L2
namespace L2
open PySem PySem.Spec PyProof.Rows PySem.W
theorem a6x{xs:List V}{us:List Value}(r:W5 xs us):∀(js:List Nat),∃ys,W5 ys (js.filterMap fun j=>us[j]?)/\ys=js.filterMap fun j=>xs[j]?
 | []=>⟨[],.nil,rfl⟩
 | j::js=>by
  obtain⟨ys,h1,h2⟩:=a6x r js
  have hl:=r.length
  cases e:us[j]? with
  | none=>
   have e':xs[j]?=none:=List.getElem?_eq_none (by rw[hl];exact List.getElem?_eq_none_iff.mp e)
   exact⟨ys,by rw[List.filterMap_cons,e];exact h1,by rw[List.filterMap_cons,e',h2]⟩
  | some u=>
   have hj:=(List.getElem?_eq_some_iff.mp e).1
   obtain⟨x,hx⟩:∃x,xs[j]?=some x:=⟨xs[j]'(by rw[hl];exact hj),by simp[hl,hj]⟩
   obtain⟨u',hu',rr⟩:=Paired.get? r hx
   rw[e]at hu'
   cases hu'
   exact⟨x::ys,by rw[List.filterMap_cons,e];exact .cons rr h1,by rw[List.filterMap_cons,hx,h2]⟩
section
variable{X:Cx}{e:Expr}{te:TE}{lo hi:Option Expr}{st:Expr}{tl th tk:TO}{pos p2:Pos}
end
end L2
namespace L2
open PySem PySem.Spec PyProof.Rows
section
variable{X:Cx}
end
end L2
namespace L2
open PySem PySem.Spec PyProof.Rows
section
variable{X:Cx}
end
end L2
namespace L2
open PySem PySem.Spec PyProof.Rows
section
variable{prog:Program}{w:World}{A:Around}{E:Value->Shared->Prop}{s:Shared}
end
section
variable{X:Cx}
end
end L2
namespace L2
open PySem PySem.Spec PyProof.Rows
section
variable{X:Cx}
end
end L2
namespace RV
open PySem PySem.Spec PyProof.Rows
theorem a8O:Manifest.owners.lookup (String.ofList ['d', 'e', 's', 'r', 'e', 'v', 'e', 'r'].reverse)=some Manifest.sig_reversed:=by kernel_rfl
theorem a3H:Slot "reversed" "__next__" "reversed.__next__":=
 .of (owner:="reversed") (n:="__next__") (by rw[typeLookup_type,builtinLookup_eq_fast];kernel_rfl) (by decide +kernel) (by decide +kernel) (by decide +kernel)
  (by first | exact .inl (by decide +kernel) | exact .inr (by decide +kernel)) (by rw[isSubtype_type];kernel_rfl)
theorem a9C:Slot "reversed" "__iter__" "reversed.__iter__":=
 .of (owner:="reversed") (n:="__iter__") (by rw[typeLookup_type,builtinLookup_eq_fast];kernel_rfl) (by decide +kernel) (by decide +kernel) (by decide +kernel)
  (by first | exact .inl (by decide +kernel) | exact .inr (by decide +kernel)) (by rw[isSubtype_type];kernel_rfl)
theorem a6A:Slot "reversed" "__length_hint__" "reversed.__length_hint__":=
 .of (owner:="reversed") (n:="__length_hint__") (by rw[typeLookup_type,builtinLookup_eq_fast];kernel_rfl) (by decide +kernel) (by decide +kernel) (by decide +kernel)
  (by first | exact .inl (by decide +kernel) | exact .inr (by decide +kernel)) (by rw[isSubtype_type];kernel_rfl)
theorem a3u:entryFor table "reversed.__next__"=some Builtin.«reversed.__next__»:=entryFor_of_tree (by kernel_rfl)
theorem b3n:entryFor table "reversed.__length_hint__"=some Builtin.«reversed.__length_hint__»:=entryFor_of_tree (by kernel_rfl)
theorem a7g:entryFor table "reversed.__iter__"=some Builtin.«dict_keyiterator.__iter__»:=
 entryFor_alias (id':="dict_keyiterator.__iter__") (by kernel_rfl) (by first | rfl | decide +kernel | (unfold String.splitOn;simp +decide [String.splitOnAux])) (by decide +kernel) (by kernel_rfl)
theorem a3U(a:Value):argsOk "reversed.__next__" ⟨[a],[]⟩:=by
 unfold argsOk;rw[signature?_of (id:="reversed.__next__") (n:=['_', '_', 't', 'x', 'e', 'n', '_', '_']) (o:=['d', 'e', 's', 'r', 'e', 'v', 'e', 'r']) (by kernel_rfl) a8O];kernel_rfl
theorem a7d(a:Value):argsOk "reversed.__iter__" ⟨[a],[]⟩:=by
 unfold argsOk;rw[signature?_of (id:="reversed.__iter__") (n:=['_', '_', 'r', 'e', 't', 'i', '_', '_']) (o:=['d', 'e', 's', 'r', 'e', 'v', 'e', 'r']) (by kernel_rfl) a8O];kernel_rfl
theorem b3w(a:Value):argsOk "reversed.__length_hint__" ⟨[a],[]⟩:=by
 unfold argsOk;rw[signature?_of (id:="reversed.__length_hint__") (n:=['_', '_', 't', 'n', 'i', 'h', '_', 'h', 't', 'g', 'n', 'e', 'l', '_', '_']) (o:=['d', 'e', 's', 'r', 'e', 'v', 'e', 'r']) (by kernel_rfl) a8O];kernel_rfl
theorem b4X:typeLookup (.type "tuple") "__reversed__"=pure none:=by rw[typeLookup_type,builtinLookup_eq_fast];kernel_rfl
theorem a8y:typeLookup (.type "reversed") "__len__"=pure none:=by rw[typeLookup_type,builtinLookup_eq_fast];kernel_rfl
theorem b2n:isSubtype (.type "tuple") (.type "dict")=pure false:=by rw[isSubtype_type];kernel_rfl
theorem b4c:isSubtype (.type "reversed") (.type "reversed")=pure true:=by rw[isSubtype_type];kernel_rfl
theorem b2W:Slot "reversed" "__init__" "object.__init__":=
 .of (owner:="object") (n:="__init__") (by rw[typeLookup_type,builtinLookup_eq_fast];kernel_rfl) (by decide +kernel) (by decide +kernel) (by decide +kernel)
  (by first | exact .inl (by decide +kernel) | exact .inr (by decide +kernel)) (by rw[isSubtype_type];kernel_rfl)
theorem a4a:TypeCalled "reversed" "reversed.__new__" "object.__init__":=
 ⟨by decide +kernel,by decide +kernel,⟨_,_,F.mro_reversed⟩,F.made_reversed,by decide +kernel,b4c,b2W⟩
end RV
namespace RV
open PySem PySem.Spec PyProof.Rows
noncomputable def a8n (t:Addr) (i:Int):Obj:={cls:= .type "reversed",data:= .fields #[.ref t,rawInt i]}
noncomputable def a0L (h:Heap) (a t:Addr) (i:Int):Prop:=∃o,h.get? a=some o/\o.cls= .type "reversed"/\o.data= .fields #[.ref t,rawInt i]
theorem a0L.move{h h':Heap}{a t:Addr}{i:Int}(x:a0L h a t i)(e:∀o,h.get? a=some o->h'.get? a=some o):a0L h' a t i:=by
 obtain⟨o,ho,r⟩:=x
 exact⟨o,e o ho,r⟩
section
variable{prog:Program}{w:World}{A:Around}{E:Value->Shared->Prop}{s:Shared}
theorem a0L.ty{a t:Addr}{i:Int}(x:a0L s.heap a t i):s.TypeIs (.ref a) "reversed":=by
 obtain⟨o,ho,hc,_⟩:=x
 exact⟨o,ho,hc⟩
theorem IsTup.move{h h':Heap}{t:Addr}{its:Array Value}(x:IsTup h t its)(e:∀o,h.get? t=some o->h'.get? t=some o):IsTup h' t its:=by
 obtain⟨o,ho,r⟩:=x
 exact⟨o,e o ho,r⟩
theorem b1e{t:Addr}{its:Array Value}{Q₁:Value->Shared->Prop}(ht:IsTup s.heap t its)(hz:its.size<=sizeLine)
  (q:∀tk,Q₁ (.ref s.heap.objs.size) {s with heap:=s.heap.push (a8n t ((its.size:Int) - 1)),toks:=tk}):
  codeAny (model prog w) A (.call (.builtin "reversed.__new__") ⟨[.type "reversed",.ref t],[]⟩) (wants Q₁ E) s:=by
 refine codeAny_of_tree ?_
 show wpAny _ A.in1 (checkBuiltinCall "reversed.__new__" ⟨[.type "reversed",.ref t],[]⟩ >>= fun _=>again (.builtin "reversed.__new__" ⟨[.type "reversed",.ref t],[]⟩)) _ _ s
 refine wpAny_bind (wpAny_of_eq (F.newCall_reversed_1 _) (wpAny_pure ⟨plainId_quiet F.plain_reversed_new _,codeAny_builtin F.entry_reversed_new ?_⟩))
 rw[Around.under_plainId F.plain_reversed_new _]
 unfold Builtin.«reversed.__new__»
 refine wpAny_bind (wpAny_of_eq (newClass_reversed _) ?_)
 try dsimp only
 refine wpAny_bind (wpAny_of_eq (a:=()) (by first | rfl | kernel_rfl) ?_)
 refine wpAny_bind (wpAny_of_eq (a:=()) (by first | rfl | kernel_rfl) ?_)
 try dsimp only
 refine wpAny_bind (wpAny_specialOf ht.typeIs b4X ?_)
 try dsimp only
 refine wpAny_bind (wpAny_bind (wpAny_isInstance ht.typeIs b2n ?_))
 rw[if_neg Bool.false_ne_true]
 refine wpAny_bind (wpAny_specialOf ht.typeIs slot_tuple_getitem.lookup ?_)
 show wpAny _ _ (if(["tuple.__getitem__","str.__getitem__","bytes.__getitem__","bytearray.__getitem__","memoryview.__getitem__","numpy.ndarray.__getitem__","sqlite3.Row.__getitem__"].contains "tuple.__getitem__")=true then pure true else _) _ _ s
 rw[if_pos (by decide +kernel)]
 refine wpAny_pure ?_
 rw[if_neg (by decide)]
 have hfit:(its.size:Int) < 2 ^ 63:=by have:sizeLine=16777216:=sizeLine_eq;omega
 refine wpAny_bind (len_tuple ht hfit ?_)
 refine wpAny_bind (wpAny_of_eq (a:=some (its.size:Int)) rfl ?_)
 show wpAny _ _ (newObj (Value.type "reversed") (.fields #[Value.ref t,rawInt ((its.size:Int) - 1)]) >>= _) _ _ _
 refine wpAny_bind (wpAny_newObj_type (wpAny_pure ?_))
 exact q _
theorem b1R{t:Addr}{its:Array Value}{Q:Value->Shared->Prop}(ht:IsTup s.heap t its)(hz:its.size<=sizeLine)
  (q:∀tk,Q (.ref s.heap.objs.size) {s with heap:=s.heap.push (a8n t ((its.size:Int) - 1)),toks:=tk}):wpAny (model prog w) A (call (.type "reversed") [.ref t]) Q E s:=by
 refine callType_codes (Q₁:=fun obj s₁=>s₁.TypeIs obj "reversed"/\Q obj s₁) a4a (F.typeCall_reversed_1 _) F.entry_object_init (b1e ht hz fun tk=>⟨⟨_,Heap.get?_push_size _ rfl,rfl⟩,q tk⟩) fun obj s₁ h₁=>?_
 exact⟨h₁.1,F.args_object_init_2 obj _,object_init_meets a4a.init.lookup a4a.made (by decide) prog w A.in1 _ s₁ ⟨h₁.1,rfl,h₁.2⟩⟩
theorem a4m{it t:Addr}{i:Nat}{its:Array Value}{x:Value}{Q:Option Value->Shared->Prop}(hit:a0L s.heap it t (i:Int))(ht:IsTup s.heap t its)(hx:its[i]?=some x)(hz:its.size<=sizeLine)
  (q:∀h' tk,a0L h' it t ((i:Int) - 1)->Heap.SameBut it s.heap h'->Q (some x) {s with heap:=h',toks:=tk}):wpAny (model prog w) A (pyNext (.ref it)) Q E s:=by
 obtain⟨o,ho,hc,hd⟩:=id hit
 have hi:i < its.size:=by
  obtain⟨z,_⟩:=Array.getElem?_eq_some_iff.mp hx
  exact z
 have hsl:sizeLine=16777216:=sizeLine_eq
 have hneg:¬((i:Int) < 0):=by omega
 have hseq:seqIndex? (i:Int) its.size=some i:=by simp[seqIndex?,hneg,hi]
 unfold pyNext
 refine wpAny_bind (wpAny_attempt (wpAny_callSpecial?_slot (name:=Str.ofString "__next__") hit.ty a3H (wpAny_call_entry a3H hit.ty a3u ?_ (a3U _))))
 unfold Builtin.«reversed.__next__»
 refine wpAny_bind (wpAny_of_eq (a:=(Value.ref it,[])) rfl ?_)
 try dsimp only
 refine wpAny_bind (wpAny_field ho hd (x:= .ref t) rfl ?_)
 refine wpAny_bind (wpAny_field ho hd (x:=rawInt (i:Int)) rfl ?_)
 show wpAny _ _ (if(i:Int) < 0 then _ else _) _ _ s
 rw[if_neg (by omega)]
 refine wpAny_bind (wpAny_specialOf ht.typeIs slot_tuple_getitem.lookup ?_)
 rw[if_neg (by simp)]
 refine wpAny_bind (wpAny_mkInt ?_)
 refine wpAny_bind (wpAny_attempt (getItem_tuple (s:={s with toks:=s.toks+1}) ht (by omega) (by omega) hseq hx ?_))
 show wpAny _ _ (field (Value.ref it) 1 >>= _) _ _ _
 refine wpAny_bind (wpAny_field (s:={s with toks:=s.toks+1}) ho hd (x:=rawInt (i:Int)) rfl ?_)
 show wpAny _ _ (setField (Value.ref it) 1 (rawInt ((i:Int) - 1)) >>= _) _ _ _
 refine wpAny_bind (wpAny_setField (s:={s with toks:=s.toks+1}) ho hd (by simp) ?_)
 refine wpAny_pure ⟨x,rfl,wpAny_pure (q _ _ ?_ (Heap.SameBut.update ..))⟩
 exact⟨_,Heap.get?_update_self _ ho (Obj.isFreed_of_fields (Obj.data_mapFields hd _)),(Obj.cls_mapFields ..).trans hc,by
  rw[Obj.data_mapFields hd]
  simp⟩
theorem a5h{it t:Addr}{Q:Option Value->Shared->Prop}(hh:A.handled=none)(hit:a0L s.heap it t (-1))
  (q:∀h' tk,Heap.ExtBut it s.heap h'->Q none {s with heap:=h',toks:=tk}):wpAny (model prog w) A (pyNext (.ref it)) Q E s:=by
 obtain⟨o,ho,hc,hd⟩:=id hit
 unfold pyNext
 refine wpAny_bind (wpAny_attempt (wpAny_callSpecial?_slot (name:=Str.ofString "__next__") hit.ty a3H (wpAny_call_entry a3H hit.ty a3u ?_ (a3U _))))
 unfold Builtin.«reversed.__next__»
 refine wpAny_bind (wpAny_of_eq (a:=(Value.ref it,[])) rfl ?_)
 try dsimp only
 refine wpAny_bind (wpAny_field ho hd (x:= .ref t) rfl ?_)
 refine wpAny_bind (wpAny_field ho hd (x:=rawInt (-1)) rfl ?_)
 show wpAny _ _ (if(-1:Int) < 0 then _ else _) _ _ s
 rw[if_pos (by decide)]
 refine wpAny_bind (wpAny_rule ?_)
 refine wpAny_bind (wpAny_bind (wpAny_setField ho hd (by simp) ?_))
 have h1:=Heap.get?_update_self (Obj.mapFields (·.setIfInBounds 1 (rawInt (-1)))) ho (Obj.isFreed_of_fields (Obj.data_mapFields hd _))
 refine wpAny_setField h1 (Obj.data_mapFields hd _) (by simp) ?_
 refine wpAny_bind ?_
 show wpAny _ _ (newExc (Value.type "StopIteration") [] >>= _) _ _ _
 refine wpAny_bind ?_
 simp only[newTuple,newExc]
 refine wpAny_bind (wpAny_newObj_type (wpAny_bind (m:=firstArgMember _ _) (wpAny_of_eq (a:=Value.none) (by first | rfl | (simp only[firstArgMember];rfl)) (wpAny_newObj_type ?_ (by size_fits)))) (by size_fits))
 simp only[raiseNew]
 refine wpAny_bind (wpAny_handled ?_)
 rw[show A.in1.handled=none from hh]
 refine wpAny_bind (wpAny_pure (wpAny_throw ?_))
 exact wpAny_bind (wpAny_isInstance (T:="StopIteration") (b:=true) ⟨_,Heap.get?_push_size _ rfl,rfl⟩ isSubtype_stop (wpAny_pure (q _ _ ((((Heap.SameBut.update ..).trans (Heap.SameBut.update ..)).extBut.push _).push _))))
theorem a1C{it t:Addr}{i:Int}{Q:Value->Shared->Prop}(hit:a0L s.heap it t i)(h:Q (.ref it) s):wpAny (model prog w) A (pyIter (.ref it)) Q E s:=by
 refine wpAny_pyIter_slot hit.ty a9C (wpAny_call_entry a9C hit.ty a7g ?_ (a7d _))
 show wpAny _ _ (ret (.ref it)) _ _ s
 exact wpAny_pure ⟨_,rfl,"reversed",_,hit.ty,a3H.lookup,h⟩
end
end RV
namespace RV
open PySem PySem.Spec PyProof.Rows
section
variable{prog:Program}{w:World}{A:Around}{E:Value->Shared->Prop}{s:Shared}
theorem b0I(hh:A.handled=none)(I t:Addr)(hne:t≠I)(its:Array Value)(hz:its.size<=sizeLine):
  Walks prog w A I [I,t] [I] its.size (fun i v=>its[its.size - 1 - i]?=some v) (fun i h=>i<=its.size/\a0L h I t ((its.size:Int) - 1 - (i:Int))/\IsTup h t its)where
 sub:=fun b hb=>by
  have e:b=I:=by simpa using hb
  simp[e]
 frame:=fun _ _ _ st k=>⟨st.1,st.2.1.move fun o e=>k I (by simp) o e,IsTup.move st.2.2 fun o e=>k t (by simp) o e⟩
 item:=fun i s Q E hi st q=>by
  have e1:(its.size:Int) - 1 - (i:Int)=((its.size - 1 - i:Nat):Int):=by omega
  have hit:=st.2.1
  rw[e1]at hit
  have hx:its[its.size - 1 - i]?=some (its[its.size - 1 - i]'(by omega)):=Array.getElem?_eq_getElem (by omega)
  refine a4m hit st.2.2 hx hz fun h' tk hit' same=>?_
  have e2:((its.size - 1 - i:Nat):Int) - 1=(its.size:Int) - 1 - ((i+1:Nat):Int):=by omega
  rw[e2]at hit'
  exact q _ h' tk hx ⟨hi,hit',IsTup.move st.2.2 fun o eo=>(same.2 t hne).trans eo⟩ fun b o hb eo=>same.extBut b o (fun z=>hb (by simp[z])) eo
 done:=fun s Q E st q=>by
  have e1:(its.size:Int) - 1 - (its.size:Int)= -1:=by omega
  have hit:=st.2.1
  rw[e1]at hit
  exact a5h hh hit fun h' tk he=>q h' tk fun b o hb eo=>he b o (fun z=>hb (by simp[z])) eo
 self:=fun _ _ _ _ st q=>a1C st.2.1 q
theorem b2z{I t:Addr}{its:Array Value}{Q:Bool->Shared->Prop}(hI:a0L s.heap I t ((its.size:Int) - 1))(ht:IsTup s.heap t its)(hz:its.size<=sizeLine)(q:∀b tk,Q b {s with toks:=tk}):wpAny (model prog w) A (Builtin.List.listLengthHint (.ref I)) Q E s:=by
 unfold Builtin.List.listLengthHint
 refine wpAny_bind (wpAny_specialOf hI.ty a8y ?_)
 try dsimp only
 refine wpAny_ite_split (fun h=>absurd h (by decide)) (fun _=>?_)
 refine wpAny_ite_split (fun h=>absurd h (by decide)) (fun _=>?_)
 refine wpAny_bind (wpAny_specialOf hI.ty a6A.lookup ?_)
 generalize hid:("reversed.__length_hint__":String)=id0
 wp_delta
 rw[show splitId id0=some ("reversed","__length_hint__")from by subst hid;decide +kernel]
 subst hid
 refine wpAny_bind (wpAny_isInstance (T:="reversed") (b:=true) hI.ty b4c ?_)
 refine wpAny_ite_split (fun h=>absurd h (by decide)) (fun _=>?_)
 refine wpAny_ite_split (fun h=>absurd h (by decide +kernel)) (fun _=>?_)
 refine wpAny_bind (wpAny_rule ?_)
 refine wpAny_bind (wpAny_of_eq (a6A.bind _) ?_)
 have hsl:sizeLine=16777216:=sizeLine_eq
 have hfit:(its.size:Int) < 2 ^ 63:=by omega
 obtain⟨o,ho,hc,hd⟩:=id hI
 refine wpAny_bind (wpAny_attempt (wpAny_call_entry a6A hI.ty b3n ?_ (b3w _)))
 unfold Builtin.«reversed.__length_hint__»
 refine wpAny_bind (wpAny_of_eq (a:=Value.ref I) rfl ?_)
 refine wpAny_bind (wpAny_field ho hd (x:= .ref t) rfl ?_)
 rw[if_neg (by exact Bool.false_ne_true)]
 refine wpAny_bind (len_tuple ht hfit ?_)
 refine wpAny_bind (wpAny_of_eq (a:=some (its.size:Int)) rfl ?_)
 try dsimp only
 refine wpAny_bind (wpAny_field (s:={s with toks:=s.toks+1+1}) ho hd (x:=rawInt ((its.size:Int) - 1)) rfl ?_)
 show wpAny _ _ (if(its.size:Int) < (its.size:Int) - 1+1 then _ else _) _ _ _
 rw[if_neg (by omega)]
 refine wpAny_bind (wpAny_mkInt (wpAny_pure ⟨_,rfl,?_⟩))
 refine wpAny_bind (wpAny_of_eq (a:=some ((its.size:Int) - 1+1)) rfl ?_)
 try dsimp only
 refine wpAny_ite_split (fun h=>absurd h ?_) (fun _=>?_)
 ·unfold Builtin.List.listFitsIndex
  simp
  omega
 refine wpAny_ite_split (fun h=>absurd h (by omega)) (fun _=>?_)
 refine wpAny_ite_split (fun h=>absurd h ?_) (fun _=>?_)
 ·unfold Builtin.List.listTooLong
  simp
  omega
 exact wpAny_pure (q _ _)
end
end RV
namespace RV
open PySem PySem.Spec PyProof.Rows
section
variable{prog:Program}{w:World}{A:Around}{E:Value->Shared->Prop}{s:Shared}
noncomputable def StR (I t:Addr) (its:Array Value) (i:Nat) (h:Heap):Prop:=i<=its.size/\a0L h I t ((its.size:Int) - 1 - (i:Int))/\IsTup h t its
noncomputable def PR (its:Array Value) (i:Nat) (v:Value):Prop:=its[its.size - 1 - i]?=some v
theorem StR.move{I t:Addr}{its:Array Value}{i:Nat}{h h':Heap}(x:StR I t its i h)(k:∀b o,b=I\/b=t->h.get? b=some o->h'.get? b=some o):StR I t its i h':=
 ⟨x.1,x.2.1.move fun o e=>k I o (.inl rfl) e,IsTup.move x.2.2 fun o e=>k t o (.inr rfl) e⟩
theorem a8p{R:Result->Shared->Prop}(hh:A.handled=none){I t S:Addr}{its:Array Value}{res:Value}{c₀:Nat}(hne:t≠I)(hSI:S≠I)(hSt:S≠t)(hz:its.size<=sizeLine)(st:StR I t its 0 s.heap)
  (hS:s.heap.get? S=some {cls:= .type "list",data:= .seq #[] c₀})
  (q:∀h' tk acc c,(∀b o,b≠S->b≠I->s.heap.get? b=some o->h'.get? b=some o)->h'.get? S=some {cls:= .type "list",dict:=none,data:= .seq acc c,slots:= #[]}->ItemsOf (PR its) acc its.size->R (.ok (.ret res)) {s with heap:=h',toks:=tk}):
  wpAny (model prog w) A.in1 (Builtin.List.listExtendWith (.ref S) (.ref I) res)
   (fun fin s'=>match fin with | .done f=>R (.ok f) s' | .again c'=>c'.quiet=true/\codeAny (model prog w) A c' R s') (fun e s'=>R (.error e) s') s:=by
 have W:=(b0I (prog:=prog) (w:=w) (A:=A.in1) hh I t hne its hz).toS
 have hSf:S∉ [I,t]:=by simp[hSI,hSt]
 have ty:s.TypeIs (.ref I) "reversed":=st.2.1.ty
 have rest:∀(h:Heap)(c tk:Nat),StR I t its 0 h->(∀b o,b≠S->s.heap.get? b=some o->h.get? b=some o)->h.get? S=some {cls:= .type "list",data:= .seq #[] c}->codeAny (model prog w) A (.builtin "list.extend.loop" ⟨[.ref S,.ref I,res],[]⟩) R {s with heap:=h,toks:=tk}:=fun h c tk st' keep hS'=>by
  refine codeAny_extend_loopS W hz S hSf res its.size 0 _ #[] c rfl (Nat.zero_le _) st' hS' (ItemsOf.nil _) fun s' acc c' hm hS2 hacc=>?_
  rw[Moved.eq_with hm]
  refine q s'.heap s'.toks acc c' (fun b o hb hbI e=>hm.heap b o (fun z=>?_) (keep b o hb e)) hS2 hacc
  rcases List.mem_cons.mp z with z | z
  ·exact hb z
  ·exact hbI (List.mem_singleton.mp z)
 unfold Builtin.List.listExtendWith
 refine wpAny_bind (wpAny_typeOf ty ?_)
 have n1:Builtin.List.listSameRef (.ref S) (.ref I)=false:=by simp[Builtin.List.listSameRef,hSI]
 have n2:(Value.type "reversed"==Value.type "list")=false:=by decide
 have n3:(Value.type "reversed"==Value.type "tuple")=false:=by decide
 simp only[n1,n2,n3,Bool.or_false,Bool.false_eq_true,if_false]
 refine wpAny_bind (a1C st.2.1 ?_)
 refine wpAny_bind (wpAny_holding (b2z (its:=its) (by have:=st.2.1;simpa using this) st.2.2 hz fun b tk=>?_))
 refine wpAny_ite_split (fun _=>?_) (fun _=>wpAny_pure ⟨plainId_quiet PySem.F.plain_extend_loop _,rest _ c₀ _ st (fun b o _ e=>e) hS⟩)
 refine wpAny_bind (wpAny_rule (wpAny_bind ?_))
 show wpAny _ _ (updateSeq S (·.push .none) >>= fun _=>updateSeq S (·.pop)) _ _ _
 refine wpAny_bind (wpAny_updateSeq (s:={s with toks:=tk}) hS rfl ?_)
 have hS2:=Heap.get?_update_self (Obj.mapSeq (·.push Value.none)) hS rfl
 refine wpAny_updateSeq (hz:=by seq_fits) hS2 rfl ?_
 have hS3:=Heap.get?_update_self (Obj.mapSeq (·.pop)) hS2 rfl
 have oth:∀b o,b≠S->s.heap.get? b=some o->((s.heap.update S (Obj.mapSeq (·.push Value.none))).update S (Obj.mapSeq (·.pop))).get? b=some o:=fun b o hb e=>
  (Heap.get?_update_other _ _ (Ne.symm hb)).trans ((Heap.get?_update_other _ _ (Ne.symm hb)).trans e)
 refine wpAny_pure ⟨plainId_quiet PySem.F.plain_extend_loop _,rest _ _ _ (st.move fun b o hb e=>oth b o (fun z=>?_) e) oth hS3⟩
 rcases hb with y | y
 ·exact hSI (z.symm.trans y)
 ·exact hSt (z.symm.trans y)
theorem b1K{R:Result->Shared->Prop}(hh:A.handled=none){I t S:Addr}{its:Array Value}(hne:t≠I)(hSI:S≠I)(hSt:S≠t)(hz:its.size<=sizeLine)(st:StR I t its 0 s.heap)
  (hS:s.heap.get? S=some {cls:= .type "list",data:= .seq #[]})
  (q:∀h' tk acc c,(∀b o,b≠S->b≠I->s.heap.get? b=some o->h'.get? b=some o)->h'.get? S=some {cls:= .type "list",dict:=none,data:= .seq acc c,slots:= #[]}->ItemsOf (PR its) acc its.size->R (.ok (.ret .none)) {s with heap:=h',toks:=tk}):
  wpAny (model prog w) A.in1 (Builtin.«list.__init__» ⟨[.ref S,.ref I],[]⟩)
   (fun fin s'=>match fin with | .done f=>R (.ok f) s' | .again c'=>c'.quiet=true/\codeAny (model prog w) A c' R s') (fun e s'=>R (.error e) s') s:=by
 show wpAny _ A.in1 (Builtin.List.listItems (.ref S) >>= fun old=>Builtin.List.listUpdate (.ref S) (fun _=>#[]) >>= fun _=>letGo old.toList.reverse >>= fun _=>Builtin.List.listExtendWith (.ref S) (.ref I) .none) _ _ s
 unfold Builtin.List.listItems
 refine wpAny_bind (wpAny_bind (wpAny_seqItems hS rfl (wpAny_pure ?_)))
 show wpAny _ A.in1 (updateSeq S (fun _=>#[]) >>= fun _=>letGo (#[]:Array Value).toList.reverse >>= fun _=>Builtin.List.listExtendWith (.ref S) (.ref I) .none) _ _ s
 refine wpAny_bind (wpAny_updateSeq hS rfl (wpAny_bind (wpAny_letGo ?_)))
 have oth:∀b o,b≠S->s.heap.get? b=some o->(s.heap.update S (Obj.mapSeq (fun _=>(#[]:Array Value)))).get? b=some o:=fun b o hb e=>(Heap.get?_update_other _ _ (Ne.symm hb)).trans e
 refine a8p hh hne hSI hSt hz (st.move fun b o hb e=>oth b o (fun z=>?_) e) (Heap.get?_update_self (Obj.mapSeq (fun _=>(#[]:Array Value))) hS rfl) fun h' tk acc c keep hS' hacc=>q h' tk acc c (fun b o hb hbI e=>keep b o hb hbI (oth b o hb e)) hS' hacc
 rcases hb with y | y
 ·exact hSI (z.symm.trans y)
 ·exact hSt (z.symm.trans y)
theorem b0X{I t:Addr}{its:Array Value}{Q:Value->Shared->Prop}(hh:A.handled=none)(hne:t≠I)(hz:its.size<=sizeLine)(st:StR I t its 0 s.heap)
  (q:∀h' tk acc c,(∀b o,b≠I->s.heap.get? b=some o->h'.get? b=some o)->h'.get? s.heap.objs.size=some {cls:= .type "list",dict:=none,data:= .seq acc c,slots:= #[]}->ItemsOf (PR its) acc its.size->Q (.ref s.heap.objs.size) {s with heap:=h',toks:=tk}):
  wpAny (model prog w) A (call (.type "list") [.ref I]) Q E s:=by
 have hI:I < s.heap.objs.size:=by
  obtain⟨o,e,_⟩:=st.2.1
  exact Heap.lt_size e
 have ht:t < s.heap.objs.size:=by
  obtain⟨o,e,_⟩:=st.2.2
  exact Heap.lt_size e
 refine callType_codes (Q₁:=fun obj s₁=>obj= .ref s.heap.objs.size/\s₁={s with heap:=s.heap.push {cls:= .type "list",data:= .seq #[]}}) F.called_list (F.typeCall_list_1 _) F.entry_list_init (code_list_new _ ⟨rfl,rfl⟩) fun obj s₁ e₁=>?_
 obtain⟨rfl,rfl⟩:=e₁
 have hS:(s.heap.push {cls:= .type "list",data:= .seq #[]}).get? s.heap.objs.size=some {cls:= .type "list",data:= .seq #[]}:=Heap.get?_push_size _ rfl
 refine⟨⟨_,hS,rfl⟩,F.args_list_init_2 _ _,b1K (A:=A.in1) hh hne (Nat.ne_of_gt hI) (Nat.ne_of_gt ht) hz (st.move fun b o _ e=>Heap.get?_push_of_some _ e) hS fun h' tk acc c keep hS' hacc=>?_⟩
 exact⟨rfl,q h' tk acc c (fun b o hb e=>keep b o (Nat.ne_of_lt (Heap.lt_size e)) hb (Heap.get?_push_of_some _ e)) hS' hacc⟩
end
end RV
namespace L2
open PySem PySem.Spec PyProof.Rows PySem.W RV
theorem a6B:∀{xs:List V}{its:List Value}{i:Nat}{v:Value},W5 xs its->its[i]?=some v->∃x,xs[i]?=some x/\W7 x v
 | _,_,_,_,.nil,e=>by simp at e
 | _,_,0,_,.cons r _,e=>by simp at e;subst e;exact⟨_,rfl,r⟩
 | _,_,i+1,_,.cons _ t,e=>by
  obtain⟨x,h1,h2⟩:=a6B (i:=i) t (by simpa using e)
  exact⟨x,by simpa using h1,h2⟩
theorem a6H:∀{xs:List V}{us:List Value},us.length=xs.length->(∀(j:Nat)(u:Value),us[j]?=some u->∃x,xs[j]?=some x/\W7 x u)->W5 xs us
 | [],[],_,_=> .nil
 | [],_::_,h,_=>by simp at h
 | _::_,[],h,_=>by simp at h
 | x::xs,u::us,h,k=>by
  obtain⟨y,e,r⟩:=k 0 u rfl
  have e':x=y:=by simpa using e
  subst e'
  exact .cons r (a6H (by simpa using h) fun j v hj=>by simpa using k (j+1) v (by simpa using hj))
theorem b2x{xs:List V}{its:Array Value}{acc:Array Value}(hv:W5 xs its.toList)(ha:ItemsOf (PR its) acc its.size):W5 xs.reverse acc.toList:=by
 have hl:xs.length=its.size:=by rw[hv.length,Array.length_toList]
 refine a6H (by rw[Array.length_toList,ha.1,List.length_reverse,hl]) fun j u e=>?_
 have hj:j < its.size:=by
  rw[<-ha.1,<-Array.length_toList]
  exact(List.getElem?_eq_some_iff.mp e).1
 have hp:its[its.size - 1 - j]?=some u:=ha.2 j u (by rw[<-Array.getElem?_toList];exact e)
 obtain⟨x,h1,h2⟩:=a6B (i:=its.size - 1 - j) hv (by rw[Array.getElem?_toList];exact hp)
 refine⟨x,?_,h2⟩
 rw[List.getElem?_reverse (by omega),hl]
 exact h1
section
variable{X:Cx}{e:Expr}{te:TE}{pos pos2 p p2:Pos}
noncomputable def b5S (K:PySem.W.Frag) (te:TE):TE:=fun σ H Q=>te σ H fun x H1=>∃a xs,x= .ref a/\SqT K H1 a xs/\∀l,H1 l=none->Q (.ref l) (upd H1 l (.lst xs.reverse))
theorem b4Z(he:PE X e te)(gR:Gl X "reversed")(mR:X.mg "reversed"=none)(hs:starEach [e] X.env=[(false,eval e X.env)]:=by rfl)
  {pins:List (Addr×Obj)}{s:Shared}{σ:St}{H:Hp}{R:VK}{Q:Value->Shared->Prop}(I:Inv X pins σ H s)(h:te σ H R)
  (k:∀x H1 s1 a xs its tk,Inv X pins σ H1 s1->R x H1->x= .ref a->W5 xs its->IsTup s1.heap a its.toArray->its.toArray.size<=sizeLine->SqT X.K H1 a xs->Q (.ref s1.heap.objs.size) {s1 with heap:=s1.heap.push (a8n a ((its.toArray.size:Int) - 1)),toks:=tk})
  (kr:∀x H1,R x H1->∃a xs,x= .ref a/\SqT X.K H1 a xs):
  wpAny (model X.prog X.w) X.A (eval (.Call (.Name "reversed" p2) [e] [] pos2) X.env) Q X.xe s:=by
 refine wpAny_Call_Name_kw (a1b I gR mR boot_reversed ?_ (by decide) (by decide))
 refine PyProof.Rows.callWith_type1 ?_ hs (by rfl)
 rw[hs]
 refine Calls.spliced_cons (thn (he pins s σ H _ I h) fun u s1⟨x,H1,I1,r1,q1⟩=>?_)
 obtain⟨a,xs,rfl,ht⟩:=kr x H1 q1
 cases r1
 obtain⟨its,hv,htup,hz⟩:=I1.tuple ht
 have hz':its.toArray.size<=sizeLine:=by have:=hv.length;simp;omega
 refine Calls.spliced_nil ?_
 exact b1R htup hz' fun tk=>k _ H1 s1 a xs its tk I1 q1 rfl hv htup hz' ht
theorem b2O(hc:X.calm=true)(he:PE X e te)(gL:Gl X "list")(mL:X.mg "list"=none)(gR:Gl X "reversed")(mR:X.mg "reversed"=none)(hs:starEach [e] X.env=[(false,eval e X.env)]:=by rfl)(hs2:starEach [.Call (.Name "reversed" p2) [e] [] pos2] X.env=[(false,eval (.Call (.Name "reversed" p2) [e] [] pos2) X.env)]:=by rfl):
  PE X (.Call (.Name "list" p) [.Call (.Name "reversed" p2) [e] [] pos2] [] pos) (b5S X.K te):=by
 intro pins s σ H Q I h
 refine wpAny_Call_Name_kw (a1b I gL mL boot_list ?_ (by decide) (by decide))
 refine PyProof.Rows.callWith_type1 ?_ hs2 (by rfl)
 rw[hs2]
 refine Calls.spliced_cons (b4Z he gR mR hs I h (fun x H1 s1 a xs its tk I1 q1 ex hv htup hz ht=>?_) fun x H1 q=>by obtain⟨a,xs,e1,e2,_⟩:=q;exact⟨a,xs,e1,e2⟩)
 obtain⟨a',ys,e1,e2,q⟩:=q1
 have ea:a=a':=V.ref.inj (ex.symm.trans e1)
 subst ea
 have exy:=I1.tuple_inj ht e2
 subst exy
 refine Calls.spliced_nil ?_
 have hne:a≠s1.heap.objs.size:=Nat.ne_of_lt htup.lt
 have st:StR s1.heap.objs.size a its.toArray 0 (s1.heap.push (a8n a ((its.toArray.size:Int) - 1))):=⟨Nat.zero_le _,⟨_,Heap.get?_push_size _ rfl,rfl,by simp[a8n]⟩,htup.push _⟩
 refine b0X (s:={s1 with heap:=s1.heap.push (a8n a ((its.toArray.size:Int) - 1)),toks:=tk}) (I1.ok.hd hc) hne hz st fun h' tk' acc c keep hS hacc=>?_
 have hk:∀b u,s1.heap.get? b=some u->h'.get? b=some u:=fun b u e=>keep b u (Nat.ne_of_lt (Heap.lt_size e)) (Heap.get?_push_of_some _ e)
 have hv':W5 xs its.toArray.toList:=by simpa using hv
 have hr:=b2x hv' hacc
 have hp:s1.heap.objs.size<=(s1.heap.push (a8n a ((its.toArray.size:Int) - 1))).objs.size:=by rw[Heap.size_push];omega
 refine⟨.ref _,_,I1.laid (t':=tk') hk hp (show Z7 X.prog X.w _ h' _ (.lst xs.reverse)from⟨?_,acc.toList,c,hr,by simpa using hS⟩),rfl,q _ (I1.hok.fresh hp)⟩
 rw[hr.length,Array.length_toList,hacc.1]
 exact hz
end
end L2
namespace L2
open PySem PySem.Spec PyProof.Rows
section
variable{X:Cx}
end
end L2
namespace RG
open PySem PySem.Spec PyProof.Rows
section
variable{prog:Program}{w:World}{A:Around}{E:Value->Shared->Prop}{s:Shared}
variable{I:Addr}{fp:List Addr}{n:Nat}{P:Nat->Value->Prop}{St:Nat->Heap->Prop}{T:String}
end
end RG
namespace RG
open PySem PySem.Spec PyProof.Rows
section
variable{prog:Program}{w:World}{A:Around}{E:Value->Shared->Prop}{s:Shared}
end
end RG
namespace L2
open PySem PySem.Spec PyProof.Rows PySem.W RG
section
variable{X:Cx}{e:Expr}{te:TE}{pos pos2 pos3 p p2 p3:Pos}
end
end L2
namespace L2
open PySem PySem.Spec PyProof.Rows PySem.W RG
open AutoSeq1 (wpAny_loadPart')
section
variable{prog:Program}{w:World}{A:Around}{E:Value->Shared->Prop}{s:Shared}
end
section
variable{X:Cx}{e:Expr}{te:TE}{pos pos3 p p3:Pos}
end
end L2
namespace L2
open PySem PySem.Spec PyProof.Rows PySem.W
section
variable{X:Cx}{e:Expr}{te:TE}{pos pos3 p p3:Pos}
end
end L2
namespace L2
open PySem PySem.Spec PyProof.Rows PySem.W
section
variable{prog:Program}{w:World}{A:Around}{R:Result->Shared->Prop}{it best:Addr}{fp wr:List Addr}{n:Nat}{P:Nat->Value->Prop}{St:Nat->Heap->Prop}
end
section
variable{X:Cx}
end
end L2
namespace L2
open PySem PySem.Spec PyProof.Rows
section
variable{X:Cx}
end
end L2
namespace L2
open PySem PySem.Spec PyProof.Rows
noncomputable def EqD (K:PySem.W.Frag) (H:Hp):Nat->V->V->Prop
 | 0,x,y=>x=y/\a0Z x=true
 | n+1,x,y=>(x=y/\a0Z x=true)\/∃a b xs ys,x= .ref a/\y= .ref b/\SqT K H a xs/\SqT K H b ys/\Paired (EqD K H n) xs ys
theorem b2c{xs:List V}{its:List Value}(r:W5 xs its){j:Nat}{x:V}(h:xs[j]?=some x)(hj:j < its.toArray.size):W7 x its.toArray[j]:=by
 obtain⟨w1,g1,rw1⟩:=r.get h
 have:its[j]?=some its.toArray[j]:=by simp at hj;simp[hj]
 rw[g1]at this
 rw[<-Option.some.inj this]
 exact rw1
theorem a4b{X:Cx}{pins:List (Addr×Obj)}{s:Shared}{σ:St}{H:Hp}{A:Around}{n:Nat}{xs ys:List V}{js js2:List Value}(hP:Paired (EqD X.K H n) xs ys)(q1:W5 xs js)(q2:W5 ys js2)
  (ih:∀x y v u,EqD X.K H n x y->W7 x v->W7 y u->SeqAt.EqAt A s v u true):∀j(j1:j < js.toArray.size)(j2:j < js2.toArray.size),SeqAt.EqAt A s js.toArray[j] js2.toArray[j] true:=by
 intro j j1 j2
 have m1:=q1.length
 have m2:=q2.length
 have k1:j < xs.length:=by simp at j1;omega
 obtain⟨y,hy,hd⟩:=Paired.get? hP (List.getElem?_eq_getElem k1)
 exact ih _ _ _ _ hd (b2c q1 (List.getElem?_eq_getElem k1) j1) (b2c q2 hy j2)
theorem a8i{X:Cx}{pins:List (Addr×Obj)}{s:Shared}{σ:St}{H:Hp}(I:Inv X pins σ H s):∀(n:Nat)(A:Around),A.units+n < cLine->∀x y v u,EqD X.K H n x y->W7 x v->W7 y u->SeqAt.EqAt A s v u true
 | 0,A,hu,x,y,v,u,h,rx,ry=>by
  obtain⟨rfl,f⟩:=h
  have:=a8g (A:=A) (s:=s) rx ry f f
  rw[a7O f]at this
  exact this
 | n+1,A,hu,x,y,v,u,h,rx,ry=>by
  rcases h with⟨rfl,f⟩ | ⟨a,b,xs,ys,rfl,rfl,ha,hb,hP⟩
  ·have:=a8g (A:=A) (s:=s) rx ry f f
   rw[a7O f]at this
   exact this
  ·cases rx
   cases ry
   by_cases e:a=b
   ·subst e
    exact SeqAt.EqAt.same _
   ·obtain⟨js,q1,pt1,_⟩:=I.tuple ha
    obtain⟨js2,q2,pt2,_⟩:=I.tuple hb
    have m1:=q1.length
    have m2:=q2.length
    have hl:=Paired.length hP
    have R:=SeqAt.RcAt.tuples (A:=A) (e:=fun _=>true) (show s.heap.IsTuple a js.toArray from pt1) (show s.heap.IsTuple b js2.toArray from pt2) (by omega) (a4b (X:=X) (pins:=pins) (σ:=σ) hP q1 q2 (a8i I n A.in1 (by show A.units+1+n < cLine;omega)))
    have e2:((List.range (min js.toArray.size js2.toArray.size)).all (fun _=>true) && js.toArray.size==js2.toArray.size)=true:=by
     have:js.toArray.size=js2.toArray.size:=by simp;omega
     simp[this]
    rw[e2]at R
    exact SeqAt.EqAt.of_refs e R
theorem b4F{X:Cx}(n:Nat)(hu:X.A.units+1+n < cLine):OpR X (compareOp .NotEq) (fun x y H Q=>∃a b xs ys,x= .ref a/\y= .ref b/\SqT X.K H a xs/\SqT X.K H b ys/\Paired (EqD X.K H n) xs ys/\Q (.bl false) H):=by
 intro pins s σ H x y v u Q I rx ry h
 obtain⟨a,b,xs,ys,rfl,rfl,ha,hb,hP,q⟩:=h
 cases rx
 cases ry
 obtain⟨its,r1,p1,_⟩:=I.tuple ha
 obtain⟨its2,r2,p2,_⟩:=I.tuple hb
 have hl1:=r1.length
 have hl2:=r2.length
 have hl:=Paired.length hP
 refine SeqAt.RcNeAt.tuples (e:=fun _=>true) (show s.heap.IsTuple a its.toArray from p1) (show s.heap.IsTuple b its2.toArray from p2) (by omega) (a4b (X:=X) (pins:=pins) (σ:=σ) hP r1 r2 (a8i I n X.A.in1 hu)) X.prog X.w _ _ ?_
 have e:(!((List.range (min its.toArray.size its2.toArray.size)).all (fun _=>true) && its.toArray.size==its2.toArray.size))=false:=by
  have:its.toArray.size=its2.toArray.size:=by simp;omega
  simp[this]
 rw[e]
 exact⟨.bl false,H,I,rfl,q⟩
theorem b4S{X:Cx}(n:Nat)(hu:X.A.units+1+n < cLine):OpR X (compareOp .Eq) (fun x y H Q=>∃a b xs ys,x= .ref a/\y= .ref b/\SqT X.K H a xs/\SqT X.K H b ys/\Paired (EqD X.K H n) xs ys/\Q (.bl true) H):=by
 intro pins s σ H x y v u Q I rx ry h
 obtain⟨a,b,xs,ys,rfl,rfl,ha,hb,hP,q⟩:=h
 cases rx
 cases ry
 obtain⟨its,r1,p1,_⟩:=I.tuple ha
 obtain⟨its2,r2,p2,_⟩:=I.tuple hb
 have hl1:=r1.length
 have hl2:=r2.length
 have hl:=Paired.length hP
 refine SeqAt.eq_tupleAt (e:=fun _=>true) (show s.heap.IsTuple a its.toArray from p1) (show s.heap.IsTuple b its2.toArray from p2) (by omega) (a4b (X:=X) (pins:=pins) (σ:=σ) hP r1 r2 (a8i I n X.A.in1 hu)) ?_
 have e:((List.range (min its.toArray.size its2.toArray.size)).all (fun _=>true) && its.toArray.size==its2.toArray.size)=true:=by
  have:its.toArray.size=its2.toArray.size:=by simp;omega
  simp[this]
 rw[e]
 exact⟨.bl true,H,I,rfl,q⟩
end L2
namespace L2
open PySem PySem.Spec PyProof.Rows
section
variable{X:Cx}{elts:List Expr}{k:Nat}{tpos:Pos}
end
end L2
namespace L2
open PySem PySem.Spec PyProof.Rows PySem.W
theorem b0S(lo hi:Option Int){k:Int}(hk:0 < k)(n:Nat):Builtin.Slice.sliceAdjust lo hi k (n:Int)=(((HT.sIx n 0 lo:Nat):Int),((HT.sIx n n hi:Nat):Int)):=by
 have h1:¬k < 0:=by omega
 unfold Builtin.Slice.sliceAdjust
 simp only[h1,if_false]
 refine Prod.ext ?_ ?_
 ·cases lo with
  | none=>rfl
  | some v=>exact HT.a9r v n 0
 ·cases hi with
  | none=>rfl
  | some v=>exact HT.a9r v n n
theorem b0r{i j n:Nat}{k:Int}(hk:0 < k)(hj:j<=n):Builtin.Slice.slicePlaces (i:Int) (j:Int) k<=n:=by
 unfold Builtin.Slice.slicePlaces
 rw[if_pos (show k > 0 from hk)]
 by_cases h:(i:Int) < (j:Int)
 ·rw[if_pos h]
  have h2:((j:Int) - i - 1)/k<=(j:Int) - i - 1:=Int.ediv_le_self _ (by omega)
  omega
 ·rw[if_neg h]
  omega
section
variable{prog:Program}{w:World}{A:Around}{E:Value->Shared->Prop}{s:Shared}
theorem a3g{t sl:Addr}{items:Array Value}{vl vu vk:Value}{lo hi:Option Int}{k:Int}{Q:Value->Shared->Prop}(ht:IsTup s.heap t items)(hs:s.heap.IsSliceOf sl vl vu vk)(pl:IsPart vl lo)(pu:IsPart vu hi)(pk:IsPart vk (some k))(hk:0 < k)(hsz:items.size<=sizeLine)(h0:Q (.ref t) s)
  (h:∀js:List Nat,js.length<=items.size->Q (.ref s.heap.objs.size) {s with heap:=s.heap.push {cls:= .type "tuple",data:= .seq (js.filterMap fun j=>items[j]?).toArray}}):wpAny (model prog w) A (getItem (.ref t) (.ref sl)) Q E s:=by
 obtain⟨os,hos,hcs,hds⟩:=id hs
 have hTs:s.TypeIs (.ref sl) "slice":=⟨os,hos,hcs⟩
 have hj:HT.sIx items.size items.size hi<=items.size:=HT.b4Y _ _ (Nat.le_refl _) hi
 unfold getItem
 try with_reducible refine wpAny_holding ?_
 first | refine wpAny_bind (wpAny_pure ?_) | skip
 refine wpAny_bind (wpAny_sequenceKey ht.typeIs (by decide) ?_)
 refine wpAny_bind (wpAny_callSpecial?_slot (name:=Str.ofString "__getitem__") ht.typeIs PyProof.Rows.slot_tuple_getitem
  (wpAny_call_entry PyProof.Rows.slot_tuple_getitem ht.typeIs entry_tuple_getitem ?_ (args_tuple_getitem _ _)))
 show wpAny _ _ (Builtin.Tuple.tupleItemsOf (.ref t) >>= _) _ _ s
 refine wpAny_bind (tupleItemsOf_ ht (wpAny_bind (wpAny_typeOf hTs ?_)))
 rw[if_pos (by decide)]
 unfold Builtin.Slice.sliceApplied Builtin.Slice.sliceFields
 refine wpAny_bind (wpAny_bind (wpAny_bind (wpAny_field hos hds (x:=vl) rfl (wpAny_bind (wpAny_field hos hds (x:=vu) rfl (wpAny_bind (wpAny_field hos hds (x:=vk) rfl (wpAny_pure ?_))))))))
 refine wpAny_bind (HT.a3b pk ?_)
 show wpAny _ _ (if(k==0)=true then _ else _) _ _ s
 rw[if_neg (by simp;omega)]
 refine wpAny_bind (HT.a3b pl (wpAny_bind (HT.a3b pu (wpAny_bind (wpAny_pure ?_)))))
 show wpAny _ _ (match Builtin.Slice.sliceAdjust lo hi k (items.size:Int)with | (lo,hi)=>pure (lo,k,Builtin.Slice.slicePlaces lo hi k)) _ _ s
 rw[b0S lo hi hk]
 refine wpAny_pure ?_
 have hn:=b0r (i:=HT.sIx items.size 0 lo) hk hj
 dsimp only
 generalize hNN:Builtin.Slice.slicePlaces ((HT.sIx items.size 0 lo:Nat):Int) ((HT.sIx items.size items.size hi:Nat):Int) k=N at hn⊢
 generalize ((HT.sIx items.size 0 lo:Nat):Int)=L0
 have q:=h ((List.range N).map fun(m:Nat)=>(L0+(m:Int)*k).toNat) (by rw[List.length_map,List.length_range];exact hn)
 have e:((List.range N).map fun(m:Nat)=>(L0+(m:Int)*k).toNat).filterMap (fun j=>items[j]?)=(List.range N).filterMap fun(m:Nat)=>items[(L0+(m:Int)*k).toNat]?:=by rw[List.filterMap_map];rfl
 rw[e]at q
 have htake:sizeOk (.seq ((List.range N).filterMap fun(m:Nat)=>items[(L0+(m:Int)*k).toNat]?).toArray):=by
  show((List.range N).filterMap fun(m:Nat)=>items[(L0+(m:Int)*k).toNat]?).toArray.size<=sizeLine
  rw[List.size_toArray]
  have:=List.length_filterMap_le (fun(m:Nat)=>items[(L0+(m:Int)*k).toNat]?) (List.range N)
  rw[List.length_range]at this
  omega
 by_cases hw:(L0==0 && k==1 && N==items.size)=true
 ·rw[if_pos hw]
  unfold Builtin.Tuple.tupleIsExact
  refine wpAny_bind (wpAny_bind (wpAny_typeOf ht.typeIs (wpAny_pure ?_)))
  rw[if_pos (by decide)]
  refine wpAny_bind (wpAny_rule ?_)
  first
   | exact wpAny_pure ⟨_,rfl,wpAny_pure h0⟩
   | exact wpAny_bind (wpAny_pure ⟨_,rfl,wpAny_pure h0⟩)
   | exact wpAny_bind (wpAny_pure (wpAny_pure ⟨_,rfl,wpAny_pure h0⟩))
 ·rw[if_neg hw]
  first
   | exact wpAny_bind (m:=Builtin.Tuple.tupleExact _) (wpAny_newObj_type (wpAny_pure ⟨_,rfl,wpAny_pure q⟩) htake)
   | exact wpAny_bind (m:=Builtin.Tuple.tupleExact _) (wpAny_newObj_type (wpAny_bind (wpAny_pure (wpAny_pure ⟨_,rfl,wpAny_pure q⟩))) htake)
   | exact wpAny_bind (wpAny_bind (m:=Builtin.Tuple.tupleExact _) (wpAny_newObj_type (wpAny_pure (wpAny_pure ⟨_,rfl,wpAny_pure q⟩)) htake))
   | exact wpAny_bind (wpAny_bind (m:=Builtin.Tuple.tupleExact _) (wpAny_newObj_type (wpAny_pure ⟨_,rfl,wpAny_pure q⟩) htake))
end
section
variable{X:Cx}{e:Expr}{te:TE}{lo hi:Option Expr}{st:Expr}{tl th tk:TO}{pos p2:Pos}
end
end L2
namespace RL
open PySem PySem.Spec PyProof.Rows
theorem b2j:Manifest.owners.lookup (String.ofList ['r', 'o', 't', 'a', 'r', 'e', 't', 'i', 'e', 's', 'r', 'e', 'v', 'e', 'r', '_', 't', 's', 'i', 'l'].reverse)=some Manifest.sig_list_reverseiterator:=by kernel_rfl
theorem a3w:Slot "list_reverseiterator" "__next__" "list_reverseiterator.__next__":=
 .of (owner:="list_reverseiterator") (n:="__next__") (by rw[typeLookup_type,builtinLookup_eq_fast];kernel_rfl) (by decide +kernel) (by decide +kernel) (by decide +kernel)
  (by first | exact .inl (by decide +kernel) | exact .inr (by decide +kernel)) (by rw[isSubtype_type];kernel_rfl)
theorem a9t:Slot "list_reverseiterator" "__iter__" "list_reverseiterator.__iter__":=
 .of (owner:="list_reverseiterator") (n:="__iter__") (by rw[typeLookup_type,builtinLookup_eq_fast];kernel_rfl) (by decide +kernel) (by decide +kernel) (by decide +kernel)
  (by first | exact .inl (by decide +kernel) | exact .inr (by decide +kernel)) (by rw[isSubtype_type];kernel_rfl)
theorem a3u:entryFor table "list_reverseiterator.__next__"=some Builtin.«list_reverseiterator.__next__»:=entryFor_of_tree (by kernel_rfl)
theorem a7g:entryFor table "list_reverseiterator.__iter__"=some Builtin.«dict_keyiterator.__iter__»:=
 entryFor_alias (id':="dict_keyiterator.__iter__") (by kernel_rfl) (by first | rfl | decide +kernel | (unfold String.splitOn;simp +decide [String.splitOnAux])) (by decide +kernel) (by kernel_rfl)
theorem a3U(a:Value):argsOk "list_reverseiterator.__next__" ⟨[a],[]⟩:=by
 unfold argsOk;rw[signature?_of (id:="list_reverseiterator.__next__") (n:=['_', '_', 't', 'x', 'e', 'n', '_', '_']) (o:=['r', 'o', 't', 'a', 'r', 'e', 't', 'i', 'e', 's', 'r', 'e', 'v', 'e', 'r', '_', 't', 's', 'i', 'l']) (by kernel_rfl) b2j];kernel_rfl
theorem a7d(a:Value):argsOk "list_reverseiterator.__iter__" ⟨[a],[]⟩:=by
 unfold argsOk;rw[signature?_of (id:="list_reverseiterator.__iter__") (n:=['_', '_', 'r', 'e', 't', 'i', '_', '_']) (o:=['r', 'o', 't', 'a', 'r', 'e', 't', 'i', 'e', 's', 'r', 'e', 'v', 'e', 'r', '_', 't', 's', 'i', 'l']) (by kernel_rfl) b2j];kernel_rfl
theorem b4T:isSubtype (.type "list_reverseiterator") (.type "reversed")=pure false:=by rw[isSubtype_type];kernel_rfl
noncomputable def a8D (t:Addr) (i:Int):Obj:={cls:= .type "list_reverseiterator",data:= .fields #[.ref t,rawInt i]}
noncomputable def a0I (h:Heap) (a t:Addr) (i:Int):Prop:=∃o,h.get? a=some o/\o.cls= .type "list_reverseiterator"/\o.data= .fields #[.ref t,rawInt i]
theorem a0I.move{h h':Heap}{a t:Addr}{i:Int}(x:a0I h a t i)(e:∀o,h.get? a=some o->h'.get? a=some o):a0I h' a t i:=by
 obtain⟨o,ho,r⟩:=x
 exact⟨o,e o ho,r⟩
section
variable{prog:Program}{w:World}{A:Around}{E:Value->Shared->Prop}{s:Shared}
theorem a0I.ty{a t:Addr}{i:Int}(x:a0I s.heap a t i):s.TypeIs (.ref a) "list_reverseiterator":=by
 obtain⟨o,ho,hc,_⟩:=x
 exact⟨o,ho,hc⟩
theorem a9V{r:Addr}{its:Array Value}{Q:Value->Shared->Prop}(hr:s.heap.IsList r its)
  (q:Q (.ref s.heap.objs.size) {s with heap:=s.heap.push (a8D r ((its.size:Int) - 1))}):wpAny (model prog w) A (call (.type "reversed") [.ref r]) Q E s:=by
 have ty:s.TypeIs (.ref r) "list":=hr.typeIs
 refine callType_other (U:="list_reverseiterator") (Q₁:=fun obj s₁=>obj= .ref s.heap.objs.size/\s₁={s with heap:=s.heap.push (a8D r ((its.size:Int) - 1))}) (by decide +kernel) F.create_reversed ⟨_,_,F.mro_reversed⟩ F.made_reversed b4T (F.typeCall_reversed_1 _) ?_ ?_
 ·refine codeAny_of_tree ?_
  show wpAny _ A.in1.in1 (checkBuiltinCall "reversed.__new__" ⟨[.type "reversed",.ref r],[]⟩ >>= fun _=>again (.builtin "reversed.__new__" ⟨[.type "reversed",.ref r],[]⟩)) _ _ s
  refine wpAny_bind (wpAny_of_eq (F.newCall_reversed_1 _) (wpAny_pure ⟨plainId_quiet F.plain_reversed_new _,codeAny_builtin F.entry_reversed_new ?_⟩))
  rw[Around.under_plainId F.plain_reversed_new _]
  unfold Builtin.«reversed.__new__»
  refine wpAny_bind (wpAny_of_eq (newClass_reversed _) ?_)
  try dsimp only
  refine wpAny_bind (wpAny_of_eq (a:=()) (by first | rfl | kernel_rfl) ?_)
  refine wpAny_bind (wpAny_of_eq (a:=()) (by first | rfl | kernel_rfl) ?_)
  try dsimp only
  refine wpAny_bind (wpAny_specialOf ty F.slot_list_reversed.lookup ?_)
  try dsimp only
  refine wpAny_bind (wpAny_of_eq (F.slot_list_reversed.bind _) ?_)
  try dsimp only
  rw[if_neg (show¬((Value.builtin "list.__reversed__"==Value.none)=true)from Bool.false_ne_true)]
  refine wpAny_bind (wpAny_rule ?_)
  refine wpAny_bind (m:=runValue (.call (.builtin "list.__reversed__") ⟨[.ref r],[]⟩)) (show wpAny _ _ (call (.builtin "list.__reversed__") [.ref r]) _ _ _ from wpAny_call_entry F.slot_list_reversed ty F.entry_list_reversed ?_ (F.args_list_reversed_1 _))
  unfold Builtin.«list.__reversed__»
  refine wpAny_bind (wpAny_of_eq (a:=Value.ref r) rfl ?_)
  obtain⟨o,ho,hc,n,hd⟩:=id hr
  refine wpAny_bind (wpAny_listItems ho hd ?_)
  refine wpAny_bind (wpAny_newObj_type (wpAny_pure ⟨_,rfl,?_⟩))
  exact wpAny_pure ⟨rfl,rfl⟩
 ·rintro obj s₁ ⟨rfl,rfl⟩
  exact⟨⟨_,Heap.get?_push_size _ rfl,rfl⟩,q⟩
theorem a4m{it t:Addr}{i:Nat}{its:Array Value}{x:Value}{Q:Option Value->Shared->Prop}(hit:a0I s.heap it t (i:Int))(ht:s.heap.IsList t its)(hx:its[i]?=some x)
  (q:∀h' tk,a0I h' it t ((i:Int) - 1)->Heap.SameBut it s.heap h'->Q (some x) {s with heap:=h',toks:=tk}):wpAny (model prog w) A (pyNext (.ref it)) Q E s:=by
 obtain⟨o,ho,hc,hd⟩:=id hit
 obtain⟨o2,ho2,hc2,n2,hd2⟩:=id ht
 unfold pyNext
 refine wpAny_bind (wpAny_attempt (wpAny_callSpecial?_slot (name:=Str.ofString "__next__") hit.ty a3w (wpAny_call_entry a3w hit.ty a3u ?_ (a3U _))))
 unfold Builtin.«list_reverseiterator.__next__»
 refine wpAny_bind (wpAny_of_eq (a:=(Value.ref it,[])) rfl ?_)
 try dsimp only
 refine wpAny_bind (wpAny_field ho hd (x:=rawInt (i:Int)) rfl ?_)
 show wpAny _ _ (if(i:Int) < 0 then _ else _) _ _ s
 rw[if_neg (by omega)]
 refine wpAny_bind (wpAny_field ho hd (x:= .ref t) rfl ?_)
 refine wpAny_bind (wpAny_seqItems ho2 hd2 ?_)
 try dsimp only
 rw[Int.toNat_natCast,hx]
 try dsimp only
 refine wpAny_bind (wpAny_setField ho hd (by simp) ?_)
 refine wpAny_pure ⟨x,rfl,wpAny_pure (q _ _ ?_ (Heap.SameBut.update ..))⟩
 exact⟨_,Heap.get?_update_self _ ho (Obj.isFreed_of_fields (Obj.data_mapFields hd _)),(Obj.cls_mapFields ..).trans hc,by
  rw[Obj.data_mapFields hd]
  simp⟩
theorem a5h{it t:Addr}{Q:Option Value->Shared->Prop}(hh:A.handled=none)(hit:a0I s.heap it t (-1))
  (q:∀h' tk,Heap.ExtBut it s.heap h'->Q none {s with heap:=h',toks:=tk}):wpAny (model prog w) A (pyNext (.ref it)) Q E s:=by
 obtain⟨o,ho,hc,hd⟩:=id hit
 unfold pyNext
 refine wpAny_bind (wpAny_attempt (wpAny_callSpecial?_slot (name:=Str.ofString "__next__") hit.ty a3w (wpAny_call_entry a3w hit.ty a3u ?_ (a3U _))))
 unfold Builtin.«list_reverseiterator.__next__»
 refine wpAny_bind (wpAny_of_eq (a:=(Value.ref it,[])) rfl ?_)
 try dsimp only
 refine wpAny_bind (wpAny_field ho hd (x:=rawInt (-1)) rfl ?_)
 show wpAny _ _ (if(-1:Int) < 0 then _ else _) _ _ s
 rw[if_pos (by decide)]
 refine wpAny_bind (wpAny_rule ?_)
 refine wpAny_bind ?_
 show wpAny _ _ (newExc (Value.type "StopIteration") [] >>= _) _ _ _
 refine wpAny_bind ?_
 simp only[newTuple,newExc]
 refine wpAny_bind (wpAny_newObj_type (wpAny_bind (m:=firstArgMember _ _) (wpAny_of_eq (a:=Value.none) (by first | rfl | (simp only[firstArgMember];rfl)) (wpAny_newObj_type ?_ (by size_fits)))) (by size_fits))
 simp only[raiseNew]
 refine wpAny_bind (wpAny_handled ?_)
 rw[show A.in1.handled=none from hh]
 refine wpAny_bind (wpAny_pure (wpAny_throw ?_))
 exact wpAny_bind (wpAny_isInstance (T:="StopIteration") (b:=true) ⟨_,Heap.get?_push_size _ rfl,rfl⟩ isSubtype_stop (wpAny_pure (q _ _ (((Heap.SameBut.refl _ _).extBut.push _).push _))))
theorem a1C{it t:Addr}{i:Int}{Q:Value->Shared->Prop}(hit:a0I s.heap it t i)(h:Q (.ref it) s):wpAny (model prog w) A (pyIter (.ref it)) Q E s:=by
 refine wpAny_pyIter_slot hit.ty a9t (wpAny_call_entry a9t hit.ty a7g ?_ (a7d _))
 show wpAny _ _ (ret (.ref it)) _ _ s
 exact wpAny_pure ⟨_,rfl,"list_reverseiterator",_,hit.ty,a3w.lookup,h⟩
end
end RL
namespace L2
open PySem PySem.Spec PyProof.Rows PySem.W RL
end L2
namespace RL
open PySem PySem.Spec PyProof.Rows
theorem b2D:Slot "list_reverseiterator" "__length_hint__" "list_reverseiterator.__length_hint__":=
 .of (owner:="list_reverseiterator") (n:="__length_hint__") (by rw[typeLookup_type,builtinLookup_eq_fast];kernel_rfl) (by decide +kernel) (by decide +kernel) (by decide +kernel)
  (by first | exact .inl (by decide +kernel) | exact .inr (by decide +kernel)) (by rw[isSubtype_type];kernel_rfl)
theorem a8y:typeLookup (.type "list_reverseiterator") "__len__"=pure none:=by rw[typeLookup_type,builtinLookup_eq_fast];kernel_rfl
theorem b5V:isSubtype (.type "list_reverseiterator") (.type "list_reverseiterator")=pure true:=by rw[isSubtype_type];kernel_rfl
section
variable{prog:Program}{w:World}{A:Around}{E:Value->Shared->Prop}{s:Shared}
theorem a8v(hh:A.handled=none)(I t:Addr)(hne:t≠I)(its:Array Value)(hz:its.size<=sizeLine):
  Walks prog w A I [I,t] [I] its.size (fun i v=>its[its.size - 1 - i]?=some v) (fun i h=>i<=its.size/\a0I h I t ((its.size:Int) - 1 - (i:Int))/\h.IsList t its)where
 sub:=fun b hb=>by
  have e:b=I:=by simpa using hb
  simp[e]
 frame:=fun _ _ _ st k=>⟨st.1,st.2.1.move fun o e=>k I (by simp) o e,Heap.IsList.at st.2.2 fun o e=>k t (by simp) o e⟩
 item:=fun i s Q E hi st q=>by
  have e1:(its.size:Int) - 1 - (i:Int)=((its.size - 1 - i:Nat):Int):=by omega
  have hit:=st.2.1
  rw[e1]at hit
  have hx:its[its.size - 1 - i]?=some (its[its.size - 1 - i]'(by omega)):=Array.getElem?_eq_getElem (by omega)
  refine a4m hit st.2.2 hx fun h' tk hit' same=>?_
  have e2:((its.size - 1 - i:Nat):Int) - 1=(its.size:Int) - 1 - ((i+1:Nat):Int):=by omega
  rw[e2]at hit'
  exact q _ h' tk hx ⟨hi,hit',Heap.IsList.at st.2.2 fun o eo=>(same.2 t hne).trans eo⟩ fun b o hb eo=>same.extBut b o (fun z=>hb (by simp[z])) eo
 done:=fun s Q E st q=>by
  have e1:(its.size:Int) - 1 - (its.size:Int)= -1:=by omega
  have hit:=st.2.1
  rw[e1]at hit
  exact a5h hh hit fun h' tk he=>q h' tk fun b o hb eo=>he b o (fun z=>hb (by simp[z])) eo
 self:=fun _ _ _ _ st q=>a1C st.2.1 q
theorem b0W{I t:Addr}{its:Array Value}{Q:Bool->Shared->Prop}(hI:a0I s.heap I t ((its.size:Int) - 1))(ht:s.heap.IsList t its)(hz:its.size<=sizeLine)(q:∀b tk,Q b {s with toks:=tk}):wpAny (model prog w) A (Builtin.List.listLengthHint (.ref I)) Q E s:=by
 unfold Builtin.List.listLengthHint
 refine wpAny_bind (wpAny_specialOf hI.ty a8y ?_)
 try dsimp only
 refine wpAny_ite_split (fun h=>absurd h (by decide)) (fun _=>?_)
 refine wpAny_ite_split (fun h=>absurd h (by decide)) (fun _=>?_)
 refine wpAny_bind (wpAny_specialOf hI.ty b2D.lookup ?_)
 generalize hid:("list_reverseiterator.__length_hint__":String)=id0
 wp_delta
 rw[show splitId id0=some ("list_reverseiterator","__length_hint__")from by subst hid;decide +kernel]
 subst hid
 refine wpAny_bind (wpAny_isInstance (T:="list_reverseiterator") (b:=true) hI.ty b5V ?_)
 refine wpAny_ite_split (fun h=>absurd h (by decide)) (fun _=>?_)
 refine wpAny_ite_split (fun _=>?_) (fun h=>absurd (by decide +kernel) h)
 refine wpAny_ite_split (fun h=>absurd h (by decide +kernel)) (fun _=>?_)
 exact wpAny_pure (q false s.toks)
end
section
variable{prog:Program}{w:World}{A:Around}{E:Value->Shared->Prop}{s:Shared}
noncomputable def StL (I t:Addr) (its:Array Value) (i:Nat) (h:Heap):Prop:=i<=its.size/\a0I h I t ((its.size:Int) - 1 - (i:Int))/\h.IsList t its
noncomputable def PRl (its:Array Value) (i:Nat) (v:Value):Prop:=its[its.size - 1 - i]?=some v
theorem StL.move{I t:Addr}{its:Array Value}{i:Nat}{h h':Heap}(x:StL I t its i h)(k:∀b o,b=I\/b=t->h.get? b=some o->h'.get? b=some o):StL I t its i h':=
 ⟨x.1,x.2.1.move fun o e=>k I o (.inl rfl) e,Heap.IsList.at x.2.2 fun o e=>k t o (.inr rfl) e⟩
theorem a7E{R:Result->Shared->Prop}(hh:A.handled=none){I t S:Addr}{its:Array Value}{res:Value}{c₀:Nat}(hne:t≠I)(hSI:S≠I)(hSt:S≠t)(hz:its.size<=sizeLine)(st:StL I t its 0 s.heap)
  (hS:s.heap.get? S=some {cls:= .type "list",data:= .seq #[] c₀})
  (q:∀h' tk acc c,(∀b o,b≠S->b≠I->s.heap.get? b=some o->h'.get? b=some o)->h'.get? S=some {cls:= .type "list",dict:=none,data:= .seq acc c,slots:= #[]}->ItemsOf (PRl its) acc its.size->R (.ok (.ret res)) {s with heap:=h',toks:=tk}):
  wpAny (model prog w) A.in1 (Builtin.List.listExtendWith (.ref S) (.ref I) res)
   (fun fin s'=>match fin with | .done f=>R (.ok f) s' | .again c'=>c'.quiet=true/\codeAny (model prog w) A c' R s') (fun e s'=>R (.error e) s') s:=by
 have W:=(a8v (prog:=prog) (w:=w) (A:=A.in1) hh I t hne its hz).toS
 have hSf:S∉ [I,t]:=by simp[hSI,hSt]
 have ty:s.TypeIs (.ref I) "list_reverseiterator":=st.2.1.ty
 have rest:∀(h:Heap)(c tk:Nat),StL I t its 0 h->(∀b o,b≠S->s.heap.get? b=some o->h.get? b=some o)->h.get? S=some {cls:= .type "list",data:= .seq #[] c}->codeAny (model prog w) A (.builtin "list.extend.loop" ⟨[.ref S,.ref I,res],[]⟩) R {s with heap:=h,toks:=tk}:=fun h c tk st' keep hS'=>by
  refine codeAny_extend_loopS W hz S hSf res its.size 0 _ #[] c rfl (Nat.zero_le _) st' hS' (ItemsOf.nil _) fun s' acc c' hm hS2 hacc=>?_
  rw[Moved.eq_with hm]
  refine q s'.heap s'.toks acc c' (fun b o hb hbI e=>hm.heap b o (fun z=>?_) (keep b o hb e)) hS2 hacc
  rcases List.mem_cons.mp z with z | z
  ·exact hb z
  ·exact hbI (List.mem_singleton.mp z)
 unfold Builtin.List.listExtendWith
 refine wpAny_bind (wpAny_typeOf ty ?_)
 have n1:Builtin.List.listSameRef (.ref S) (.ref I)=false:=by simp[Builtin.List.listSameRef,hSI]
 have n2:(Value.type "list_reverseiterator"==Value.type "list")=false:=by decide
 have n3:(Value.type "list_reverseiterator"==Value.type "tuple")=false:=by decide
 simp only[n1,n2,n3,Bool.or_false,Bool.false_eq_true,if_false]
 refine wpAny_bind (a1C st.2.1 ?_)
 refine wpAny_bind (wpAny_holding (b0W (its:=its) (by have:=st.2.1;simpa using this) st.2.2 hz fun b tk=>?_))
 refine wpAny_ite_split (fun _=>?_) (fun _=>wpAny_pure ⟨plainId_quiet PySem.F.plain_extend_loop _,rest _ c₀ _ st (fun b o _ e=>e) hS⟩)
 refine wpAny_bind (wpAny_rule (wpAny_bind ?_))
 show wpAny _ _ (updateSeq S (·.push .none) >>= fun _=>updateSeq S (·.pop)) _ _ _
 refine wpAny_bind (wpAny_updateSeq (s:={s with toks:=tk}) hS rfl ?_)
 have hS2:=Heap.get?_update_self (Obj.mapSeq (·.push Value.none)) hS rfl
 refine wpAny_updateSeq (hz:=by seq_fits) hS2 rfl ?_
 have hS3:=Heap.get?_update_self (Obj.mapSeq (·.pop)) hS2 rfl
 have oth:∀b o,b≠S->s.heap.get? b=some o->((s.heap.update S (Obj.mapSeq (·.push Value.none))).update S (Obj.mapSeq (·.pop))).get? b=some o:=fun b o hb e=>
  (Heap.get?_update_other _ _ (Ne.symm hb)).trans ((Heap.get?_update_other _ _ (Ne.symm hb)).trans e)
 refine wpAny_pure ⟨plainId_quiet PySem.F.plain_extend_loop _,rest _ _ _ (st.move fun b o hb e=>oth b o (fun z=>?_) e) oth hS3⟩
 rcases hb with y | y
 ·exact hSI (z.symm.trans y)
 ·exact hSt (z.symm.trans y)
theorem a9I{R:Result->Shared->Prop}(hh:A.handled=none){I t S:Addr}{its:Array Value}(hne:t≠I)(hSI:S≠I)(hSt:S≠t)(hz:its.size<=sizeLine)(st:StL I t its 0 s.heap)
  (hS:s.heap.get? S=some {cls:= .type "list",data:= .seq #[]})
  (q:∀h' tk acc c,(∀b o,b≠S->b≠I->s.heap.get? b=some o->h'.get? b=some o)->h'.get? S=some {cls:= .type "list",dict:=none,data:= .seq acc c,slots:= #[]}->ItemsOf (PRl its) acc its.size->R (.ok (.ret .none)) {s with heap:=h',toks:=tk}):
  wpAny (model prog w) A.in1 (Builtin.«list.__init__» ⟨[.ref S,.ref I],[]⟩)
   (fun fin s'=>match fin with | .done f=>R (.ok f) s' | .again c'=>c'.quiet=true/\codeAny (model prog w) A c' R s') (fun e s'=>R (.error e) s') s:=by
 show wpAny _ A.in1 (Builtin.List.listItems (.ref S) >>= fun old=>Builtin.List.listUpdate (.ref S) (fun _=>#[]) >>= fun _=>letGo old.toList.reverse >>= fun _=>Builtin.List.listExtendWith (.ref S) (.ref I) .none) _ _ s
 unfold Builtin.List.listItems
 refine wpAny_bind (wpAny_bind (wpAny_seqItems hS rfl (wpAny_pure ?_)))
 show wpAny _ A.in1 (updateSeq S (fun _=>#[]) >>= fun _=>letGo (#[]:Array Value).toList.reverse >>= fun _=>Builtin.List.listExtendWith (.ref S) (.ref I) .none) _ _ s
 refine wpAny_bind (wpAny_updateSeq hS rfl (wpAny_bind (wpAny_letGo ?_)))
 have oth:∀b o,b≠S->s.heap.get? b=some o->(s.heap.update S (Obj.mapSeq (fun _=>(#[]:Array Value)))).get? b=some o:=fun b o hb e=>(Heap.get?_update_other _ _ (Ne.symm hb)).trans e
 refine a7E hh hne hSI hSt hz (st.move fun b o hb e=>oth b o (fun z=>?_) e) (Heap.get?_update_self (Obj.mapSeq (fun _=>(#[]:Array Value))) hS rfl) fun h' tk acc c keep hS' hacc=>q h' tk acc c (fun b o hb hbI e=>keep b o hb hbI (oth b o hb e)) hS' hacc
 rcases hb with y | y
 ·exact hSI (z.symm.trans y)
 ·exact hSt (z.symm.trans y)
theorem b0y{I t:Addr}{its:Array Value}{Q:Value->Shared->Prop}(hh:A.handled=none)(hne:t≠I)(hz:its.size<=sizeLine)(st:StL I t its 0 s.heap)
  (q:∀h' tk acc c,(∀b o,b≠I->s.heap.get? b=some o->h'.get? b=some o)->h'.get? s.heap.objs.size=some {cls:= .type "list",dict:=none,data:= .seq acc c,slots:= #[]}->ItemsOf (PRl its) acc its.size->Q (.ref s.heap.objs.size) {s with heap:=h',toks:=tk}):
  wpAny (model prog w) A (call (.type "list") [.ref I]) Q E s:=by
 have hI:I < s.heap.objs.size:=by
  obtain⟨o,e,_⟩:=st.2.1
  exact Heap.lt_size e
 have ht:t < s.heap.objs.size:=by
  obtain⟨o,e,_⟩:=st.2.2
  exact Heap.lt_size e
 refine callType_codes (Q₁:=fun obj s₁=>obj= .ref s.heap.objs.size/\s₁={s with heap:=s.heap.push {cls:= .type "list",data:= .seq #[]}}) F.called_list (F.typeCall_list_1 _) F.entry_list_init (code_list_new _ ⟨rfl,rfl⟩) fun obj s₁ e₁=>?_
 obtain⟨rfl,rfl⟩:=e₁
 have hS:(s.heap.push {cls:= .type "list",data:= .seq #[]}).get? s.heap.objs.size=some {cls:= .type "list",data:= .seq #[]}:=Heap.get?_push_size _ rfl
 refine⟨⟨_,hS,rfl⟩,F.args_list_init_2 _ _,a9I (A:=A.in1) hh hne (Nat.ne_of_gt hI) (Nat.ne_of_gt ht) hz (st.move fun b o _ e=>Heap.get?_push_of_some _ e) hS fun h' tk acc c keep hS' hacc=>?_⟩
 exact⟨rfl,q h' tk acc c (fun b o hb e=>keep b o (Nat.ne_of_lt (Heap.lt_size e)) hb (Heap.get?_push_of_some _ e)) hS' hacc⟩
end
end RL
namespace L2
open PySem PySem.Spec PyProof.Rows PySem.W RL
theorem b0T{xs:List V}{its:Array Value}{acc:Array Value}(hv:W5 xs its.toList)(ha:ItemsOf (PRl its) acc its.size):W5 xs.reverse acc.toList:=by
 have hl:xs.length=its.size:=by rw[hv.length,Array.length_toList]
 refine a6H (by rw[Array.length_toList,ha.1,List.length_reverse,hl]) fun j u e=>?_
 have hj:j < its.size:=by
  rw[<-ha.1,<-Array.length_toList]
  exact(List.getElem?_eq_some_iff.mp e).1
 have hp:its[its.size - 1 - j]?=some u:=ha.2 j u (by rw[<-Array.getElem?_toList];exact e)
 obtain⟨x,h1,h2⟩:=a6B (i:=its.size - 1 - j) hv (by rw[Array.getElem?_toList];exact hp)
 refine⟨x,?_,h2⟩
 rw[List.getElem?_reverse (by omega),hl]
 exact h1
section
variable{X:Cx}{e:Expr}{te:TE}{pos pos2 p p2:Pos}
noncomputable def b4H (K:PySem.W.Frag) (te:TE):TE:=fun σ H Q=>te σ H fun x H1=>∃a xs,x= .ref a/\SqL K H1 a xs/\∀l,H1 l=none->Q (.ref l) (upd H1 l (.lst xs.reverse))
theorem b2H(he:PE X e te)(gR:Gl X "reversed")(mR:X.mg "reversed"=none)(hs:starEach [e] X.env=[(false,eval e X.env)]:=by rfl)
  {pins:List (Addr×Obj)}{s:Shared}{σ:St}{H:Hp}{R:VK}{Q:Value->Shared->Prop}(I:Inv X pins σ H s)(h:te σ H R)
  (k:∀x H1 s1 a xs its tk,Inv X pins σ H1 s1->R x H1->x= .ref a->W5 xs its->s1.heap.IsList a its.toArray->its.toArray.size<=sizeLine->SqL X.K H1 a xs->Q (.ref s1.heap.objs.size) {s1 with heap:=s1.heap.push (a8D a ((its.toArray.size:Int) - 1)),toks:=tk})
  (kr:∀x H1,R x H1->∃a xs,x= .ref a/\SqL X.K H1 a xs):
  wpAny (model X.prog X.w) X.A (eval (.Call (.Name "reversed" p2) [e] [] pos2) X.env) Q X.xe s:=by
 refine wpAny_Call_Name_kw (a1b I gR mR boot_reversed ?_ (by decide) (by decide))
 refine PyProof.Rows.callWith_type1 ?_ hs (by rfl)
 rw[hs]
 refine Calls.spliced_cons (thn (he pins s σ H _ I h) fun u s1⟨x,H1,I1,r1,q1⟩=>?_)
 obtain⟨a,xs,rfl,ht⟩:=kr x H1 q1
 cases r1
 obtain⟨its,hv,htup,hz⟩:=I1.list ht
 have hz':its.toArray.size<=sizeLine:=by have:=hv.length;simp;omega
 refine Calls.spliced_nil ?_
 exact a9V htup.isList (k _ H1 s1 a xs its s1.toks I1 q1 rfl hv htup.isList hz' ht)
theorem b2e(hc:X.calm=true)(he:PE X e te)(gL:Gl X "list")(mL:X.mg "list"=none)(gR:Gl X "reversed")(mR:X.mg "reversed"=none)(hs:starEach [e] X.env=[(false,eval e X.env)]:=by rfl)(hs2:starEach [.Call (.Name "reversed" p2) [e] [] pos2] X.env=[(false,eval (.Call (.Name "reversed" p2) [e] [] pos2) X.env)]:=by rfl):
  PE X (.Call (.Name "list" p) [.Call (.Name "reversed" p2) [e] [] pos2] [] pos) (b4H X.K te):=by
 intro pins s σ H Q I h
 refine wpAny_Call_Name_kw (a1b I gL mL boot_list ?_ (by decide) (by decide))
 refine PyProof.Rows.callWith_type1 ?_ hs2 (by rfl)
 rw[hs2]
 refine Calls.spliced_cons (b2H he gR mR hs I h (fun x H1 s1 a xs its tk I1 q1 ex hv htup hz ht=>?_) fun x H1 q=>by obtain⟨a,xs,e1,e2,_⟩:=q;exact⟨a,xs,e1,e2⟩)
 obtain⟨a',ys,e1,e2,q⟩:=q1
 have ea:a=a':=V.ref.inj (ex.symm.trans e1)
 subst ea
 have exy:=I1.list_inj ht e2
 subst exy
 refine Calls.spliced_nil ?_
 have hne:a≠s1.heap.objs.size:=Nat.ne_of_lt (by obtain⟨o,ho,_⟩:=htup;exact Heap.lt_size ho)
 have st:StL s1.heap.objs.size a its.toArray 0 (s1.heap.push (a8D a ((its.toArray.size:Int) - 1))):=⟨Nat.zero_le _,⟨_,Heap.get?_push_size _ rfl,rfl,by simp[a8D]⟩,htup.push _⟩
 refine b0y (s:={s1 with heap:=s1.heap.push (a8D a ((its.toArray.size:Int) - 1)),toks:=tk}) (I1.ok.hd hc) hne hz st fun h' tk' acc c keep hS hacc=>?_
 have hk:∀b u,s1.heap.get? b=some u->h'.get? b=some u:=fun b u e=>keep b u (Nat.ne_of_lt (Heap.lt_size e)) (Heap.get?_push_of_some _ e)
 have hv':W5 xs its.toArray.toList:=by simpa using hv
 have hr:=b0T hv' hacc
 have hp:s1.heap.objs.size<=(s1.heap.push (a8D a ((its.toArray.size:Int) - 1))).objs.size:=by rw[Heap.size_push];omega
 refine⟨.ref _,_,I1.laid (t':=tk') hk hp (show Z7 X.prog X.w _ h' _ (.lst xs.reverse)from⟨?_,acc.toList,c,hr,by simpa using hS⟩),rfl,q _ (I1.hok.fresh hp)⟩
 rw[hr.length,Array.length_toList,hacc.1]
 exact hz
end
end L2
namespace K43
open PySem L2 PyProof.Rows
noncomputable def top (i:Nat):Stmt:=PySem.Challenge.pw_bundlehouse_k43_flat_rows.main.body.getD i (.Pass ⟨0,0,0,0⟩)
noncomputable abbrev a1y:Stmt:=top 5
theorem F8:U1 ["parts","found","part","rows","number","row"] ["parts"] (J3 a1y):=⟨rfl,rfl,rfl,by decide +kernel,rfl,by decide +kernel,by decide +kernel⟩
noncomputable abbrev a1S:Stmt:=top 6
theorem M5:U1 ["parts","owns","part","number","row"] ["parts"] (J3 a1S):=⟨rfl,rfl,rfl,by decide +kernel,rfl,by decide +kernel,by decide +kernel⟩
noncomputable abbrev a6L:Stmt:=top 7
theorem a0F:U1 ["parts","owns","onward","part","number","row","given","own"] ["parts"] (J3 a6L):=⟨rfl,rfl,rfl,by decide +kernel,rfl,by decide +kernel,by decide +kernel⟩
noncomputable abbrev a5p:Stmt:=top 8
theorem a0h:U1 ["parts","found","onward","start","way","here","name"] ["parts"] (J3 a5p):=⟨rfl,rfl,rfl,by decide +kernel,rfl,by decide +kernel,by decide +kernel⟩
noncomputable abbrev a8A:Stmt:=top 9
theorem a0u:U1 ["parts","found","part","number","row"] ["parts"] (J3 a8A):=⟨rfl,rfl,rfl,by decide +kernel,rfl,by decide +kernel,by decide +kernel⟩
noncomputable abbrev a5b:Stmt:=top 10
theorem b0a:U1 ["parts","part"] ["parts","part"] (J3 a5b):=⟨rfl,rfl,rfl,by decide +kernel,rfl,by decide +kernel,by decide +kernel⟩
noncomputable abbrev a1s:Stmt:=top 11
theorem a1e:U1 ["parts","part","kind","found","row"] ["parts","part","kind"] (J3 a1s):=⟨rfl,rfl,rfl,by decide +kernel,rfl,by decide +kernel,by decide +kernel⟩
noncomputable abbrev a7e:Stmt:=top 12
theorem a3I:U1 ["parts","root","begun","waiting","part"] ["parts","root"] (J3 a7e):=⟨rfl,rfl,rfl,by decide +kernel,rfl,by decide +kernel,by decide +kernel⟩
noncomputable abbrev a2x:Stmt:=top 14
theorem E3:U1 ["parts","owns","used","part","own","found","new"] ["parts"] (J3 a2x):=⟨rfl,rfl,rfl,by decide +kernel,rfl,by decide +kernel,by decide +kernel⟩
noncomputable abbrev a3j:Stmt:=top 15
theorem a2B:U1 ["own","used","number"] ["own","used"] (J3 a3j):=⟨rfl,rfl,rfl,by decide +kernel,rfl,by decide +kernel,by decide +kernel⟩
noncomputable abbrev a1a:Stmt:=top 16
theorem Z4:U1 ["parts","places","news","part","own","new","found","name","place"] ["parts"] (J3 a1a):=⟨rfl,rfl,rfl,by decide +kernel,rfl,by decide +kernel,by decide +kernel⟩
noncomputable abbrev a1z:Stmt:=top 17
theorem a2e:U1 ["part","row","news","kind"] ["part","row","news"] (J3 a1z):=⟨rfl,rfl,rfl,by decide +kernel,rfl,by decide +kernel,by decide +kernel⟩
noncomputable abbrev a0v:Stmt:=top 18
theorem a5q:U1 ["part","terms","news"] ["part","terms","news"] (J3 a0v):=⟨rfl,rfl,rfl,by decide +kernel,rfl,by decide +kernel,by decide +kernel⟩
noncomputable abbrev a0J:Stmt:=top 19
theorem a4j:U1 ["part","thing","news"] ["part","thing","news"] (J3 a0J):=⟨rfl,rfl,rfl,by decide +kernel,rfl,by decide +kernel,by decide +kernel⟩
noncomputable abbrev a0W:Stmt:=top 20
theorem a4E:U1 ["part","when","news"] ["part","when","news"] (J3 a0W):=⟨rfl,rfl,rfl,by decide +kernel,rfl,by decide +kernel,by decide +kernel⟩
noncomputable abbrev a5a:Stmt:=top 22
theorem a3T:U1 ["parts","root","news","work","rows","origins"] ["parts","root"] (J3 a5a):=⟨rfl,rfl,rfl,by decide +kernel,rfl,by decide +kernel,by decide +kernel⟩
noncomputable abbrev a1A:Stmt:=top 23
theorem B6:U1 ["parts","root","rows","part","number","row"] ["parts","root"] (J3 a1A):=⟨rfl,rfl,rfl,by decide +kernel,rfl,by decide +kernel,by decide +kernel⟩
noncomputable abbrev a0H:Stmt:=top 24
theorem O2:U1 ["parts","root","rows","begun","waiting","work","step","row"] ["parts","root"] (J3 a0H):=⟨rfl,rfl,rfl,by decide +kernel,rfl,by decide +kernel,by decide +kernel⟩
noncomputable abbrev a0S:Stmt:=top 25
theorem a2W:U1 ["part","rows","steps"] ["part","rows"] (J3 a0S):=⟨rfl,rfl,rfl,by decide +kernel,rfl,by decide +kernel,by decide +kernel⟩
noncomputable abbrev a1w:Stmt:=top 27
theorem a5n:U1 ["_law_script","_law_k"] ["_law_script","_law_k"] (J3 a1w):=⟨rfl,rfl,rfl,by decide +kernel,rfl,by decide +kernel,by decide +kernel⟩
noncomputable abbrev a1U:Stmt:=top 28
theorem M6:U1 ["_law_cell","_law_k","_law_found","_law_number","_law_by"] ["_law_cell","_law_k"] (J3 a1U):=⟨rfl,rfl,rfl,by decide +kernel,rfl,by decide +kernel,by decide +kernel⟩
noncomputable abbrev a3d:Stmt:=top 29
theorem O5:U1 ["_law_base","_law_k","_law_letters","_law_size","_law_name_here","_law_j","_law_step"] ["_law_base","_law_k"] (J3 a3d):=⟨rfl,rfl,rfl,by decide +kernel,rfl,by decide +kernel,by decide +kernel⟩
noncomputable abbrev a3e:Stmt:=top 30
theorem a8f:U1 ["_law_script","_law_k"] ["_law_script","_law_k"] (J3 a3e):=⟨rfl,rfl,rfl,by decide +kernel,rfl,by decide +kernel,by decide +kernel⟩
noncomputable abbrev a2o:Stmt:=top 31
theorem M1:U1 ["_law_script","_law_first","_law_many","_law_house","_law_k"] ["_law_script"] (J3 a2o):=⟨rfl,rfl,rfl,by decide +kernel,rfl,by decide +kernel,by decide +kernel⟩
noncomputable abbrev a2D:Stmt:=top 32
theorem a6F:U1 ["_law_part","_law_pool_here","_law_k"] ["_law_part","_law_pool_here","_law_k"] (J3 a2D):=⟨rfl,rfl,rfl,by decide +kernel,rfl,by decide +kernel,by decide +kernel⟩
noncomputable abbrev a2t:Stmt:=top 33
theorem M0:U1 ["_law_house","_law_pools_here","_law_here","_law_other","_law_xs","_law_part","_law_given","_law_pairs_here","_law_t","_law_own"] ["_law_house","_law_pools_here","_law_here","_law_other","_law_xs"] (J3 a2t):=⟨rfl,rfl,rfl,by decide +kernel,rfl,by decide +kernel,by decide +kernel⟩
noncomputable abbrev a2n:Stmt:=top 34
theorem E4:U1 ["_law_house","_law_pools_here","_law_xs","_law_here","_law_part","_law_at","_law_kind","_law_other","_law_own","_law_given"] ["_law_house","_law_pools_here","_law_xs"] (J3 a2n):=⟨rfl,rfl,rfl,by decide +kernel,rfl,by decide +kernel,by decide +kernel⟩
noncomputable abbrev a4f:Stmt:=top 35
theorem a0a:U1 ["_law_owns","_law_xs","_law_terms","_law_t","_law_number","_law_thing"] ["_law_owns","_law_xs"] (J3 a4f):=⟨rfl,rfl,rfl,by decide +kernel,rfl,by decide +kernel,by decide +kernel⟩
noncomputable abbrev a4c:Stmt:=top 36
theorem a0b:U1 ["_law_row_here","_law_owns","_law_names","_law_kind","_law_one","_law_xs","_law_when","_law_terms"] ["_law_row_here","_law_owns","_law_names"] (J3 a4c):=⟨rfl,rfl,rfl,by decide +kernel,rfl,by decide +kernel,by decide +kernel⟩
noncomputable abbrev a1q:Stmt:=top 37
theorem a6D:U1 ["_law_row_here"] ["_law_row_here"] (J3 a1q):=⟨rfl,rfl,rfl,by decide +kernel,rfl,by decide +kernel,by decide +kernel⟩
noncomputable abbrev a0j:Stmt:=top 38
theorem Y8:U1 ["_law_house","_law_pool_here","_law_near","_law_names","_law_parts_here","_law_name_here","_law_part","_law_rows","_law_above","_law_row_here"] ["_law_house","_law_pool_here","_law_near"] (J3 a0j):=⟨rfl,rfl,rfl,by decide +kernel,rfl,by decide +kernel,by decide +kernel⟩
noncomputable abbrev a2y:Stmt:=top 39
theorem a0U:U1 ["_law_script","_law_first","_law_own","_law_other"] ["_law_script"] (J3 a2y):=⟨rfl,rfl,rfl,by decide +kernel,rfl,by decide +kernel,by decide +kernel⟩
noncomputable abbrev a2r:Stmt:=top 40
theorem a0T:U1 ["_law_script","_law_house","_law_pools_here","_law_k"] ["_law_script"] (J3 a2r):=⟨rfl,rfl,rfl,by decide +kernel,rfl,by decide +kernel,by decide +kernel⟩
noncomputable abbrev a3k:Stmt:=top 41
theorem a0z:U1 ["_law_parts_here","_law_made_here","_law_name_here","_law_rows","_law_k"] ["_law_parts_here"] (J3 a3k):=⟨rfl,rfl,rfl,by decide +kernel,rfl,by decide +kernel,by decide +kernel⟩
noncomputable abbrev a1Q:Stmt:=top 42
theorem W2:U1 ["_law_parts_here","_law_makers_here","_law_given","_law_steps","_law_name_here","_law_rows","_law_row_here","_law_handed","_law_own","_law_spot","_law_last"] ["_law_parts_here"] (J3 a1Q):=⟨rfl,rfl,rfl,by decide +kernel,rfl,by decide +kernel,by decide +kernel⟩
noncomputable abbrev a1M:Stmt:=top 43
theorem O4:U1 ["_law_parts_here","_law_owns","_law_news_here","_law_used","_law_name_here","_law_rows","_law_k","_law_new","_law_number"] ["_law_parts_here"] (J3 a1M):=⟨rfl,rfl,rfl,by decide +kernel,rfl,by decide +kernel,by decide +kernel⟩
noncomputable abbrev a0t:Stmt:=top 44
theorem a4V:U1 ["_law_parts_here"] ["_law_parts_here"] (J3 a0t):=⟨rfl,rfl,rfl,by decide +kernel,rfl,by decide +kernel,by decide +kernel⟩
noncomputable abbrev a3a:Stmt:=top 45
theorem E7:U1 ["_law_parts_here","_law_root","_law_rows_by","_law_name_here","_law_rows","_law_begun_here","_law_amid","_law_laid_here","_law_at","_law_row_here"] ["_law_parts_here","_law_root"] (J3 a3a):=⟨rfl,rfl,rfl,by decide +kernel,rfl,by decide +kernel,by decide +kernel⟩
noncomputable abbrev a1x:Stmt:=top 46
theorem D9:U1 ["_law_row_here","_law_part","_law_makers_here","_law_news_here","_law_terms","_law_sign","_law_thing"] ["_law_row_here","_law_part","_law_makers_here","_law_news_here"] (J3 a1x):=⟨rfl,rfl,rfl,by decide +kernel,rfl,by decide +kernel,by decide +kernel⟩
noncomputable abbrev a0G:Stmt:=top 47
theorem a4d:U1 ["_law_found","_law_due"] ["_law_found","_law_due"] (J3 a0G):=⟨rfl,rfl,rfl,by decide +kernel,rfl,by decide +kernel,by decide +kernel⟩
noncomputable abbrev a2f:Stmt:=top 48
theorem B8:U1 ["_law_found","_law_laid_here","_law_makers_here","_law_news_here","_law_k","_law_name_here","_law_number","_law_row_here","_law_changed_here"] ["_law_found","_law_laid_here","_law_makers_here","_law_news_here"] (J3 a2f):=⟨rfl,rfl,rfl,by decide +kernel,rfl,by decide +kernel,by decide +kernel⟩
noncomputable abbrev a9n:Stmt:=top 49
theorem a2s:U1 ["_law_script","_law_parts_here","_law_makers_here","_law_news_here","_law_step","_law_name_here","_law_rows","_law_laid_here"] ["_law_script"] (J3 a9n):=⟨rfl,rfl,rfl,by decide +kernel,rfl,by decide +kernel,by decide +kernel⟩
structure Txt(K:PySem.W.Frag)(mg:Str->Option Value):Prop where
 n_len:mg "len"=none
 n_range:mg "range"=none
 n_str:mg "str"=none
 n_tuple:mg "tuple"=none
 n_list:mg "list"=none
 n_dict:mg "dict"=none
 n_enumerate:mg "enumerate"=none
 n_isinstance:mg "isinstance"=none
 n_min:mg "min"=none
 n_max:mg "max"=none
 n_zip:mg "zip"=none
 n_int:mg "int"=none
 n_bool:mg "bool"=none
 n_reversed:mg "reversed"=none
 d_placed_rows:W0 K mg "placed_rows" a1y
 d_given_owns:W0 K mg "given_owns" a1S
 d_links:W0 K mg "links" a6L
 d_makers:W0 K mg "makers" a5p
 d_made:W0 K mg "made" a8A
 d_brings:W0 K mg "brings" a5b
 d_named_parts:W0 K mg "named_parts" a1s
 d_order:W0 K mg "order" a7e
 d_new_names:W0 K mg "new_names" a2x
 d_numbered:W0 K mg "numbered" a3j
 d_makers_names:W0 K mg "makers_names" a1a
 d_renamed_row:W0 K mg "renamed_row" a1z
 d_renamed_sum:W0 K mg "renamed_sum" a0v
 d_renamed_thing:W0 K mg "renamed_thing" a0J
 d_renamed_when:W0 K mg "renamed_when" a0W
 d_flat:W0 K mg "flat" a5a
 d_refuse_asks:W0 K mg "refuse_asks" a1A
 d_work_in_order:W0 K mg "work_in_order" a0H
 d_last_first:W0 K mg "last_first" a0S
 d_law_cell_at:W0 K mg "_law_cell_at" a1w
 d_law_stream:W0 K mg "_law_stream" a1U
 d_law_name:W0 K mg "_law_name" a3d
 d_law_pool:W0 K mg "_law_pool" a3e
 d_law_begun:W0 K mg "_law_begun" a2o
 d_law_fresh:W0 K mg "_law_fresh" a2D
 d_law_pairs:W0 K mg "_law_pairs" a2t
 d_law_added:W0 K mg "_law_added" a2n
 d_law_sum:W0 K mg "_law_sum" a4f
 d_law_row:W0 K mg "_law_row" a4c
 d_law_owned:W0 K mg "_law_owned" a1q
 d_law_finished:W0 K mg "_law_finished" a0j
 d_law_pools:W0 K mg "_law_pools" a2y
 d_law_parts:W0 K mg "_law_parts" a2r
 d_law_made:W0 K mg "_law_made" a3k
 d_law_makers:W0 K mg "_law_makers" a1Q
 d_law_news:W0 K mg "_law_news" a1M
 d_law_quieted:W0 K mg "_law_quieted" a0t
 d_law_laid:W0 K mg "_law_laid" a3a
 d_law_changed:W0 K mg "_law_changed" a1x
 d_law_is_origin:W0 K mg "_law_is_origin" a0G
 d_law_right:W0 K mg "_law_right" a2f
noncomputable def a6z:Sp:=fun vs H Q _=>∃(a:Addr)(ps:List Pt)(n k:Str)(rs:List Rw),vs=[.ref a,.str n,.str k]/\(k="bring" \/k="ask")/\F3 H a ps/\(ps.map (·.1)).Nodup/\(n,rs)∈ps/\ps.length<=1000/\rs.length<=900/\
 ∀(p:Addr)(H':Hp),G6 H H'->H' p=some (.tup ((D8 k rs).map V.str))->Q (.ref p) H'
noncomputable def b2T (k:Str):Sp:=fun vs H Q _=>∃(a:Addr)(ps:List Pt)(n:Str)(rs:List Rw),vs=[.ref a,.str n]/\F3 H a ps/\(ps.map (·.1)).Nodup/\(n,rs)∈ps/\ps.length<=1000/\rs.length<=900/\
 ∀(p:Addr)(H':Hp),G6 H H'->H' p=some (.tup ((D8 k rs).map V.str))->Q (.ref p) H'
theorem a1r{K:PySem.W.Frag}{H:Hp}:∀{vs:List V}{ps:List Pt},Paired (a1t H) vs ps->∃qs:List (Str×V),Paired (fun v(p:Str×V)=>∃t,v= .ref t/\SqT K H t [.str p.1,p.2]) vs qs/\qs.map (·.1)=ps.map (·.1)/\∀n rs,(n,rs)∈ps->∃u ws,(n,V.ref u)∈qs/\H u=some (.tup ws)/\a0K H ws rs
 | _,_,.nil=>⟨[],.nil,rfl,fun n rs h=>by simp at h⟩
 | _,_,.cons (b:=p) ⟨t,u,ws,e,h1,h2,h3⟩ hr=>by
  obtain⟨qs,g1,g2,g3⟩:=a1r (K:=K) hr
  refine⟨(p.1,.ref u)::qs,.cons ⟨t,e,SqT.of h1⟩ g1,by rw[List.map_cons,List.map_cons,g2],fun n rs h=>?_⟩
  rcases List.mem_cons.mp h with z | z
  ·rw[<-z]at h1 h3⊢
   exact⟨u,ws,List.mem_cons_self,h2,h3⟩
  ·obtain⟨u',ws',k1,k2⟩:=g3 n rs z
   exact⟨u',ws',List.mem_cons_of_mem _ k1,k2⟩
theorem J9.dK{H:Hp}{l:Addr}{kvs kvs':List (Key×V)}(h:H l=some (.dK kvs)):J9 H (upd H l (.dK kvs')):=fun b zs q=>by
 rw[G8 (a7u q h (by intro z;cases z))]
 exact q
section
variable{P:Program}{w:World}{K:PySem.W.Frag}{mg:Str->Option Value}{base:Heap}
theorem b0b:("abcdefghijklmnopqrstuvwxyz0123456789":Str).cps.toList.length=36:=by decide +kernel
theorem a4O:(a7r:Str)="abcdefghijklmnopqrstuvwxyz":=rfl
theorem a2P:("abcdefghijklmnopqrstuvwxyz":Str).length<=sizeLine:=by decide +kernel
theorem a8X:(("abcdefghijklmnopqrstuvwxyz":Str)++("0123456789":Str)).length<=sizeLine:=by decide +kernel
theorem a7Y:(("abcdefghijklmnopqrstuvwxyz":Str)++("0123456789":Str))="abcdefghijklmnopqrstuvwxyz0123456789":=by decide +kernel
noncomputable def b4O:Sp:=fun vs H Q _=>∃b k:Int,vs=[.int b,.int k]/\0<=b/\b < 2147483647/\0<=k/\k < 1000/\∀H':Hp,G6 H H'->Q (.str (Y3 b k)) H'
theorem a9A(T:Txt K mg):L2.Cl P w K mg base 1 "_law_name" ["_law_base","_law_k"] b4O:=by
 refine Cl.of T.d_law_name O5 (fun vs H Q E h=>?_) (fun _ _ _ _ _ _ us hl=>by obtain⟨a,b,rfl⟩:=a3F hl;rfl) (fun f cdv A outer s H vs Q E hr h=>?_)
 ·obtain⟨b,k,rfl,_⟩:=h
  rfl
 ·obtain⟨b,k,rfl,hb,hb2,hk,hk2,q⟩:=h
  refine⟨_,(G3 (I9 (i:=2) O5.nd rfl (Or.inl rfl) R6)
   (G3 (I9 (i:=1) O5.nd rfl (Or.inl rfl) (J1 U5 (J1 O0 (J1 F7 (pv 1) (G9 J4 (Y5 (G0 G2 (G0 G2 (G0 G2 (G0 G2 (G0 G2 (G0 G2 G4))))))) (J1 U5 (pv 0) G2) (fun _ _=>rfl))) (J1 Y7 (pv 0) G2)) G2))
   (G3 (I9 (i:=0) O5.nd rfl (Or.inl rfl) (J1 Y7 (pv 0) G2))
   (G3 (U8 (J7 Z8 (J1 U5 (pv 0) G2) G2 (R7 _))
    (G5 (R4 (J1 a9o (G9 a4S (pv 2) (J1 U5 (J1 O0 (J1 Y7 (pv 0) G2) (J1 Y7 (pv 1) G2)) G2) (fun _ _=>rfl)) (J1 O0 G2 (J1 U5 (pv 1) G2))))) R8)
   (G3 (U8 (J7 Z8 (J1 U5 (pv 0) G2) G2 (R7 _))
    (G5 (R4 (J1 B2 (J1 a9o (G9 a4S (pv 2) (J1 U5 (J1 Y7 (pv 0) G2) G2) (fun _ _=>rfl)) (J1 O0 G2 (J1 U5 (J1 Y7 (pv 0) G2) G2))) (U6 a0P (by rfl) T.n_str boot_str (G0 (pv 1) G4))))) R8)
   (G3 (I9 (i:=3) O5.nd rfl (Or.inl rfl) (J1 O0 G2 (J1 U5 (J1 Y7 (pv 0) G2) G2)))
   (G3 (I9 (i:=4) O5.nd rfl (Or.inl rfl) R6)
   (G3 (Y0 PassesOwn.never rfl (a0f (by rfl) T.n_range (G0 (pv 3) G4)) (I0 (i:=5) O5.nd rfl (Or.inl rfl))
    (G3 (I9 (i:=6) O5.nd rfl (Or.inl rfl) (J1 Y7 (pv 0) (J1 O0 G2 (J1 F7 (J1 F7 G2 (pv 5)) (pv 5)))))
    (G5 (U8 (J7 Z8 (pv 5) (J1 U5 (J1 Y7 (pv 0) G2) (pv 3)) (R7 _))
     (G5 (I9 (i:=4) O5.nd rfl (Or.inl rfl) (J1 B2 (pv 4) (G9 a4S (pv 2) (J1 U5 (J1 O0 (pv 6) (pv 1)) G2) (fun _ _=>rfl))))) (G5 (U8 (J7 Z8 (pv 5) G2 (R7 _))
      (G5 (I9 (i:=4) O5.nd rfl (Or.inl rfl) (J1 B2 (pv 4) (G9 a4S (pv 2) (J1 U5 (pv 6) G2) (fun _ _=>rfl))))) (G5 (I9 (i:=4) O5.nd rfl (Or.inl rfl) (J1 B2 (pv 4) (G9 a4S (J1 B2 (pv 2) R6) (J1 U5 (pv 6) G2) (fun _ _=>rfl)))))))))))
   (G5 (R4 (pv 4))))))))))),?_⟩
  have h6:0<=b % 6:=by omega
  have h7:b % 6 < 6:=by omega
  refine⟨_,rfl,(by show 6<=sizeLine;decide),fun l gl=>?_⟩
  have s1:G6 H (upd H l (.lst [.int 1,.int 5,.int 7,.int 11,.int 13,.int 23])):=(G6.refl H).new gl
  have hat:atI [V.int 1,V.int 5,V.int 7,V.int 11,V.int 13,V.int 23] (b % 6)=some (.int ([1,5,7,11,13,23].getD (b % 6).toNat 0)):=by
   have:(b % 6).toNat=0\/(b % 6).toNat=1\/(b % 6).toNat=2\/(b % 6).toNat=3\/(b % 6).toNat=4\/(b % 6).toNat=5:=by omega
   have e1:(((b % 6).toNat:Nat):Int)=b % 6:=by omega
   rw[<-e1]
   simp only[Int.toNat_natCast]
   rcases this with e | e | e | e | e | e<;>rw[e]<;>exact U3 rfl
  refine⟨_,rfl,_,_,rfl,rfl,(by show(0:Int) < 6;decide),l,_,_,_,rfl,rfl,SqL.of G1,hat,?_⟩
  refine⟨_,_,rfl,rfl,.inl ⟨by omega,by omega⟩,?_⟩
  refine⟨_,rfl,_,_,rfl,rfl,⟨by decide,by decide⟩,_,_,rfl,rfl,_,_,rfl,rfl,(by show(0:Int) < 24;decide),?_⟩
  refine⟨_,rfl,_,_,rfl,rfl,⟨by decide,by decide⟩,?_⟩
  obtain⟨r1,r2⟩:=a2O b k
  have q':∀H':Hp,G6 (upd H l (.lst [.int 1,.int 5,.int 7,.int 11,.int 13,.int 23])) H'->Q (.str (Y3 b k)) H':=fun H' s2=>q H' (s1.trans s2)
  clear hat
  have hb':0<=b/144:=by omega
  have hb3:b/144 < 2147483647:=by omega
  have q2:∀H':Hp,G6 (upd H l (.lst [.int 1,.int 5,.int 7,.int 11,.int 13,.int 23])) H'->∀x,x=Y3 b k->Q (.str x) H':=fun H' s2 x e=>by rw[e];exact q' H' s2
  clear q'
  unfold Y3 at q2
  show B0 0 (V.int (b/144)) [some (.int b),some (.int (a2b b k)),some (.str "abcdefghijklmnopqrstuvwxyz"),none,none,none,none] _ _
  generalize upd H l (.lst [.int 1,.int 5,.int 7,.int 11,.int 13,.int 23])=H1 at q2⊢
  generalize a2b b k=k' at r1 r2 q2⊢
  generalize b/144=b' at hb' hb3 q2⊢
  simp only at q2
  refine⟨_,rfl,_,_,rfl,rfl,(by show(0:Int) < 4;decide),rfl,_,rfl,a6c (fun e1=>?_) (fun e1=>?_)⟩
  ·rw[if_pos e1]at q2
   refine⟨_,rfl,_,rfl,_,_,rfl,rfl,⟨by decide,by decide⟩,_,rfl,_,_,rfl,rfl,⟨by decide,by decide⟩,_,_,rfl,rfl,_,_,rfl,rfl,(by show(0:Int) < 26;decide),_,_,_,rfl,rfl,a2P,a1D _ 0 (by omega) (by rw[<-a4O,a3P];omega),?_⟩
   refine⟨_,rfl,_,_,rfl,rfl,(by show(0:Int) < 8;decide),_,_,rfl,rfl,_,_,rfl,rfl,(by omega),(by omega),?_⟩
   exact q2 _ (G6.refl _) _ rfl
  ·rw[if_neg e1]at q2
   refine⟨_,rfl,_,_,rfl,rfl,(by show(0:Int) < 4;decide),rfl,_,rfl,a6c (fun e2=>?_) (fun e2=>?_)⟩
   ·rw[if_pos e2]at q2
    refine⟨_,rfl,_,rfl,_,_,rfl,rfl,⟨by decide,by decide⟩,_,_,rfl,rfl,(by show(0:Int) < 26;decide),_,_,_,rfl,rfl,a2P,a1D _ 0 (by omega) (by rw[<-a4O,a3P];omega),?_⟩
    refine⟨_,rfl,_,_,rfl,rfl,⟨by decide,by decide⟩,_,_,rfl,rfl,(by show(0:Int) < 6;decide),_,_,rfl,rfl,_,_,rfl,rfl,(by omega),(by omega),?_⟩
    refine⟨_,rfl,_,rfl,?_,_,_,rfl,rfl,?_,?_⟩
    ·exact Nat.lt_of_le_of_lt (Nat.log2_le_self _) (by omega)
    ·obtain⟨n1,n2⟩:=a3y (n:=k') r1 (by omega)
     have n3:(Str.ofString (toString k')).length<=60:=by
      have:=congrArg List.length n1
      rw[List.length_map,Array.length_toList]at this
      show(Str.ofString (toString k')).cps.size<=60
      omega
     have n4:(⟨(List.replicate (1+b'/104 % 6).toNat (a7r.cps.toList.getD (b'/4 % 26).toNat 0)).toArray⟩:Str).length<=6:=by
      show(List.replicate (1+b'/104 % 6).toNat (a7r.cps.toList.getD (b'/4 % 26).toNat 0)).toArray.size<=6
      rw[List.size_toArray,List.length_replicate];omega
     exact Nat.le_of_lt (J6 (by
      have n4':(⟨(List.replicate (1+b'/104 % 6).toNat (("abcdefghijklmnopqrstuvwxyz":Str).cps.toList.getD (b'/4 % 26).toNat 0)).toArray⟩:Str).length<=6:=n4
      omega))
    ·exact q2 _ (G6.refl _) _ rfl
   ·rw[if_neg e2]at q2
    have hz1:0 < 1+b'/4 % 8:=by omega
    have hz2:1+b'/4 % 8<=8:=by omega
    refine⟨_,rfl,_,_,rfl,rfl,⟨by decide,by decide⟩,_,_,rfl,rfl,(by show(0:Int) < 8;decide),_,_,rfl,rfl,?_⟩
    show B0 3 (V.int (1+b'/4 % 8)) [some (.int b'),some (.int k'),some (.str "abcdefghijklmnopqrstuvwxyz"),none,none,none,none] _ _
    generalize 1+b'/4 % 8=z at q2 hz1 hz2⊢
    refine⟨_,rfl,_,rfl,(by omega),(by omega),B7 (fun i σ H2=>H2=H1/\∃v5 v6:Option V,σ=[some (.int b'),some (.int k'),some (.str "abcdefghijklmnopqrstuvwxyz"),some (.int z),some (.str ⟨(nm3 b' k' z i).toArray⟩),v5,v6])
     ⟨rfl,none,none,rfl⟩ ?_ ?_⟩
    ·rintro i σ H2 hi ⟨rfl,v5,v6,rfl⟩
     have hi8:i<=7:=by omega
     have hsq:(11*(i:Int))*(i:Int)<=539/\0<=(11*(i:Int))*(i:Int):=by
      have:i=0\/i=1\/i=2\/i=3\/i=4\/i=5\/i=6\/i=7:=by omega
      rcases this with e | e | e | e | e | e | e | e<;>subst e<;>decide
     have hnl:(⟨(nm3 b' k' z i).toArray⟩:Str).length=i:=by
      show(nm3 b' k' z i).toArray.size=i
      rw[List.size_toArray,a2H]
     have hst:∀(c:Nat),nm3 b' k' z (i+1)=nm3 b' k' z i++[c]->(⟨(nm3 b' k' z i).toArray⟩:Str)++(⟨#[c]⟩:Str)=⟨(nm3 b' k' z (i+1)).toArray⟩:=fun c e=>by
      rw[e]
      show(⟨(nm3 b' k' z i).toArray++ #[c]⟩:Str)=_
      simp
     have hlen1:∀c:Nat,(⟨(nm3 b' k' z i).toArray⟩:Str).length+(⟨#[c]⟩:Str).length<=sizeLine:=fun c=>by
      rw[hnl]
      exact Nat.le_of_lt (J6 (by show i+1<=1000;omega))
     rw[Int.zero_add]
     refine⟨_,rfl,_,rfl,_,_,rfl,rfl,.inl ⟨by decide,by decide⟩,_,rfl,_,_,rfl,rfl,.inl ⟨by omega,by omega⟩,_,_,rfl,rfl,_,_,rfl,rfl,⟨by omega,by omega⟩,?_⟩
     refine⟨_,rfl,_,rfl,_,_,rfl,rfl,⟨by decide,by decide⟩,_,rfl,_,_,rfl,rfl,hz1,rfl,_,rfl,a6c (fun e3=>?_) (fun e3=>?_)⟩
     ·refine⟨_,rfl,_,rfl,_,rfl,_,rfl,_,_,rfl,rfl,_,_,rfl,rfl,(by show(0:Int) < 26;decide),_,_,_,rfl,rfl,a2P,a1D _ 0 (by omega) (by rw[<-a4O,a3P];omega),_,_,rfl,rfl,hlen1 _,?_⟩
      rw[hst _ (by show nm3 b' k' z i++[_]=_;rw[if_pos e3];rfl)]
      exact⟨rfl,_,_,rfl⟩
     ·refine⟨_,rfl,rfl,_,rfl,a6c (fun e4=>?_) (fun e4=>?_)⟩
      ·refine⟨_,rfl,_,rfl,_,rfl,_,_,rfl,rfl,(by show(0:Int) < 26;decide),_,_,_,rfl,rfl,a2P,a1D _ 0 (by omega) (by rw[<-a4O,a3P];omega),_,_,rfl,rfl,hlen1 _,?_⟩
       rw[hst _ (by show nm3 b' k' z i++[_]=_;rw[if_neg e3,if_pos e4];rfl)]
       exact⟨rfl,_,_,rfl⟩
      ·refine⟨_,rfl,_,rfl,_,_,rfl,rfl,(by decide +kernel),_,rfl,_,_,rfl,rfl,(by show(0:Int) < 36;decide),_,_,_,rfl,rfl,a8X,a1D _ 0 (by omega) (by rw[a7Y,b0b];omega),_,_,rfl,rfl,hlen1 _,?_⟩
       rw[hst _ (by show nm3 b' k' z i++[_]=_;rw[if_neg e3,if_neg e4,a7Y];rfl)]
       exact⟨rfl,_,_,rfl⟩
    ·rintro σ H2 ⟨rfl,v5,v6,rfl⟩
     exact⟨_,rfl,q2 _ (G6.refl _) _ rfl⟩
noncomputable def b4z (K:PySem.W.Frag):Sp:=fun vs H Q _=>∃(a:Addr)(ns:List Int)(k:Int),vs=[.ref a,.int k]/\SqL K H a (ns.map V.int)/\0<=k/\∀c:Int,Q (.int c) H
noncomputable def Bnd (ns:List Int):Prop:=∀n∈ns,0<=n/\n < 2147483647
noncomputable def b2s:Sp:=fun vs H Q _=>∃(c k:Int),vs=[.int c,.int k]/\0<=k/\k < 1000/\∀(l:Addr)(xs:List Int)(H':Hp),G6 H H'->H l=none->H' l=some (.lst (xs.map V.int))->xs.length=6->Bnd xs->Q (.ref l) H'
noncomputable def b5a (K:PySem.W.Frag):Sp:=fun vs H Q _=>∃(a:Addr)(ns:List Int)(k:Int),vs=[.ref a,.int k]/\SqL K H a (ns.map V.int)/\0<=k/\∀c:Int,0<=c->c < 2147483647->Q (.int c) H
theorem a3x(T:Txt K mg):L2.Cl P w K mg base 1 "_law_cell_at" ["_law_script","_law_k"] (b4z K):=by
 refine Cl.of T.d_law_cell_at a5n (fun vs H Q E h=>?_) (fun _ _ _ _ _ _ us hl=>by obtain⟨a,b,rfl⟩:=a3F hl;rfl) (fun f cdv A outer s H vs Q E hr h=>?_)
 ·obtain⟨a,ns,k,rfl,_⟩:=h
  rfl
 ·obtain⟨a,ns,k,rfl,hS,hk,q⟩:=h
  refine⟨_,(G3 (U8 (J7 a5N (pv 1) (R3 J8 (by rfl) T.n_len PySem.boot_len (G0 (pv 0) G4)) (R7 _))
    (G5 (R4 (G9 J4 (pv 0) (pv 1) (fun _ _=>rfl)))) R8)
   (G5 (R4 G2))),?_⟩
  refine⟨_,rfl,_,rfl,a,_,rfl,.inl hS,_,_,rfl,rfl,_,rfl,?_⟩
  refine a4Y (fun hlt=>?_) (fun hlt=>?_)
  ·have hlt':k < (ns.length:Int):=by simpa using hlt
   refine⟨_,rfl,_,rfl,a,_,_,_,rfl,rfl,hS,Y9 V.int ns 0 hk hlt',?_⟩
   exact q _
  ·exact q 0
theorem b3v(T:Txt K mg):L2.Cl P w K mg base 2 "_law_pool" ["_law_script","_law_k"] (b5a K):=by
 have C_law_cell_at:=a3x (P:=P) (w:=w) (base:=base) T
 refine Cl.of T.d_law_pool a8f (fun vs H Q E h=>?_) (fun _ _ _ _ _ _ us hl=>by obtain⟨a,b,rfl⟩:=a3F hl;rfl) (fun f cdv A outer s H vs Q E hr h=>?_)
 ·obtain⟨a,ns,k,rfl,_⟩:=h
  rfl
 ·obtain⟨a,ns,k,rfl,hS,hk,q⟩:=h
  refine⟨_,(G5 (R4 (J1 U5 (J1 F7 (U9 C_law_cell_at hr (by rfl) (G0 (pv 0) (G0 (pv 1) G4))) G2) G2))),?_⟩
  refine⟨_,rfl,_,rfl,a,ns,k,rfl,hS,hk,fun c=>?_⟩
  refine⟨_,_,rfl,rfl,.inr ⟨by decide,by decide⟩,_,_,rfl,rfl,(by show(0:Int) < 2147483647;decide),q _ (by omega) (by omega)⟩
theorem b0H(T:Txt K mg):L2.Cl P w K mg base 1 "_law_stream" ["_law_cell","_law_k"] b2s:=by
 refine Cl.of T.d_law_stream M6 (fun vs H Q E h=>?_) (fun _ _ _ _ _ _ us hl=>by obtain⟨a,b,rfl⟩:=a3F hl;rfl) (fun f cdv A outer s H vs Q E hr h=>?_)
 ·obtain⟨c,k,rfl,_⟩:=h
  rfl
 ·obtain⟨c,k,rfl,hk1,hk2,q⟩:=h
  refine⟨_,(G3 (I9 (i:=2) M6.nd rfl (Or.inl rfl) (Y5 G4))
   (G3 (I9 (i:=3) M6.nd rfl (Or.inl rfl) (J1 O0 (J1 O0 (J1 U5 (pv 0) G2) (J1 F7 (J1 F7 G2 (pv 1)) (pv 1))) G2))
   (G3 (Y0 PassesOwn.never rfl (a1T (Y5 (G0 G2 (G0 G2 (G0 G2 (G0 G2 (G0 G2 (G0 G2 G4)))))))) (I0 (i:=4) M6.nd rfl (Or.inl rfl))
    (G3 (I9 (i:=3) M6.nd rfl (Or.inl rfl) (J1 U5 (J1 O0 (J1 O0 (J1 F7 (pv 3) (pv 3)) (J1 F7 (pv 4) (pv 3))) (pv 1)) G2))
    (G5 (Z1 (D7 PySem.F.plainAttrs_list PySem.F.slot_list_append PySem.F.type_list_append Z5 (pv 2) (G0 (pv 3) G4))))))
   (G5 (R4 (pv 2)))))),?_⟩
  refine⟨a0E,fun l hl=>?_⟩
  have s1:G6 H (upd H l (.lst [])):=(G6.refl H).new hl
  have hkk:48271*k*k<=48271*1000*1000:=Int.mul_le_mul (by omega) (by omega) hk1 (by decide)
  have hkk0:0<=48271*k*k:=Int.mul_nonneg (by omega) hk1
  refine⟨_,rfl,_,_,rfl,rfl,(by show(0:Int) < 2147483647;decide),_,rfl,_,_,rfl,rfl,.inl ⟨by decide,by decide⟩,_,rfl,_,_,rfl,rfl,.inl ⟨by omega,by omega⟩,_,_,rfl,rfl,_,_,rfl,rfl,?_⟩
  have z0a:0<=c % 2147483647+48271*k*k+7:=by omega
  have z0b:c % 2147483647+48271*k*k+7 < 1000000000000:=by omega
  refine⟨(by show 6<=sizeLine;decide),fun b hb=>?_⟩
  have hlb:l≠b:=Y4 (G1 (H:=H) (a:=l) (o:= .lst [])) hb
  refine⟨b,rfl,⟨_,SqL.of G1⟩,a2k (K:=K) (a:=b) (xs:=[.int 48271,.int 69621,.int 16807,.int 39373,.int 62089,.int 40692]) (fun i σ H2=>∃(zs:List Int)(z:Int)(v4:Option V),σ=[some (.int c),some (.int k),some (.ref l),some (.int z),v4]/\G6 H H2/\H2 l=some (.lst (zs.map V.int))/\H2 b=some (.lst [.int 48271,.int 69621,.int 16807,.int 39373,.int 62089,.int 40692])/\zs.length=i/\Bnd zs/\0<=z/\z < 1000000000000)
   ⟨[],_,none,rfl,s1.new hb,U4 G1 hb,G1,rfl,(fun n hn=>by simp at hn),z0a,z0b⟩ (fun i σ H2 _⟨_,_,_,_,_,_,h,_⟩=>SqL.of h) ?_ ?_⟩
  ·rintro i x σ H2 hx ⟨zs,z,v4,rfl,s2,hl2,hb2,hlen,hbd,hz0,hz1⟩
   have hi:i < 6:=(List.getElem?_eq_some_iff.mp hx).1
   obtain⟨n,rfl,hn0,hn1⟩:∃n:Int,x= .int n/\0<=n/\n<=70000:=by
    have:=List.mem_of_getElem? hx
    simp only[List.mem_cons,List.not_mem_nil,or_false]at this
    rcases this with rfl | rfl | rfl | rfl | rfl | rfl<;>exact⟨_,rfl,by decide,by decide⟩
   refine⟨_,rfl,_,rfl,_,_,rfl,rfl,.inl ⟨by omega,by omega⟩,_,rfl,_,rfl,_,_,rfl,rfl,.inl ⟨by omega,by omega⟩,_,_,rfl,rfl,_,rfl,_,_,rfl,rfl,_,_,rfl,rfl,(by show(0:Int) < 2147483647;decide),?_⟩
   generalize z*z+n*z+k=y
   refine⟨_,rfl,.inl ⟨rfl,_,SqL.of hl2⟩,_,rfl,l,_,_,rfl,rfl,hl2,J6 (by rw[List.length_map];omega),?_⟩
   refine⟨zs++[y % 2147483647],y % 2147483647,_,rfl,s2.put hl,by rw[G1,List.map_append];rfl,by rw[G8 hlb.symm];exact hb2,by simp[hlen],fun n hn=>?_,by omega,by omega⟩
   rcases List.mem_append.mp hn with h | h
   ·exact hbd n h
   ·rw[List.mem_singleton.mp h];omega
  ·rintro σ H2 ⟨zs,z,v4,rfl,s2,hl2,hb2,hlen,hbd,hz0,hz1⟩
   exact⟨_,rfl,q l zs _ s2 hl hl2 hlen hbd⟩
noncomputable def New (H0:Hp) (l:Addr) (A:List Q4):Prop:=H0 l=none/\∀(i:Nat)(q:Q4)(x:Nat),A[i]?=some q->x < 4->H0 (q.nth x)=none
noncomputable def b0F (hs:List Pp):Prop:=∀pp∈hs,pp.rows=[]/\pp.owns=[]/\pp.gives=[]/\0<=pp.sh/\pp.sh < 100
noncomputable def b3q (K:PySem.W.Frag):Sp:=fun vs H Q _=>∃(a:Addr)(ns:List Int),vs=[.ref a]/\SqL K H a (ns.map V.int)/\∀(l:Addr)(A:List Q4)(hs:List Pp)(H':Hp),G6 H H'->U2 H' l A [] hs->New H l A->1<=hs.length->hs.length<=24->b0F hs->Q (.ref l) H'
theorem New.snoc{H:Hp}{l:Addr}{A:List Q4}{q:Q4}(h:New H l A)(hq:∀x,x < 4->H (q.nth x)=none):New H l (A++[q]):=by
 refine⟨h.1,fun i u x e hx=>?_⟩
 by_cases hi:i < A.length
 ·rw[List.getElem?_append_left hi]at e
  exact h.2 i u x e hx
 ·rw[List.getElem?_append_right (by omega)]at e
  have h0:i - A.length=0:=by
   have:=(List.getElem?_eq_some_iff.mp e).1
   simp only[List.length_singleton]at this
   omega
  rw[h0]at e
  simp only[List.getElem?_cons_zero,Option.some.injEq]at e
  rw[<-e]
  exact hq x hx
theorem lt4{x:Nat}(h:x < 4):x=0\/x=1\/x=2\/x=3:=by omega
theorem b1b{H:Hp}{l:Addr}(h:H l=some (.lst [])):U2 H l [] [] []:=⟨h,rfl,fun i q pp e=>by simp at e,fun i q x e=>by simp at e,fun d hd=>by simp at hd,fun i j q u x y e=>by simp at e⟩
theorem a5x{H H2:Hp}{l r o g p:Addr}{A:List Q4}{hs:List Pp}{c:Int}(s2:G6 H H2)(hh:U2 H2 l A [] hs)(hn:New H l A)(hb:b0F hs)(hc0:0<=c)(hc1:c < 100)(gr:H2 r=none)(go:upd H2 r (.lst []) o=none)(gg:upd (upd H2 r (.lst [])) o (.lst []) g=none)
  (gp:upd (upd (upd H2 r (.lst [])) o (.lst [])) g (.lst []) p=none):
  U2 (upd (upd (upd (upd (upd H2 r (.lst [])) o (.lst [])) g (.lst [])) p (.lst [.ref r,.ref o,.ref g,.int c])) l (.lst ((A.map fun q=>V.ref q.p)++[.ref p]))) l (A++[⟨p,r,o,g⟩]) [] (hs++[⟨[],[],[],c⟩])/\New H l (A++[⟨p,r,o,g⟩])/\b0F (hs++[⟨[],[],[],c⟩]):=by
 have hro:r≠o:=Y4 (G1 (H:=H2) (a:=r) (o:= .lst [])) go
 have hrg:r≠g:=Y4 (U4 (G1 (H:=H2) (a:=r) (o:= .lst [])) go) gg
 have hrp:r≠p:=Y4 (U4 (U4 (G1 (H:=H2) (a:=r) (o:= .lst [])) go) gg) gp
 have hog:o≠g:=Y4 (G1 (H:=upd H2 r (.lst [])) (a:=o) (o:= .lst [])) gg
 have hop:o≠p:=Y4 (U4 (G1 (H:=upd H2 r (.lst [])) (a:=o) (o:= .lst [])) gg) gp
 have hgp:g≠p:=Y4 (G1 (H:=upd (upd H2 r (.lst [])) o (.lst [])) (a:=g) (o:= .lst [])) gp
 have no:H2 o=none:=by rw[G8 hro.symm]at go;exact go
 have ng:H2 g=none:=by rw[G8 hog.symm,G8 hrg.symm]at gg;exact gg
 have np:H2 p=none:=by rw[G8 hgp.symm,G8 hop.symm,G8 hrp.symm]at gp;exact gp
 have hnew:∀x,x < 4->H2 ((⟨p,r,o,g⟩:Q4).nth x)=none:=fun x hx=>by
  rcases lt4 hx with rfl | rfl | rfl | rfl
  ·exact np
  ·exact gr
  ·exact no
  ·exact ng
 have S:G6 H2 (upd (upd (upd (upd H2 r (.lst [])) o (.lst [])) g (.lst [])) p (.lst [.ref r,.ref o,.ref g,.int c])):=((((G6.refl H2).new gr).new go).new gg).new gp
 refine⟨U2.add hh S hnew (fun x y hx hy z=>?_) G1 ?_ ?_ ?_,hn.snoc fun x hx=>s2.free (hnew x hx),fun pp hpp=>?_⟩
 ·rcases lt4 hx with rfl | rfl | rfl | rfl<;>rcases lt4 hy with rfl | rfl | rfl | rfl<;>first | rfl | (exfalso;first | exact hro z | exact hro z.symm | exact hrg z | exact hrg z.symm | exact hrp z | exact hrp z.symm | exact hog z | exact hog z.symm | exact hop z | exact hop z.symm | exact hgp z | exact hgp z.symm)
 ·exact U4 (U4 (U4 G1 go) gg) gp
 ·exact U4 (U4 G1 gg) gp
 ·exact U4 G1 gp
 ·rcases List.mem_append.mp hpp with z | z
  ·exact hb pp z
  ·rw[List.mem_singleton.mp z]
   exact⟨rfl,rfl,rfl,hc0,hc1⟩
theorem b2f(T:Txt K mg):L2.Cl P w K mg base 2 "_law_begun" ["_law_script"] (b3q K):=by
 have C_law_cell_at:=a3x (P:=P) (w:=w) (base:=base) T
 refine Cl.of T.d_law_begun M1 (fun vs H Q E h=>?_) (fun _ _ _ _ _ _ us hl=>by obtain⟨a,rfl⟩:=a2V hl;rfl) (fun f cdv A outer s H vs Q E hr h=>?_)
 ·obtain⟨a,ns,rfl,_⟩:=h
  rfl
 ·obtain⟨a,ns,rfl,hS,q⟩:=h
  refine⟨_,(G3 (I9 (i:=1) M1.nd rfl (Or.inl rfl) (U9 C_law_cell_at hr (by rfl) (G0 (pv 0) (G0 G2 G4))))
   (G3 (I9 (i:=2) M1.nd rfl (Or.inl rfl) (J1 O0 G2 (J1 U5 (pv 1) G2)))
   (G3 (U8 (J7 Z8 (J1 U5 (J1 Y7 (pv 1) G2) G2) G2 (R7 _))
    (G5 (I9 (i:=2) M1.nd rfl (Or.inl rfl) (J1 O0 G2 (J1 U5 (J1 Y7 (pv 1) G2) G2)))) R8)
   (G3 (I9 (i:=3) M1.nd rfl (Or.inl rfl) (Y5 G4))
   (G3 (Y0 PassesOwn.never rfl (a0f (by rfl) T.n_range (G0 (pv 2) G4)) (I0 (i:=4) M1.nd rfl (Or.inl rfl))
    (G5 (Z1 (D7 PySem.F.plainAttrs_list PySem.F.slot_list_append PySem.F.type_list_append Z5 (pv 3) (G0 (Y5 (G0 (Y5 G4) (G0 (Y5 G4) (G0 (Y5 G4) (G0 (J1 F7 (pv 4) (J1 U5 (J1 Y7 (pv 1) G2) G2)) G4))))) G4)))))
   (G5 (R4 (pv 3)))))))),?_⟩
  refine⟨_,rfl,a,ns,0,rfl,hS,(by decide),fun c=>?_⟩
  refine⟨_,rfl,_,_,rfl,rfl,(by show(0:Int) < 6;decide),_,_,rfl,rfl,?_⟩
  refine⟨_,rfl,_,_,rfl,rfl,⟨by decide,by decide⟩,_,_,rfl,rfl,(by show(0:Int) < 8;decide),rfl,_,rfl,a6c (fun e1=>?_) (fun e1=>?_)⟩
  ·refine⟨_,rfl,_,_,rfl,rfl,⟨by decide,by decide⟩,_,_,rfl,rfl,(by show(0:Int) < 24;decide),_,_,rfl,rfl,?_⟩
   have hm1:1<=1+c/48 % 24:=by omega
   have hm2:1+c/48 % 24<=24:=by omega
   show B0 2 (V.int (1+c/48 % 24)) _ _ _
   generalize 1+c/48 % 24=m at hm1 hm2⊢
   refine⟨a0E,fun l hl=>?_⟩
   have s1:G6 H (upd H l (.lst [])):=(G6.refl H).new hl
   refine⟨_,rfl,_,rfl,(by omega),(by omega),B7 (fun i σ H2=>∃(A:List Q4)(hs:List Pp)(v4:Option V),σ=[some (.ref a),some (.int c),some (.int m),some (.ref l),v4]/\G6 H H2/\U2 H2 l A [] hs/\New H l A/\hs.length=i/\b0F hs)
    ⟨[],[],none,rfl,s1,b1b G1,⟨hl,fun i q x e=>by simp at e⟩,rfl,fun pp hpp=>by simp at hpp⟩ ?_ ?_⟩
   ·rintro i σ H2 hi ⟨A,hs,v4,rfl,s2,hh,hn,hlen,hb⟩
    have hk0:0<=(0+(i:Int)):=by omega
    have hk1:(0+(i:Int))<=23:=by omega
    generalize 0+(i:Int)=k at hk0 hk1⊢
    have hc1:0<=c/6 % 5:=by omega
    have hc2:c/6 % 5<=4:=by omega
    have hm0:0<=k*(c/6 % 5):=Int.mul_nonneg hk0 hc1
    have hm3:k*(c/6 % 5)<=23*4:=Int.mul_le_mul hk1 hc2 hc1 (by decide)
    refine⟨_,rfl,.inl ⟨rfl,_,SqL.of hh.ll⟩,a0E,fun r gr=>⟨a0E,fun o go=>⟨a0E,fun g gg=>?_⟩⟩⟩
    refine⟨_,rfl,_,rfl,_,_,rfl,rfl,⟨by decide,by decide⟩,_,_,rfl,rfl,(by show(0:Int) < 5;decide),_,_,rfl,rfl,.inl ⟨by omega,by omega⟩,(by show 4<=sizeLine;decide),fun p gp=>?_⟩
    obtain⟨S1,S2,S3⟩:=a5x s2 hh hn hb hm0 (by omega) gr go gg gp
    have hll:=(((((G6.refl H2).new gr).new go).new gg).new (o:= .lst [.ref r,.ref o,.ref g,.int (k*(c/6 % 5))]) gp) _ _ hh.ll
    refine⟨l,_,_,rfl,rfl,hll,J6 (by rw[List.length_map,hh.len];omega),?_⟩
    exact⟨_,_,_,rfl,((((s2.new gr).new go).new gg).new gp).put hl,S1,S2,by rw[List.length_append,hlen];rfl,S3⟩
   ·rintro σ H2 ⟨A,hs,v4,rfl,s2,hh,hn,hlen,hb⟩
    exact⟨_,rfl,q l A hs _ s2 hh hn (by omega) (by omega) hb⟩
  ·have hm1:1<=1+c % 6:=by omega
   have hm2:1+c % 6<=24:=by omega
   show a4s _ [some (.ref a),some (.int c),some (.int (1+c % 6)),none,none] _
   generalize 1+c % 6=m at hm1 hm2⊢
   refine⟨a0E,fun l hl=>?_⟩
   have s1:G6 H (upd H l (.lst [])):=(G6.refl H).new hl
   refine⟨_,rfl,_,rfl,(by omega),(by omega),B7 (fun i σ H2=>∃(A:List Q4)(hs:List Pp)(v4:Option V),σ=[some (.ref a),some (.int c),some (.int m),some (.ref l),v4]/\G6 H H2/\U2 H2 l A [] hs/\New H l A/\hs.length=i/\b0F hs)
    ⟨[],[],none,rfl,s1,b1b G1,⟨hl,fun i q x e=>by simp at e⟩,rfl,fun pp hpp=>by simp at hpp⟩ ?_ ?_⟩
   ·rintro i σ H2 hi ⟨A,hs,v4,rfl,s2,hh,hn,hlen,hb⟩
    have hk0:0<=(0+(i:Int)):=by omega
    have hk1:(0+(i:Int))<=23:=by omega
    generalize 0+(i:Int)=k at hk0 hk1⊢
    have hc1:0<=c/6 % 5:=by omega
    have hc2:c/6 % 5<=4:=by omega
    have hm0:0<=k*(c/6 % 5):=Int.mul_nonneg hk0 hc1
    have hm3:k*(c/6 % 5)<=23*4:=Int.mul_le_mul hk1 hc2 hc1 (by decide)
    refine⟨_,rfl,.inl ⟨rfl,_,SqL.of hh.ll⟩,a0E,fun r gr=>⟨a0E,fun o go=>⟨a0E,fun g gg=>?_⟩⟩⟩
    refine⟨_,rfl,_,rfl,_,_,rfl,rfl,⟨by decide,by decide⟩,_,_,rfl,rfl,(by show(0:Int) < 5;decide),_,_,rfl,rfl,.inl ⟨by omega,by omega⟩,(by show 4<=sizeLine;decide),fun p gp=>?_⟩
    obtain⟨S1,S2,S3⟩:=a5x s2 hh hn hb hm0 (by omega) gr go gg gp
    have hll:=(((((G6.refl H2).new gr).new go).new gg).new (o:= .lst [.ref r,.ref o,.ref g,.int (k*(c/6 % 5))]) gp) _ _ hh.ll
    refine⟨l,_,_,rfl,rfl,hll,J6 (by rw[List.length_map,hh.len];omega),?_⟩
    exact⟨_,_,_,rfl,((((s2.new gr).new go).new gg).new gp).put hl,S1,S2,by rw[List.length_append,hlen];rfl,S3⟩
   ·rintro σ H2 ⟨A,hs,v4,rfl,s2,hh,hn,hlen,hb⟩
    exact⟨_,rfl,q l A hs _ s2 hh hn (by omega) (by omega) hb⟩
noncomputable def b2P:Sp:=fun vs H Q _=>∃(p r o g:Addr)(b k sh:Int),vs=[.ref p,.int b,.int k]/\H p=some (.lst [.ref r,.ref o,.ref g,.int sh])/\0<=b/\b < 2147483647/\0<=k/\∀H':Hp,G6 H H'->Q (.str (Y3 b ((k+sh) % 24))) H'
theorem a7H(T:Txt K mg):L2.Cl P w K mg base 2 "_law_fresh" ["_law_part","_law_pool_here","_law_k"] b2P:=by
 have C_law_name:=a9A (P:=P) (w:=w) (base:=base) T
 refine Cl.of T.d_law_fresh a6F (fun vs H Q E h=>?_) (fun _ _ _ _ _ _ us hl=>by obtain⟨a,b,c,rfl⟩:=a6E hl;rfl) (fun f cdv A outer s H vs Q E hr h=>?_)
 ·obtain⟨p,r,o,g,b,k,sh,rfl,_⟩:=h
  rfl
 ·obtain⟨p,r,o,g,b,k,sh,rfl,hp,hb0,hb1,hk,q⟩:=h
  refine⟨_,(G5 (R4 (U9 C_law_name hr (by rfl) (G0 (pv 1) (G0 (J1 U5 (J1 O0 (pv 2) (G9 J4 (pv 0) G2 (fun _ _=>rfl))) G2) G4))))),?_⟩
  refine⟨_,rfl,_,rfl,_,rfl,p,_,_,_,rfl,rfl,SqL.of hp,rfl,_,_,rfl,rfl,_,_,rfl,rfl,(by show(0:Int) < 24;decide),?_⟩
  exact⟨b,(k+sh) % 24,rfl,hb0,hb1,by omega,by omega,q⟩
noncomputable def D5 (l:Addr) (A:List Q4) (H H':Hp):Prop:=∀a o,¬inH l A [] a->H a=some o->H' a=some o
structure a2M(H:Hp)(pl l:Addr)(A:List Q4)(b0 b1 b2:Int):Prop where
 h:H pl=some (.lst [.int b0,.int b1,.int b2])
 n:¬inH l A [] pl
 r0:0<=b0/\b0 < 2147483647
 r1:0<=b1/\b1 < 2147483647
 r2:0<=b2/\b2 < 2147483647
noncomputable def b3l:Sp:=fun vs H Q _=>∃(l pl x:Addr)(A:List Q4)(hs:List Pp)(b0 b1 b2:Int)(i j n:Nat)(pp pq:Pp)(xs:List Int),vs=[.ref l,.ref pl,.int i,.int j,.ref x]/\U2 H l A [] hs/\a2M H pl l A b0 b1 b2/\a6T H (inH l A []) x xs/\xs.length=6/\Bnd xs/\
 hs[i]?=some pp/\hs[j]?=some pq/\i≠j/\pp.owns=W9 b0 pp.sh n/\n<=17/\(∀y∈pq.gives,D3 y)/\pq.gives.length<=100/\
 ∀(m:Nat)(ps:List (Str×Str))(q:Addr)(H':Hp),m<=6->ps.length=m->W9 b0 pp.sh n++ps.map (·.2)=W9 b0 pp.sh (n+m)->(∀p∈ps,p.1∈pq.gives)->a1p H' q ps->U2 H' l A [] (hs.set i {pp with owns:=W9 b0 pp.sh (n+m)})->D5 l A H H'->Q (.ref q) H'
theorem b2A(T:Txt K mg):L2.Cl P w K mg base 3 "_law_pairs" ["_law_house","_law_pools_here","_law_here","_law_other","_law_xs"] b3l:=by
 have C_law_fresh:=a7H (P:=P) (w:=w) (base:=base) T
 refine Cl.of T.d_law_pairs M0 (fun vs H Q E h=>?_) (fun _ _ _ _ _ _ us hl=>match us,hl with | [_,_,_,_,_],_=>rfl) (fun f cdv A' outer s H vs Q E hr h=>?_)
 ·obtain⟨l,pl,x,A,hs,b0,b1,b2,i,j,n,pp,pq,xs,rfl,_⟩:=h
  rfl
 ·obtain⟨l,pl,x,A,hs,b0,b1,b2,i,j,n,pp,pq,xs,rfl,hh,hpl,⟨hx,hxn⟩,hx6,hxb,ei,ej,hij,hown,hn,hgo,hgl,q⟩:=h
  obtain⟨qi,eqi⟩:∃q,A[i]?=some q:=⟨A[i]'(by rw[hh.len];exact(List.getElem?_eq_some_iff.mp ei).1),by simp[hh.len,(List.getElem?_eq_some_iff.mp ei).1]⟩
  obtain⟨qj,eqj⟩:∃q,A[j]?=some q:=⟨A[j]'(by rw[hh.len];exact(List.getElem?_eq_some_iff.mp ej).1),by simp[hh.len,(List.getElem?_eq_some_iff.mp ej).1]⟩
  have mi:(A.map fun q=>V.ref q.p)[i]?=some (.ref qi.p):=by rw[List.getElem?_map,eqi];rfl
  have mj:(A.map fun q=>V.ref q.p)[j]?=some (.ref qj.p):=by rw[List.getElem?_map,eqj];rfl
  have Pi:=hh.pt i qi pp eqi ei
  have Pj:=hh.pt j qj pq eqj ej
  have hx2:∀k:Int,0<=k->k < 6->0<=xs.getD k.toNat 0/\xs.getD k.toNat 0 < 2147483647:=fun k h0 h1=>by
   have hk:k.toNat < xs.length:=by omega
   rw[List.getD_eq_getElem?_getD,List.getElem?_eq_getElem hk]
   exact hxb _ (List.getElem_mem hk)
  refine⟨_,(G3 (I9 (i:=5) M0.nd rfl (Or.inl rfl) (G9 J4 (pv 0) (pv 2) (fun _ _=>rfl)))
   (G3 (I9 (i:=6) M0.nd rfl (Or.inl rfl) (G9 J4 (G9 J4 (pv 0) (pv 3) (fun _ _=>rfl)) G2 (fun _ _=>rfl)))
   (G3 (I9 (i:=7) M0.nd rfl (Or.inl rfl) (Y5 G4))
   (G3 (Y0 PassesOwn.never rfl (a0f (by rfl) T.n_range (G0 (R3 (a4n rfl) (by rfl) T.n_min boot_min (G0 (R3 J8 (by rfl) T.n_len PySem.boot_len (G0 (pv 6) G4)) (G0 (J1 O0 (J1 U5 (G9 J4 (pv 4) G2 (fun _ _=>rfl)) G2) (J1 F7 (J1 Y7 (J1 U5 (J1 Y7 (G9 J4 (pv 4) G2 (fun _ _=>rfl)) G2) G2) G2) G2)) G4))) G4)) (I0 (i:=8) M0.nd rfl (Or.inl rfl))
    (G3 (I9 (i:=9) M0.nd rfl (Or.inl rfl) (U9 C_law_fresh hr (by rfl) (G0 (pv 5) (G0 (G9 J4 (pv 1) G2 (fun _ _=>rfl)) (G0 (R3 J8 (by rfl) T.n_len PySem.boot_len (G0 (G9 J4 (pv 5) G2 (fun _ _=>rfl)) G4)) G4)))))
    (G3 (Z1 (D7 PySem.F.plainAttrs_list PySem.F.slot_list_append PySem.F.type_list_append Z5 (G9 J4 (pv 5) G2 (fun _ _=>rfl)) (G0 (pv 9) G4)))
    (G5 (Z1 (D7 PySem.F.plainAttrs_list PySem.F.slot_list_append PySem.F.type_list_append Z5 (pv 7) (G0 (R9 (G0 (G9 J4 (pv 6) (J1 U5 (J1 O0 (G9 J4 (pv 4) G2 (fun _ _=>rfl)) (J1 F7 (pv 8) (J1 U5 (J1 Y7 (G9 J4 (pv 4) G2 (fun _ _=>rfl)) G2) G2))) (R3 J8 (by rfl) T.n_len PySem.boot_len (G0 (pv 6) G4))) (fun _ _=>rfl)) (G0 (pv 9) G4))) G4)))))))
   (G5 (R4 (U6 Y2 (by rfl) T.n_tuple boot_tuple (G0 (pv 7) G4)))))))),?_⟩
  refine⟨_,rfl,_,rfl,l,_,_,_,rfl,rfl,SqL.of hh.ll,U3 mi,?_⟩
  refine⟨_,rfl,_,rfl,l,_,_,_,rfl,rfl,SqL.of hh.ll,U3 mj,qj.p,_,_,_,rfl,rfl,SqL.of Pj.p,rfl,?_⟩
  refine⟨a0E,fun d hd=>?_⟩
  have s1:G6 H (upd H d (.lst [])):=(G6.refl H).new hd
  refine⟨_,rfl,qj.g,_,rfl,.inl (SqL.of (s1 _ _ Pj.g)),?_⟩
  refine⟨_,rfl,x,_,_,_,rfl,rfl,SqL.of (s1 _ _ hx),Y9 V.int xs 0 (by decide) (by omega),_,_,rfl,rfl,(by show(0:Int) < 4;decide),?_⟩
  refine⟨_,rfl,x,_,_,_,rfl,rfl,SqL.of (s1 _ _ hx),Y9 V.int xs 0 (by decide) (by omega),_,_,rfl,rfl,⟨by decide,by decide⟩,_,_,rfl,rfl,(by show(0:Int) < 8;decide),_,_,rfl,rfl,⟨by decide,by decide⟩,_,_,rfl,rfl,.inl ⟨by omega,by omega⟩,_,_,rfl,rfl,?_⟩
  have hE0:0<=xs.getD (2:Int).toNat 0 % 4+xs.getD (2:Int).toNat 0/4 % 8/7*3:=by omega
  have hE1:xs.getD (2:Int).toNat 0 % 4+xs.getD (2:Int).toNat 0/4 % 8/7*3<=6:=by omega
  refine⟨_,_,rfl,?_⟩
  have hL:((pq.gives.map V.str).length:Int)=pq.gives.length:=by rw[List.length_map]
  have hM0:0<=(if xs.getD (2:Int).toNat 0 % 4+xs.getD (2:Int).toNat 0/4 % 8/7*3 < ((pq.gives.map V.str).length:Int)then xs.getD (2:Int).toNat 0 % 4+xs.getD (2:Int).toNat 0/4 % 8/7*3 else((pq.gives.map V.str).length:Int)):=by split<;>omega
  have hM1:(if xs.getD (2:Int).toNat 0 % 4+xs.getD (2:Int).toNat 0/4 % 8/7*3 < ((pq.gives.map V.str).length:Int)then xs.getD (2:Int).toNat 0 % 4+xs.getD (2:Int).toNat 0/4 % 8/7*3 else((pq.gives.map V.str).length:Int))<=6:=by split<;>omega
  have hM2:(if xs.getD (2:Int).toNat 0 % 4+xs.getD (2:Int).toNat 0/4 % 8/7*3 < ((pq.gives.map V.str).length:Int)then xs.getD (2:Int).toNat 0 % 4+xs.getD (2:Int).toNat 0/4 % 8/7*3 else((pq.gives.map V.str).length:Int))<=pq.gives.length:=by split<;>omega
  generalize (if xs.getD (2:Int).toNat 0 % 4+xs.getD (2:Int).toNat 0/4 % 8/7*3 < ((pq.gives.map V.str).length:Int)then xs.getD (2:Int).toNat 0 % 4+xs.getD (2:Int).toNat 0/4 % 8/7*3 else((pq.gives.map V.str).length:Int))=M at hM0 hM1 hM2⊢
  have e0:hs.set i {pp with owns:=W9 b0 pp.sh (n+0)}=hs:=by
   rw[Nat.add_zero,<-hown]
   obtain⟨hlt,he⟩:=List.getElem?_eq_some_iff.mp ei
   rw[<-he]
   exact List.set_getElem_self hlt
  have hset:∀pp':Pp,(hs.set i pp')[i]?=some pp':=fun pp'=>List.getElem?_set_self (List.getElem?_eq_some_iff.mp ei).1
  have hsetj:∀pp':Pp,(hs.set i pp')[j]?=some pq:=fun pp'=>by rw[List.getElem?_set_ne hij];exact ej
  refine⟨_,rfl,(by omega),(by omega),B7 (fun t σ H2=>∃(ps:List (Str×Str))(vs:List V)(v8 v9:Option V),σ=[some (.ref l),some (.ref pl),some (.int i),some (.int j),some (.ref x),some (.ref qi.p),some (.ref qj.g),some (.ref d),v8,v9]/\U2 H2 l A [d] (hs.set i {pp with owns:=W9 b0 pp.sh (n+t)})/\D5 l A H H2/\H2 d=some (.lst vs)/\L2.a5O H2 vs ps/\ps.length=t/\W9 b0 pp.sh n++ps.map (·.2)=W9 b0 pp.sh (n+t)/\∀p∈ps,p.1∈pq.gives)
   ⟨[],[],none,none,rfl,by rw[e0];exact(hh.aside hd).same s1,fun a o _ e=>s1 _ _ e,G1,.nil,rfl,by simp,fun p hp=>by simp at hp⟩ ?_ ?_⟩
  ·rintro t σ H2 ht ⟨ps,vs,v8,v9,rfl,h2,k2,hd2,hps,hpl2,hdr,hgv⟩
   have P2:=h2.pt i qi _ eqi (hset _)
   have hot:((({pp with owns:=W9 b0 pp.sh (n+t)}:Pp).owns.map V.str).length:Int)=((n+t:Nat):Int):=by rw[List.length_map];show((W9 b0 pp.sh (n+t)).length:Int)=_;rw[a1g]
   refine⟨_,rfl,_,rfl,pl,_,_,_,rfl,rfl,SqL.of (k2 _ _ hpl.n hpl.h),rfl,_,rfl,qi.p,_,_,_,rfl,rfl,SqL.of P2.p,rfl,qi.o,_,rfl,.inl (SqL.of P2.o),?_⟩
   refine⟨qi.p,qi.r,qi.o,qi.g,b0,_,pp.sh,rfl,P2.p,hpl.r0.1,hpl.r0.2,by omega,fun H3 s3=>?_⟩
   rw[hot]
   have P3:=(h2.same s3).pt i qi _ eqi (hset _)
   refine⟨_,rfl,qi.p,_,_,_,rfl,rfl,SqL.of P3.p,rfl,.inl ⟨rfl,_,SqL.of P3.o⟩,_,rfl,qi.o,_,_,rfl,rfl,P3.o,J6 (by rw[List.length_map];show(W9 b0 pp.sh (n+t)).length<=1000;rw[a1g];omega),?_⟩
   have h4:U2 (upd H3 (qi.nth 2) (.lst (({pp with owns:=W9 b0 pp.sh (n+t)}:Pp).owns.map V.str++[.str (Y3 b0 ((((n+t:Nat):Int)+pp.sh) % 24))]))) l A [d] ((hs.set i {pp with owns:=W9 b0 pp.sh (n+t)}).set i {pp with owns:=W9 b0 pp.sh (n+(t+1))}):=by
    refine(h2.same s3).put eqi (hset _) (by omega) (fun H' eH TT KK o4=>?_) ⟨_,P3.o⟩
    obtain⟨rv,r1,r2⟩:=P3.r
    refine⟨(o4 0 (by omega) (by omega)).trans P3.p,⟨rv,(o4 1 (by omega) (by omega)).trans r1,Paired.mapP r2 fun _ _ y=>y.keep TT fun a as ha hv=>⟨KK a as ha hv,ha⟩⟩,?_,(o4 3 (by omega) (by omega)).trans P3.g⟩
    rw[eH]
    show upd H3 qi.o _ qi.o=_
    rw[G1]
    show _=some (HO.lst ((W9 b0 pp.sh (n+t+1)).map V.str))
    rw[a1k,List.map_append]
    rfl
   rw[List.set_set]at h4
   have T4:J9 H3 (upd H3 qi.o (.lst (({pp with owns:=W9 b0 pp.sh (n+t)}:Pp).owns.map V.str++[.str (Y3 b0 ((((n+t:Nat):Int)+pp.sh) % 24))]))):=J9.lst P3.o
   have k4:D5 l A H (upd H3 qi.o (.lst (({pp with owns:=W9 b0 pp.sh (n+t)}:Pp).owns.map V.str++[.str (Y3 b0 ((((n+t:Nat):Int)+pp.sh) % 24))]))):=fun a o ha e=>by
    have hne:a≠qi.o:=fun z=>ha (Or.inr (Or.inr ⟨i,qi,2,eqi,by omega,z.symm⟩))
    rw[G8 hne]
    exact s3 _ _ (k2 a o ha e)
   have hd4:upd H3 qi.o (.lst (({pp with owns:=W9 b0 pp.sh (n+t)}:Pp).owns.map V.str++[.str (Y3 b0 ((((n+t:Nat):Int)+pp.sh) % 24))])) d=some (.lst vs):=by
    have hne:d≠qi.o:=((h2.xl d List.mem_cons_self).2 i qi 2 eqi (by omega)).symm
    rw[G8 hne]
    exact s3 _ _ hd2
   have h4':U2 (upd H3 qi.o (.lst (({pp with owns:=W9 b0 pp.sh (n+t)}:Pp).owns.map V.str++[.str (Y3 b0 ((((n+t:Nat):Int)+pp.sh) % 24))]))) l A [d] (hs.set i {pp with owns:=W9 b0 pp.sh (n+(t+1))}):=h4
   have ps4:L2.a5O (upd H3 qi.o (.lst (({pp with owns:=W9 b0 pp.sh (n+t)}:Pp).owns.map V.str++[.str (Y3 b0 ((((n+t:Nat):Int)+pp.sh) % 24))]))) vs ps:=hps.mono (s3.tups.trans T4)
   clear h4
   generalize upd H3 qi.o (.lst (({pp with owns:=W9 b0 pp.sh (n+t)}:Pp).owns.map V.str++[.str (Y3 b0 ((((n+t:Nat):Int)+pp.sh) % 24))]))=H4 at T4 k4 hd4 h4' ps4⊢
   have Pj4:=h4'.pt j qj pq eqj (hsetj _)
   have hgp:0 < ((pq.gives.map V.str).length:Int):=by rw[hL];omega
   obtain⟨x30,x31⟩:=hx2 3 (by decide) (by decide)
   have hid0:0<=(xs.getD (3:Int).toNat 0+(0+(t:Int))*(xs.getD (3:Int).toNat 0/7 % 2)) % ((pq.gives.map V.str).length:Int):=Int.emod_nonneg _ (by omega)
   have hid1:(xs.getD (3:Int).toNat 0+(0+(t:Int))*(xs.getD (3:Int).toNat 0/7 % 2)) % ((pq.gives.map V.str).length:Int) < (pq.gives.length:Int):=by rw[<-hL];exact Int.emod_lt_of_pos _ hgp
   refine⟨_,rfl,.inl ⟨rfl,_,SqL.of hd4⟩,_,rfl,_,rfl,x,_,_,_,rfl,rfl,SqL.of (k4 _ _ hxn hx),Y9 V.int xs 0 (by decide) (by omega),?_⟩
   refine⟨_,rfl,_,rfl,x,_,_,_,rfl,rfl,SqL.of (k4 _ _ hxn hx),Y9 V.int xs 0 (by decide) (by omega),_,_,rfl,rfl,⟨by decide,by decide⟩,_,_,rfl,rfl,(by show(0:Int) < 2;decide),_,_,rfl,rfl,.inl ⟨by omega,by omega⟩,_,_,rfl,rfl,?_⟩
   refine⟨_,rfl,qj.g,_,rfl,.inl (SqL.of Pj4.g),_,_,rfl,rfl,hgp,qj.g,_,_,_,rfl,rfl,SqL.of Pj4.g,Y9 V.str pq.gives "" hid0 hid1,_,rfl,Z9,fun tp htp=>?_⟩
   have s5:G6 H4 (upd H4 tp (.tup [.str (pq.gives.getD ((xs.getD (3:Int).toNat 0+(0+(t:Int))*(xs.getD (3:Int).toNat 0/7 % 2)) % ((pq.gives.map V.str).length:Int)).toNat ""),.str (Y3 b0 ((((n+t:Nat):Int)+pp.sh) % 24))])):=(G6.refl H4).new htp
   refine⟨d,_,_,rfl,rfl,s5 _ _ hd4,J6 (by rw[Paired.length ps4,hpl2];omega),?_⟩
   have hdt:tp≠d:=fun z=>by rw[z,hd4]at htp;cases htp
   have T6:=s5.tups.trans (J9.lst (ys:=vs++[.ref tp]) (s5 _ _ hd4))
   refine⟨ps++[(pq.gives.getD ((xs.getD (3:Int).toNat 0+(0+(t:Int))*(xs.getD (3:Int).toNat 0/7 % 2)) % ((pq.gives.map V.str).length:Int)).toNat "",Y3 b0 ((((n+t:Nat):Int)+pp.sh) % 24))],vs++[.ref tp],_,_,rfl,(h4'.same s5).other List.mem_cons_self (s5 _ _ hd4),fun a o ha e=>?_,G1,Paired.snoc (ps4.mono T6) ⟨tp,rfl,?_,?_,?_⟩,by rw[List.length_append,hpl2];rfl,?_,fun p hp=>?_⟩
   ·rw[G8 (fun z=>by rw[z,hd]at e;cases e)]
    exact s5 _ _ (k4 a o ha e)
   ·rw[G8 hdt,G1]
   ·have hlt:((xs.getD (3:Int).toNat 0+(0+(t:Int))*(xs.getD (3:Int).toNat 0/7 % 2)) % ((pq.gives.map V.str).length:Int)).toNat < pq.gives.length:=by omega
    rw[List.getD_eq_getElem?_getD,List.getElem?_eq_getElem hlt]
    exact hgo _ (List.getElem_mem hlt)
   ·exact a7U hpl.r0.1
   ·rw[List.map_append,<-List.append_assoc,hdr,<-Nat.add_assoc,a1k];rfl
   ·rcases List.mem_append.mp hp with z | z
    ·exact hgv p z
    ·rw[List.mem_singleton.mp z]
     have hlt:((xs.getD (3:Int).toNat 0+(0+(t:Int))*(xs.getD (3:Int).toNat 0/7 % 2)) % ((pq.gives.map V.str).length:Int)).toNat < pq.gives.length:=by omega
     show pq.gives.getD _ "" ∈_
     rw[List.getD_eq_getElem?_getD,List.getElem?_eq_getElem hlt]
     exact List.getElem_mem hlt
  ·rintro σ H2 ⟨ps,vs,v8,v9,rfl,h2,k2,hd2,hps,hpl2,hdr,hgv⟩
   refine⟨_,rfl,d,_,rfl,.inl ⟨SqL.of hd2,fun b gb=>?_⟩⟩
   have s3:G6 H2 (upd H2 b (.tup vs)):=(G6.refl H2).new gb
   exact q M.toNat ps b _ (by omega) hpl2 hdr hgv ⟨⟨vs,G1,hps.mono s3.tups⟩,by omega⟩ ((h2.same s3).back) (fun a o ha e=>s3 _ _ (k2 a o ha e))
noncomputable def b3c (K:PySem.W.Frag):Sp:=fun vs H Q _=>∃(a:Addr)(ns:List Int),vs=[.ref a]/\SqL K H a (ns.map V.int)/\∀(l:Addr)(b0 b1 b2:Int)(H':Hp),G6 H H'->H l=none->H' l=some (.lst [.int b0,.int b1,.int b2])->(0<=b0/\b0 < 2147483647)->(0<=b1/\b1 < 2147483647)->(0<=b2/\b2 < 2147483647)->Q (.ref l) H'
theorem b4b(x y:Int){k:Int}(h0:0<=k)(h1:k < 2):atI [V.int x,V.int y] k=some (V.int (if k=0 then x else y)):=by
 have:k=0\/k=1:=by omega
 rcases this with rfl | rfl<;>rfl
theorem b1i(T:Txt K mg):L2.Cl P w K mg base 3 "_law_pools" ["_law_script"] (b3c K):=by
 have C_law_cell_at:=a3x (P:=P) (w:=w) (base:=base) T
 have C_law_pool:=b3v (P:=P) (w:=w) (base:=base) T
 refine Cl.of T.d_law_pools a0U (fun vs H Q E h=>?_) (fun _ _ _ _ _ _ us hl=>by obtain⟨a,rfl⟩:=a2V hl;rfl) (fun f cdv A outer s H vs Q E hr h=>?_)
 ·obtain⟨a,ns,rfl,_⟩:=h
  rfl
 ·obtain⟨a,ns,rfl,hS,q⟩:=h
  refine⟨_,(G3 (I9 (i:=1) a0U.nd rfl (Or.inl rfl) (U9 C_law_cell_at hr (by rfl) (G0 (pv 0) (G0 G2 G4))))
   (G3 (I9 (i:=2) a0U.nd rfl (Or.inl rfl) (U9 C_law_pool hr (by rfl) (G0 (pv 0) (G0 G2 G4))))
   (G3 (I9 (i:=3) a0U.nd rfl (Or.inl rfl) (U9 C_law_pool hr (by rfl) (G0 (pv 0) (G0 G2 G4))))
   (G5 (R4 (Y5 (G0 (pv 2) (G0 (G9 J4 (Y5 (G0 (pv 2) (G0 (pv 3) G4))) (J1 U5 (J1 Y7 (pv 1) G2) G2) (fun _ _=>rfl)) (G0 (G9 J4 (Y5 (G0 (pv 2) (G0 (pv 3) G4))) (J1 U5 (J1 Y7 (pv 1) G2) G2) (fun _ _=>rfl)) G4))))))))),?_⟩
  refine⟨_,rfl,a,ns,0,rfl,hS,(by decide),fun c=>?_⟩
  refine⟨_,rfl,a,ns,1,rfl,hS,(by decide),fun x hx0 hx1=>?_⟩
  refine⟨_,rfl,a,ns,2,rfl,hS,(by decide),fun y hy0 hy1=>?_⟩
  refine⟨_,rfl,_,rfl,_,rfl,Z9,fun u hu=>?_⟩
  refine⟨_,rfl,_,_,rfl,rfl,⟨by decide,by decide⟩,_,_,rfl,rfl,(by show(0:Int) < 2;decide),u,_,_,_,rfl,rfl,SqL.of G1,b4b x y (by omega) (by omega),?_⟩
  refine⟨_,rfl,_,rfl,Z9,fun v hv=>?_⟩
  refine⟨_,rfl,_,_,rfl,rfl,⟨by decide,by decide⟩,_,_,rfl,rfl,(by show(0:Int) < 2;decide),v,_,_,_,rfl,rfl,SqL.of G1,b4b x y (by omega) (by omega),?_⟩
  refine⟨a0n,fun l hl=>?_⟩
  have s2:=(((G6.refl H).new (o:= .lst [.int x,.int y]) hu).new (o:= .lst [.int x,.int y]) hv)
  refine q l _ _ _ _ (s2.new hl) (s2.free hl) G1 ⟨hx0,hx1⟩ ?_ ?_
  ·split<;>constructor<;>assumption
  ·split<;>constructor<;>assumption
theorem a3E(x:Str):∀l:List Str,inV (.str x) (l.map V.str)=decide (x∈l)
 | []=>by simp[inV]
 | a::r=>by
  have ih:=a3E x r
  unfold inV at ih⊢
  rw[List.map_cons,List.any_cons,ih]
  by_cases e:a=x
  ·subst e;simp[eqV]
  ·have h2:¬x=a:=fun z=>e z.symm
   simp[eqV,e,h2]
theorem a6f(l:List Str):(l.map V.str).all a0Z=true:=by
 induction l with
 | nil=>rfl
 | cons a r ih=>rw[List.map_cons,List.all_cons,ih];rfl
theorem a8U{xs:List Int}(h6:xs.length=6)(hb:Bnd xs)(k:Int)(h0:0<=k)(h1:k < 6):0<=xs.getD k.toNat 0/\xs.getD k.toNat 0 < 2147483647:=by
 have hk:k.toNat < xs.length:=by omega
 rw[List.getD_eq_getElem?_getD,List.getElem?_eq_getElem hk]
 exact hb _ (List.getElem_mem hk)
noncomputable def b5G:Sp:=fun vs H Q _=>∃(o x:Addr)(ws:List Str)(xs:List Int),vs=[.ref o,.ref x]/\H o=some (.lst (ws.map V.str))/\(∀y∈ws,D3 y)/\H x=some (.lst (xs.map V.int))/\xs.length=6/\Bnd xs/\
 ∀(t:Addr)(ts:List (Int×Th))(H':Hp),G6 H H'->a0R H' t ts->a9m ts->(∀d∈ts,∀y,d.2=Th.nam y->y∈ws)->Q (.ref t) H'
theorem a4k(t n:Int)(h0:0<=t):atI [V.int 1,V.int 1,V.int (-1)] ((if(1:Int) < t then 1 else t)*(1+n/7 % 2))=some (.int (if t=0 then 1 else if n/7 % 2=0 then 1 else -1)):=by
 have h7:n/7 % 2=0\/n/7 % 2=1:=by omega
 by_cases e:t=0
 ·subst e
  rcases h7 with z | z<;>rw[z]<;>rfl
 ·have:(if(1:Int) < t then 1 else t)=1:=by split<;>omega
  rw[this,if_neg e]
  rcases h7 with z | z<;>rw[z]<;>rfl
theorem a4p{i:Nat}{σ:L2.St}{H:Hp}{Q:L2.St->Hp->Prop}(C:Int->Prop)(k0:Int)(h0:C k0)(h:∀kd:Int,C kd->B0 i (V.int kd) σ H Q):B0 i (V.int k0) σ H Q:=h k0 h0
theorem a1F{H H2 H5:Hp}{o x l tp:Addr}{ws:List Str}{vs:List V}{ts:List (Int×Th)}{i:Nat}{n:Int}{a b c:Option V}(hl:H l=none)(s2:G6 H H2)(hl2:H2 l=some (.lst vs))(hts:a5F H2 vs ts)(hlen:ts.length=i)(hsg:∀d∈ts,d.1=1\/d.1= -1)(hhd:∀d,ts.head?=some d->d.1=1)(hth:∀d∈ts,a9Z d.2)(hnm:∀d∈ts,∀y,d.2=Th.nam y->y∈ws)
  (s5:G6 H2 H5){th:Th}(htp:H5 tp=some (.tup [.int (if(i:Int)=0 then 1 else if n/7 % 2=0 then 1 else -1),thV th]))(hok:a9Z th)(hin:∀y,th= .nam y->y∈ws):
  ∃(vs':List V)(ts':List (Int×Th))(v3 v4 v5:Option V),[some (V.ref o),some (V.ref x),some (V.ref l),a,b,c]=[some (.ref o),some (.ref x),some (.ref l),v3,v4,v5]/\G6 H (upd H5 l (.lst (vs++[.ref tp])))/\upd H5 l (.lst (vs++[.ref tp])) l=some (.lst vs')/\a5F (upd H5 l (.lst (vs++[.ref tp]))) vs' ts'/\ts'.length=i+1/\(∀d∈ts',d.1=1\/d.1= -1)/\(∀d,ts'.head?=some d->d.1=1)/\(∀d∈ts',a9Z d.2)/\(∀d∈ts',∀y,d.2=Th.nam y->y∈ws):=by
 have h5l:=s5 _ _ hl2
 have T:J9 H2 (upd H5 l (.lst (vs++[.ref tp]))):=s5.tups.trans (J9.lst h5l)
 have hne:tp≠l:=fun z=>by rw[z,h5l]at htp;cases htp
 have hsn:(if(i:Int)=0 then(1:Int)else if n/7 % 2=0 then 1 else -1)=1\/(if(i:Int)=0 then(1:Int)else if n/7 % 2=0 then 1 else -1)= -1:=by
  split
  ·exact .inl rfl
  ·split
   ·exact .inl rfl
   ·exact .inr rfl
 refine⟨vs++[.ref tp],ts++[((if(i:Int)=0 then 1 else if n/7 % 2=0 then 1 else -1),th)],a,b,c,rfl,(s2.trans s5).put hl,G1,Paired.snoc (hts.mono T) ⟨tp,rfl,by rw[G8 hne];exact htp,hok⟩,by rw[List.length_append,hlen];rfl,fun d hd=>?_,fun d hd=>?_,fun d hd=>?_,fun d hd=>?_⟩
 ·rcases List.mem_append.mp hd with z | z
  ·exact hsg d z
  ·rw[List.mem_singleton.mp z];exact hsn
 ·cases ts with
  | nil=>
   simp only[List.nil_append,List.head?_cons,Option.some.injEq]at hd
   rw[<-hd,<-hlen]
   rfl
  | cons p r=>exact hhd d hd
 ·rcases List.mem_append.mp hd with z | z
  ·exact hth d z
  ·rw[List.mem_singleton.mp z];exact hok
 ·rcases List.mem_append.mp hd with z | z
  ·exact hnm d z
  ·rw[List.mem_singleton.mp z];exact hin
theorem b4x(T:Txt K mg):L2.Cl P w K mg base 1 "_law_sum" ["_law_owns","_law_xs"] b5G:=by
 refine Cl.of T.d_law_sum a0a (fun vs H Q E h=>?_) (fun _ _ _ _ _ _ us hl=>by obtain⟨a,b,rfl⟩:=a3F hl;rfl) (fun f cdv A outer s H vs Q E hr h=>?_)
 ·obtain⟨o,x,ws,xs,rfl,_⟩:=h
  rfl
 ·obtain⟨o,x,ws,xs,rfl,ho,hws,hx,h6,hb,q⟩:=h
  have hu0:=Nat.lt_of_succ_lt (D4 hr)
  have R:=a8U h6 hb
  refine⟨_,(G3 (I9 (i:=2) a0a.nd rfl (Or.inl rfl) (Y5 G4))
   (G3 (Y0 PassesOwn.never rfl (a0f (by rfl) T.n_range (G0 (J1 O0 (J1 O0 G2 (J1 U5 (J1 Y7 (G9 J4 (pv 1) G2 (fun _ _=>rfl)) G2) G2)) (J1 F7 (J1 Y7 (J1 U5 (J1 Y7 (G9 J4 (pv 1) G2 (fun _ _=>rfl)) G2) G2) G2) G2)) G4)) (I0 (i:=3) a0a.nd rfl (Or.inl rfl))
    (G3 (I9 (i:=4) a0a.nd rfl (Or.inl rfl) (J1 U5 (J1 F7 (J1 O0 (G9 J4 (pv 1) G2 (fun _ _=>rfl)) (J1 F7 (J1 F7 G2 (pv 3)) (pv 3))) (J1 O0 (G9 J4 (pv 1) G2 (fun _ _=>rfl)) (pv 3))) G2))
    (G3 (I9 (i:=5) a0a.nd rfl (Or.inl rfl) (J1 U5 (pv 4) G2))
    (G3 (U8 (J7 Z8 (J1 U5 (J1 Y7 (pv 4) G2) G2) G2 (R7 _))
     (G5 (I9 (i:=5) a0a.nd rfl (Or.inl rfl) (J1 U5 (J1 F7 (J1 F7 (J1 F7 (J1 F7 (J1 F7 (J1 O0 (pv 4) G2) (G9 J4 (pv 1) G2 (fun _ _=>rfl))) (G9 J4 (pv 1) G2 (fun _ _=>rfl))) (G9 J4 (pv 1) G2 (fun _ _=>rfl))) (G9 J4 (pv 1) G2 (fun _ _=>rfl))) (G9 J4 (pv 1) G2 (fun _ _=>rfl))) (J1 b4l G2 G2)))) R8)
    (G3 (U8 (PW.pt (a0Y (J7 (a1P hu0) (pv 0) (Y5 G4) (R7 _)) (a0k (J7 a4t (J1 U5 (J1 Y7 (pv 4) G2) G2) G2 (R7 _)))))
     (G5 (I9 (i:=5) a0a.nd rfl (Or.inl rfl) (G9 J4 (pv 0) (J1 U5 (J1 Y7 (pv 4) G2) (R3 J8 (by rfl) T.n_len PySem.boot_len (G0 (pv 0) G4))) (fun _ _=>rfl)))) R8)
    (G5 (Z1 (D7 PySem.F.plainAttrs_list PySem.F.slot_list_append PySem.F.type_list_append Z5 (pv 2) (G0 (R9 (G0 (G9 J4 (Y5 (G0 G2 (G0 G2 (G0 (a7t a4Q G2) G4)))) (J1 F7 (R3 (a4n rfl) (by rfl) T.n_min boot_min (G0 (pv 3) (G0 G2 G4))) (J1 O0 G2 (J1 U5 (J1 Y7 (pv 4) G2) G2))) (fun _ _=>rfl)) (G0 (pv 5) G4))) G4)))))))))
   (G5 (R4 (U6 Y2 (by rfl) T.n_tuple boot_tuple (G0 (pv 2) G4)))))),?_⟩
  refine⟨a0E,fun l hl=>?_⟩
  have s1:G6 H (upd H l (.lst [])):=(G6.refl H).new hl
  refine⟨_,rfl,x,_,_,_,rfl,rfl,SqL.of (s1 _ _ hx),Y9 V.int xs 0 (by decide) (by omega),_,_,rfl,rfl,⟨by decide,by decide⟩,_,_,rfl,rfl,(by show(0:Int) < 3;decide),_,_,rfl,rfl,?_⟩
  refine⟨_,rfl,x,_,_,_,rfl,rfl,SqL.of (s1 _ _ hx),Y9 V.int xs 0 (by decide) (by omega),_,_,rfl,rfl,⟨by decide,by decide⟩,_,_,rfl,rfl,(by show(0:Int) < 4;decide),_,_,rfl,rfl,⟨by decide,by decide⟩,_,_,rfl,rfl,.inl ⟨by omega,by omega⟩,_,_,rfl,rfl,?_⟩
  have hM0:1<=1+xs.getD (1:Int).toNat 0/4 % 3+xs.getD (1:Int).toNat 0/12 % 4/3*3:=by omega
  have hM1:1+xs.getD (1:Int).toNat 0/4 % 3+xs.getD (1:Int).toNat 0/12 % 4/3*3<=6:=by omega
  generalize 1+xs.getD (1:Int).toNat 0/4 % 3+xs.getD (1:Int).toNat 0/12 % 4/3*3=M at hM0 hM1⊢
  refine⟨_,rfl,(by omega),(by omega),B7 (fun i σ H2=>∃(vs:List V)(ts:List (Int×Th))(v3 v4 v5:Option V),σ=[some (.ref o),some (.ref x),some (.ref l),v3,v4,v5]/\G6 H H2/\H2 l=some (.lst vs)/\a5F H2 vs ts/\ts.length=i/\(∀d∈ts,d.1=1\/d.1= -1)/\(∀d,ts.head?=some d->d.1=1)/\(∀d∈ts,a9Z d.2)/\(∀d∈ts,∀y,d.2=Th.nam y->y∈ws))
   ⟨[],[],none,none,none,rfl,s1,G1,.nil,rfl,fun d hd=>by simp at hd,fun d hd=>by simp at hd,fun d hd=>by simp at hd,fun d hd=>by simp at hd⟩ ?_ ?_⟩
  ·rintro i σ H2 hi ⟨vs,ts,v3,v4,v5,rfl,s2,hl2,hts,hlen,hsg,hhd,hth,hnm⟩
   rw[Int.zero_add]
   have hi6:(i:Int)<=5:=by omega
   have hi0:(0:Int)<=i:=by omega
   have r2:=R 2 (by decide) (by decide)
   have r3:=R 3 (by decide) (by decide)
   have hii0:0<=613*(i:Int)*i:=Int.mul_nonneg (by omega) hi0
   have hii1:613*(i:Int)*i<=613*5*5:=Int.mul_le_mul (by omega) hi6 hi0 (by decide)
   have hx2:=s2 _ _ hx
   have ho2:=s2 _ _ ho
   refine⟨_,rfl,x,_,_,_,rfl,rfl,SqL.of hx2,Y9 V.int xs 0 (by decide) (by omega),_,rfl,_,_,rfl,rfl,.inl ⟨by omega,by omega⟩,_,rfl,_,_,rfl,rfl,.inl ⟨by omega,by omega⟩,_,_,rfl,rfl,?_⟩
   refine⟨_,rfl,x,_,_,_,rfl,rfl,SqL.of hx2,Y9 V.int xs 0 (by decide) (by omega),_,rfl,_,_,rfl,rfl,_,_,rfl,rfl,.inl ⟨by omega,by omega⟩,_,_,rfl,rfl,(by show(0:Int) < 2147483629;decide),?_⟩
   show B0 4 (V.int ((xs.getD (2:Int).toNat 0+613*(i:Int)*i)*(xs.getD (3:Int).toNat 0+i) % 2147483629)) _ _ _
   obtain⟨n,hn0,hn1,hne⟩:∃n:Int,0<=n/\n < 2147483629/\(xs.getD (2:Int).toNat 0+613*(i:Int)*i)*(xs.getD (3:Int).toNat 0+i) % 2147483629=n:=⟨_,by omega,by omega,rfl⟩
   rw[hne]
   clear hne
   refine⟨_,rfl,_,_,rfl,rfl,(by show(0:Int) < 10;decide),?_⟩
   refine⟨_,rfl,_,_,rfl,rfl,⟨by decide,by decide⟩,_,_,rfl,rfl,(by show(0:Int) < 4;decide),rfl,_,rfl,a6c (fun e1=>?_) (fun e1=>?_)⟩
   ·have r0:=R 0 (by decide) (by decide)
    have r1:=R 1 (by decide) (by decide)
    have r4:=R 4 (by decide) (by decide)
    have r5:=R 5 (by decide) (by decide)
    refine⟨_,rfl,_,_,rfl,rfl,_,rfl,x,_,_,_,rfl,rfl,SqL.of hx2,Y9 V.int xs 0 (by decide) (by omega),_,_,rfl,rfl,.inr ⟨by omega,by omega⟩,?_⟩
    refine⟨_,rfl,x,_,_,_,rfl,rfl,SqL.of hx2,Y9 V.int xs 0 (by decide) (by omega),_,_,rfl,rfl,.inr ⟨by omega,by omega⟩,?_⟩
    refine⟨_,rfl,x,_,_,_,rfl,rfl,SqL.of hx2,Y9 V.int xs 0 (by decide) (by omega),_,_,rfl,rfl,.inr ⟨by omega,by omega⟩,?_⟩
    refine⟨_,rfl,x,_,_,_,rfl,rfl,SqL.of hx2,Y9 V.int xs 0 (by decide) (by omega),_,_,rfl,rfl,.inr ⟨by omega,by omega⟩,?_⟩
    refine⟨_,rfl,x,_,_,_,rfl,rfl,SqL.of hx2,Y9 V.int xs 0 (by decide) (by omega),_,_,rfl,rfl,.inr ⟨by omega,by omega⟩,?_⟩
    refine⟨_,_,rfl,rfl,⟨by decide,by decide,by decide⟩,_,_,rfl,rfl,(by show(0:Int) < 10 ^ (60:Int).toNat;decide),?_⟩
    refine a4p (fun m=>0<=m/\m < 10 ^ 60) _ ⟨Int.emod_nonneg _ (by decide),Int.emod_lt_of_pos _ (by decide)⟩ (fun m hm=>?_)
    refine⟨_,rfl,a0E,fun e he=>?_⟩
    have s3:G6 H2 (upd H2 e (.lst [])):=(G6.refl H2).new he
    refine⟨o,e,_,rfl,rfl,SqL.of (s3 _ _ ho2),SqL.of G1,_,rfl,?_⟩
    refine a4Y (fun c1=>?_) (fun c1=>?_)
    ·have hwl:0 < ((ws.map V.str).length:Int):=by
      cases ws with
      | nil=>exact absurd c1 (by decide)
      | cons a r=>rw[List.length_map,List.length_cons];omega
     refine⟨_,rfl,_,_,rfl,rfl,⟨by decide,by decide⟩,_,_,rfl,rfl,(by show(0:Int) < 4;decide),_,_,rfl,rfl,_,rfl,?_⟩
     refine a4Y (fun c2=>?_) (fun c2=>?_)
     ·have hL:((ws.map V.str).length:Int)=ws.length:=by rw[List.length_map]
      have hd0:0<=n/40 % ((ws.map V.str).length:Int):=Int.emod_nonneg _ (by omega)
      have hd1:n/40 % ((ws.map V.str).length:Int) < (ws.length:Int):=by rw[<-hL];exact Int.emod_lt_of_pos _ hwl
      refine⟨_,rfl,_,rfl,_,_,rfl,rfl,⟨by decide,by decide⟩,_,rfl,o,_,rfl,.inl (SqL.of (s3 _ _ ho2)),_,_,rfl,rfl,hwl,o,_,_,_,rfl,rfl,SqL.of (s3 _ _ ho2),Y9 V.str ws "" hd0 hd1,?_⟩
      have hym:ws.getD (n/40 % ((ws.map V.str).length:Int)).toNat "" ∈ws:=by
       have hlt:(n/40 % ((ws.map V.str).length:Int)).toNat < ws.length:=by omega
       rw[List.getD_eq_getElem?_getD,List.getElem?_eq_getElem hlt]
       exact List.getElem_mem hlt
      generalize ws.getD (n/40 % ((ws.map V.str).length:Int)).toNat ""=y at hym⊢
      refine⟨_,rfl,.inl ⟨rfl,_,SqL.of (s3 _ _ hl2)⟩,_,rfl,a0n,fun g hg=>?_⟩
      have s4:G6 H2 (upd (upd H2 e (.lst [])) g (.lst [.int 1,.int 1,.int (-1)])):=(s3).new hg
      refine⟨_,rfl,_,_,rfl,_,rfl,_,_,rfl,rfl,⟨by decide,by decide⟩,_,_,rfl,rfl,(by show(0:Int) < 2;decide),_,_,rfl,rfl,_,_,rfl,rfl,.inl ⟨by split<;>omega,by split<;>omega⟩,g,_,_,_,rfl,rfl,SqL.of G1,a4k i n hi0,?_⟩
      refine⟨_,rfl,Z9,fun tp htp=>?_⟩
      have s5:=s4.new (o:= .tup [.int (if(i:Int)=0 then 1 else if n/7 % 2=0 then 1 else -1),thV (.nam y)]) htp
      refine⟨l,_,_,rfl,rfl,s5 _ _ hl2,J6 (by rw[Paired.length hts,hlen];omega),?_⟩
      exact a1F hl s2 hl2 hts hlen hsg hhd hth hnm s5 G1 (th:= .nam y) (hws y hym) (fun z ez=>by cases ez;exact hym)
     ·refine⟨_,rfl,.inl ⟨rfl,_,SqL.of (s3 _ _ hl2)⟩,_,rfl,a0n,fun g hg=>?_⟩
      have s4:G6 H2 (upd (upd H2 e (.lst [])) g (.lst [.int 1,.int 1,.int (-1)])):=(s3).new hg
      refine⟨_,rfl,_,_,rfl,_,rfl,_,_,rfl,rfl,⟨by decide,by decide⟩,_,_,rfl,rfl,(by show(0:Int) < 2;decide),_,_,rfl,rfl,_,_,rfl,rfl,.inl ⟨by split<;>omega,by split<;>omega⟩,g,_,_,_,rfl,rfl,SqL.of G1,a4k i n hi0,?_⟩
      refine⟨_,rfl,Z9,fun tp htp=>?_⟩
      have s5:=s4.new (o:= .tup [.int (if(i:Int)=0 then 1 else if n/7 % 2=0 then 1 else -1),thV (.num m)]) htp
      refine⟨l,_,_,rfl,rfl,s5 _ _ hl2,J6 (by rw[Paired.length hts,hlen];omega),?_⟩
      exact a1F hl s2 hl2 hts hlen hsg hhd hth hnm s5 G1 (th:= .num m) hm (fun z ez=>by cases ez)
    ·refine F6 ?_
     refine⟨_,rfl,.inl ⟨rfl,_,SqL.of (s3 _ _ hl2)⟩,_,rfl,a0n,fun g hg=>?_⟩
     have s4:G6 H2 (upd (upd H2 e (.lst [])) g (.lst [.int 1,.int 1,.int (-1)])):=(s3).new hg
     refine⟨_,rfl,_,_,rfl,_,rfl,_,_,rfl,rfl,⟨by decide,by decide⟩,_,_,rfl,rfl,(by show(0:Int) < 2;decide),_,_,rfl,rfl,_,_,rfl,rfl,.inl ⟨by split<;>omega,by split<;>omega⟩,g,_,_,_,rfl,rfl,SqL.of G1,a4k i n hi0,?_⟩
     refine⟨_,rfl,Z9,fun tp htp=>?_⟩
     have s5:=s4.new (o:= .tup [.int (if(i:Int)=0 then 1 else if n/7 % 2=0 then 1 else -1),thV (.num m)]) htp
     refine⟨l,_,_,rfl,rfl,s5 _ _ hl2,J6 (by rw[Paired.length hts,hlen];omega),?_⟩
     exact a1F hl s2 hl2 hts hlen hsg hhd hth hnm s5 G1 (th:= .num m) hm (fun z ez=>by cases ez)
   ·have hm:0<=n % 10/\n % 10 < 10 ^ 60:=⟨by omega,Int.lt_of_lt_of_le (show n % 10 < 10 by omega) (by decide)⟩
    show a4s _ [some (.ref o),some (.ref x),some (.ref l),some (.int i),some (.int n),some (.int (n % 10))] _
    generalize n % 10=m at hm⊢
    refine⟨_,rfl,a0E,fun e he=>?_⟩
    have s3:G6 H2 (upd H2 e (.lst [])):=(G6.refl H2).new he
    refine⟨o,e,_,rfl,rfl,SqL.of (s3 _ _ ho2),SqL.of G1,_,rfl,?_⟩
    refine a4Y (fun c1=>?_) (fun c1=>?_)
    ·have hwl:0 < ((ws.map V.str).length:Int):=by
      cases ws with
      | nil=>exact absurd c1 (by decide)
      | cons a r=>rw[List.length_map,List.length_cons];omega
     refine⟨_,rfl,_,_,rfl,rfl,⟨by decide,by decide⟩,_,_,rfl,rfl,(by show(0:Int) < 4;decide),_,_,rfl,rfl,_,rfl,?_⟩
     refine a4Y (fun c2=>?_) (fun c2=>?_)
     ·have hL:((ws.map V.str).length:Int)=ws.length:=by rw[List.length_map]
      have hd0:0<=n/40 % ((ws.map V.str).length:Int):=Int.emod_nonneg _ (by omega)
      have hd1:n/40 % ((ws.map V.str).length:Int) < (ws.length:Int):=by rw[<-hL];exact Int.emod_lt_of_pos _ hwl
      refine⟨_,rfl,_,rfl,_,_,rfl,rfl,⟨by decide,by decide⟩,_,rfl,o,_,rfl,.inl (SqL.of (s3 _ _ ho2)),_,_,rfl,rfl,hwl,o,_,_,_,rfl,rfl,SqL.of (s3 _ _ ho2),Y9 V.str ws "" hd0 hd1,?_⟩
      have hym:ws.getD (n/40 % ((ws.map V.str).length:Int)).toNat "" ∈ws:=by
       have hlt:(n/40 % ((ws.map V.str).length:Int)).toNat < ws.length:=by omega
       rw[List.getD_eq_getElem?_getD,List.getElem?_eq_getElem hlt]
       exact List.getElem_mem hlt
      generalize ws.getD (n/40 % ((ws.map V.str).length:Int)).toNat ""=y at hym⊢
      refine⟨_,rfl,.inl ⟨rfl,_,SqL.of (s3 _ _ hl2)⟩,_,rfl,a0n,fun g hg=>?_⟩
      have s4:G6 H2 (upd (upd H2 e (.lst [])) g (.lst [.int 1,.int 1,.int (-1)])):=(s3).new hg
      refine⟨_,rfl,_,_,rfl,_,rfl,_,_,rfl,rfl,⟨by decide,by decide⟩,_,_,rfl,rfl,(by show(0:Int) < 2;decide),_,_,rfl,rfl,_,_,rfl,rfl,.inl ⟨by split<;>omega,by split<;>omega⟩,g,_,_,_,rfl,rfl,SqL.of G1,a4k i n hi0,?_⟩
      refine⟨_,rfl,Z9,fun tp htp=>?_⟩
      have s5:=s4.new (o:= .tup [.int (if(i:Int)=0 then 1 else if n/7 % 2=0 then 1 else -1),thV (.nam y)]) htp
      refine⟨l,_,_,rfl,rfl,s5 _ _ hl2,J6 (by rw[Paired.length hts,hlen];omega),?_⟩
      exact a1F hl s2 hl2 hts hlen hsg hhd hth hnm s5 G1 (th:= .nam y) (hws y hym) (fun z ez=>by cases ez;exact hym)
     ·refine⟨_,rfl,.inl ⟨rfl,_,SqL.of (s3 _ _ hl2)⟩,_,rfl,a0n,fun g hg=>?_⟩
      have s4:G6 H2 (upd (upd H2 e (.lst [])) g (.lst [.int 1,.int 1,.int (-1)])):=(s3).new hg
      refine⟨_,rfl,_,_,rfl,_,rfl,_,_,rfl,rfl,⟨by decide,by decide⟩,_,_,rfl,rfl,(by show(0:Int) < 2;decide),_,_,rfl,rfl,_,_,rfl,rfl,.inl ⟨by split<;>omega,by split<;>omega⟩,g,_,_,_,rfl,rfl,SqL.of G1,a4k i n hi0,?_⟩
      refine⟨_,rfl,Z9,fun tp htp=>?_⟩
      have s5:=s4.new (o:= .tup [.int (if(i:Int)=0 then 1 else if n/7 % 2=0 then 1 else -1),thV (.num m)]) htp
      refine⟨l,_,_,rfl,rfl,s5 _ _ hl2,J6 (by rw[Paired.length hts,hlen];omega),?_⟩
      exact a1F hl s2 hl2 hts hlen hsg hhd hth hnm s5 G1 (th:= .num m) hm (fun z ez=>by cases ez)
    ·refine F6 ?_
     refine⟨_,rfl,.inl ⟨rfl,_,SqL.of (s3 _ _ hl2)⟩,_,rfl,a0n,fun g hg=>?_⟩
     have s4:G6 H2 (upd (upd H2 e (.lst [])) g (.lst [.int 1,.int 1,.int (-1)])):=(s3).new hg
     refine⟨_,rfl,_,_,rfl,_,rfl,_,_,rfl,rfl,⟨by decide,by decide⟩,_,_,rfl,rfl,(by show(0:Int) < 2;decide),_,_,rfl,rfl,_,_,rfl,rfl,.inl ⟨by split<;>omega,by split<;>omega⟩,g,_,_,_,rfl,rfl,SqL.of G1,a4k i n hi0,?_⟩
     refine⟨_,rfl,Z9,fun tp htp=>?_⟩
     have s5:=s4.new (o:= .tup [.int (if(i:Int)=0 then 1 else if n/7 % 2=0 then 1 else -1),thV (.num m)]) htp
     refine⟨l,_,_,rfl,rfl,s5 _ _ hl2,J6 (by rw[Paired.length hts,hlen];omega),?_⟩
     exact a1F hl s2 hl2 hts hlen hsg hhd hth hnm s5 G1 (th:= .num m) hm (fun z ez=>by cases ez)
  ·rintro σ H2 ⟨vs,ts,v3,v4,v5,rfl,s2,hl2,hts,hlen,hsg,hhd,hth,hnm⟩
   refine⟨_,rfl,l,_,rfl,.inl ⟨SqL.of hl2,fun b gb=>?_⟩⟩
   have s3:G6 H2 (upd H2 b (.tup vs)):=(G6.refl H2).new gb
   exact q b ts _ (s2.trans s3) ⟨⟨vs,G1,hts.mono s3.tups⟩,by omega,by omega⟩ ⟨by omega,by omega,hth,hsg,hhd⟩ hnm
theorem a3m{α β:Type}{F:α->β->Prop}:∀{xs xs':List α}{ys ys':List β},Paired F xs ys->Paired F xs' ys'->Paired F (xs++xs') (ys++ys')
 | _,_,_,_,.nil,h=>h
 | _,_,_,_,.cons r t,h=> .cons r (a3m t h)
theorem a4z{α β:Type}{F:α->β->Prop}:∀{xs:List α}{ys:List β}(n:Nat),Paired F xs ys->Paired F (xs.take n) (ys.take n)
 | _,_,0,_=>by simp only[List.take_zero];exact .nil
 | _,_,n+1,.nil=>by simp only[List.take_nil];exact .nil
 | _,_,n+1,.cons r t=> .cons r (a4z n t)
theorem a4y{α β:Type}{F:α->β->Prop}:∀{xs:List α}{ys:List β}(n:Nat),Paired F xs ys->Paired F (xs.drop n) (ys.drop n)
 | _,_,0,h=>h
 | _,_,n+1,.nil=>by simp only[List.drop_nil];exact .nil
 | _,_,n+1,.cons r t=>a4y n t
theorem D5.refl(l:Addr)(A:List Q4)(H:Hp):D5 l A H H:=fun _ _ _ e=>e
theorem D5.same{l:Addr}{A:List Q4}{H H1 H2:Hp}(k:D5 l A H H1)(s:G6 H1 H2):D5 l A H H2:=fun a o ha e=>s _ _ (k a o ha e)
theorem D5.trans{l:Addr}{A:List Q4}{H H1 H2:Hp}(k:D5 l A H H1)(s:D5 l A H1 H2):D5 l A H H2:=fun a o ha e=>s _ _ ha (k a o ha e)
theorem D5.put{l:Addr}{A:List Q4}{H H1:Hp}(k:D5 l A H H1){i:Nat}{q:Q4}{x:Nat}{o:HO}(e:A[i]?=some q)(hx:x < 4):D5 l A H (upd H1 (q.nth x) o):=fun a c ha ec=>by
 rw[G8 (fun z=>ha (Or.inr (Or.inr ⟨i,q,x,e,hx,z.symm⟩)))]
 exact k a c ha ec
theorem a1K{H:Hp}{l:Addr}{A:List Q4}{hs:List Pp}(h:U2 H l A [] hs){i:Nat}{q:Q4}{pp:Pp}{vs:List V}{v:V}{pr:Pr}(k:Nat)(e1:A[i]?=some q)(e2:hs[i]?=some pp)(hv:H q.r=some (.lst vs))(hp:a6O H (inH l A []) v pr):
  U2 (upd H q.r (.lst (vs.take k++v::vs.drop k))) l A [] (hs.set i {pp with rows:=pp.rows.take k++pr::pp.rows.drop k}):=by
 refine h.put (x:=1) e1 e2 (by omega) (fun H' eH TT KK o4=>?_) ⟨_,hv⟩
 have P:=h.pt i q pp e1 e2
 obtain⟨vs',r1,r2⟩:=P.r
 have ev:vs'=vs:=by
  have:some (HO.lst vs')=some (HO.lst vs):=r1.symm.trans hv
  injection this with this
  injection this
 subst ev
 have kp:∀{w:V}{z:Pr},a6O H (inH l A []) w z->a6O H' (inH l A []) w z:=fun y=>y.keep TT fun a as ha hva=>⟨KK a as ha hva,ha⟩
 refine⟨(o4 0 (by omega) (by omega)).trans P.p,⟨vs'.take k++v::vs'.drop k,?_,?_⟩,(o4 2 (by omega) (by omega)).trans P.o,(o4 3 (by omega) (by omega)).trans P.g⟩
 ·rw[eH];exact G1
 ·have r3:=Paired.mapP r2 fun _ _ y=>kp y
  exact a3m (a4z k r3) (.cons (kp hp) (a4y k r3))
theorem b0s{H:Hp}{l:Addr}{A:List Q4}{hs:List Pp}(h:U2 H l A [] hs){i:Nat}{q:Q4}{pp:Pp}(y:Str)(e1:A[i]?=some q)(e2:hs[i]?=some pp):
  U2 (upd H q.o (.lst (pp.owns.map V.str++[.str y]))) l A [] (hs.set i {pp with owns:=pp.owns++[y]}):=by
 have P:=h.pt i q pp e1 e2
 refine h.put (x:=2) e1 e2 (by omega) (fun H' eH TT KK o4=>?_) ⟨_,P.o⟩
 obtain⟨vs',r1,r2⟩:=P.r
 refine⟨(o4 0 (by omega) (by omega)).trans P.p,⟨vs',(o4 1 (by omega) (by omega)).trans r1,Paired.mapP r2 fun _ _ y=>y.keep TT fun a as ha hva=>⟨KK a as ha hva,ha⟩⟩,?_,(o4 3 (by omega) (by omega)).trans P.g⟩
 rw[eH]
 show upd H q.o _ q.o=_
 rw[G1,List.map_append]
 rfl
theorem a8z{H:Hp}{l:Addr}{A:List Q4}{hs:List Pp}(h:U2 H l A [] hs){i:Nat}{q:Q4}{pp:Pp}(y:Str)(e1:A[i]?=some q)(e2:hs[i]?=some pp):
  U2 (upd H q.g (.lst (pp.gives.map V.str++[.str y]))) l A [] (hs.set i {pp with gives:=pp.gives++[y]}):=by
 have P:=h.pt i q pp e1 e2
 refine h.put (x:=3) e1 e2 (by omega) (fun H' eH TT KK o4=>?_) ⟨_,P.g⟩
 obtain⟨vs',r1,r2⟩:=P.r
 refine⟨(o4 0 (by omega) (by omega)).trans P.p,⟨vs',(o4 1 (by omega) (by omega)).trans r1,Paired.mapP r2 fun _ _ y=>y.keep TT fun a as ha hva=>⟨KK a as ha hva,ha⟩⟩,(o4 2 (by omega) (by omega)).trans P.o,?_⟩
 rw[eH]
 show upd H q.g _ q.g=_
 rw[G1,List.map_append]
 rfl
noncomputable def a0N:Pr->List Str
 | .own _ n _=> [n]
 | .bring _ ps _=>ps.map (·.2)
 | _=> []
noncomputable def a4A:Pr->List Str
 | .give _ g _=> [g]
 | _=> []
noncomputable def a8k (xs:List Int):Prop:=xs.length=6/\Bnd xs
noncomputable def a7j (hs:List Pp) (i:Nat):Pr->Prop
 | .own k n xs=>(k="set" \/k="take")/\a8k xs
 | .bring j ps xs=>j < hs.length/\j≠i/\ps.length<=6/\(∀p∈ps,∃pq,hs[j]?=some pq/\p.1∈pq.gives)/\a8k xs
 | .give o g xs=>(∃pp,hs[i]?=some pp/\o∈pp.owns)/\a8k xs
 | .ask j xs=>j < hs.length/\j≠i/\a8k xs
 | .sum k xs=>(k="say" \/k="need")/\a8k xs
structure b4R(b0 b1:Int)(hs:List Pp)(i:Nat)(pp:Pp):Prop where
 n:∃n,pp.owns=W9 b0 pp.sh n/\n<=23
 m:∃m,pp.gives=W9 b1 pp.sh m/\m<=23
 r:pp.rows.length<=40
 md:(pp.rows.flatMap a0N).Perm pp.owns
 gv:(pp.rows.flatMap a4A).Perm pp.gives
 ok:∀pr∈pp.rows,a7j hs i pr
noncomputable def a5J (b0 b1:Int) (hs:List Pp):Prop:=∀i pp,hs[i]?=some pp->b4R b0 b1 hs i pp
theorem a7j.mono{hs hs':List Pp}(hl:hs'.length=hs.length)(hg:∀(j:Nat)pq,hs[j]?=some pq->∃pq',hs'[j]?=some pq'/\(∀y∈pq.owns,y∈pq'.owns)/\(∀y∈pq.gives,y∈pq'.gives)){i:Nat}{pr:Pr}(h:a7j hs i pr):a7j hs' i pr:=by
 cases pr with
 | own k n xs=>exact h
 | bring j ps xs=>
  obtain⟨h1,h2,h3,h4,h5⟩:=h
  refine⟨by rw[hl];exact h1,h2,h3,fun p hp=>?_,h5⟩
  obtain⟨pq,e,m⟩:=h4 p hp
  obtain⟨pq',e',_,m'⟩:=hg j pq e
  exact⟨pq',e',m' _ m⟩
 | give o g xs=>
  obtain⟨⟨pp,e,m⟩,h5⟩:=h
  obtain⟨pq',e',m',_⟩:=hg i pp e
  exact⟨⟨pq',e',m' _ m⟩,h5⟩
 | ask j xs=>exact⟨by rw[hl];exact h.1,h.2⟩
 | sum k xs=>exact h
theorem a7p{β:Type}(f:Pr->List β)(rs:List Pr)(k:Nat)(y:Pr):((rs.take k++y::rs.drop k).flatMap f).Perm (f y++rs.flatMap f):=by
 rw[List.flatMap_append,List.flatMap_cons]
 refine(List.perm_append_comm_assoc _ _ _).trans ?_
 rw[<-List.flatMap_append,List.take_append_drop]
theorem a5J.put{b0 b1:Int}{hs:List Pp}(h:a5J b0 b1 hs){i:Nat}{pp pp':Pp}{k:Nat}{y:Pr}(e:hs[i]?=some pp)(hn:∃n,pp'.owns=W9 b0 pp'.sh n/\n<=23)(hm:∃m,pp'.gives=W9 b1 pp'.sh m/\m<=23)(hr:pp'.rows=pp.rows.take k++y::pp.rows.drop k)(h39:pp.rows.length<=39)
  (ho:(a0N y++pp.owns).Perm pp'.owns)(hg:(a4A y++pp.gives).Perm pp'.gives)(hy:a7j (hs.set i pp') i y):a5J b0 b1 (hs.set i pp'):=by
 have hi:=(List.getElem?_eq_some_iff.mp e).1
 have G:∀(j:Nat)pq,hs[j]?=some pq->∃pq',(hs.set i pp')[j]?=some pq'/\(∀y∈pq.owns,y∈pq'.owns)/\(∀y∈pq.gives,y∈pq'.gives):=fun j pq ej=>by
  by_cases hij:i=j
  ·subst hij
   rw[e]at ej
   cases ej
   exact⟨pp',List.getElem?_set_self hi,fun z hz=>ho.mem_iff.mp (List.mem_append_right _ hz),fun z hz=>hg.mem_iff.mp (List.mem_append_right _ hz)⟩
  ·exact⟨pq,by rw[List.getElem?_set_ne hij];exact ej,fun z hz=>hz,fun z hz=>hz⟩
 intro j pq ej
 by_cases hij:i=j
 ·subst hij
  rw[List.getElem?_set_self hi]at ej
  cases ej
  have P:=h i pp e
  refine⟨hn,hm,?_,?_,?_,fun pr hpr=>?_⟩
  ·rw[hr,List.length_append,List.length_cons,List.length_take,List.length_drop];omega
  ·rw[hr]
   exact(a7p a0N pp.rows k y).trans ((List.Perm.append_left _ P.md).trans ho)
  ·rw[hr]
   exact(a7p a4A pp.rows k y).trans ((List.Perm.append_left _ P.gv).trans hg)
  ·rw[hr]at hpr
   rcases List.mem_append.mp hpr with z | z
   ·exact(P.ok pr (List.mem_of_mem_take z)).mono (List.length_set ..) G
   ·rcases List.mem_cons.mp z with z | z
    ·rw[z];exact hy
    ·exact(P.ok pr (List.mem_of_mem_drop z)).mono (List.length_set ..) G
 ·rw[List.getElem?_set_ne hij]at ej
  have P:=h j pq ej
  exact⟨P.n,P.m,P.r,P.md,P.gv,fun pr hpr=>(P.ok pr hpr).mono (List.length_set ..) G⟩
noncomputable def Giv (hs:List Pp) (j:Nat) (g o:Str):Prop:=∃pq xs,hs[j]?=some pq/\Pr.give o g xs∈pq.rows
noncomputable def a5K (hs:List Pp):Prop:=∃(rk:Nat->Str->Nat)(B:Nat),(∀i o,rk i o<=B)/\∀i pp,hs[i]?=some pp->∀j ps xs,Pr.bring j ps xs∈pp.rows->∀q∈ps,∃o,Giv hs j q.1 o/\rk j o < rk i q.2
theorem Giv.put{hs:List Pp}{i:Nat}{pp pp':Pp}(e:hs[i]?=some pp)(hr:∀r∈pp.rows,r∈pp'.rows){j:Nat}{g o:Str}(h:Giv hs j g o):Giv (hs.set i pp') j g o:=by
 obtain⟨pq,xs,e1,h1⟩:=h
 by_cases hij:i=j
 ·subst hij
  rw[e]at e1
  cases e1
  exact⟨pp',xs,List.getElem?_set_self (List.getElem?_eq_some_iff.mp e).1,hr _ h1⟩
 ·exact⟨pq,xs,by rw[List.getElem?_set_ne hij];exact e1,h1⟩
theorem a4I{α:Type}{l:List α}{k:Nat}{y:α}:∀r,r∈l.take k++y::l.drop k↔r∈l\/r=y:=fun r=>by
 have h:=List.take_append_drop k l
 constructor
 ·intro z
  rcases List.mem_append.mp z with z | z
  ·exact .inl (List.mem_of_mem_take z)
  ·rcases List.mem_cons.mp z with z | z
   ·exact .inr z
   ·exact .inl (List.mem_of_mem_drop z)
 ·rintro(z | z)
  ·rw[<-h]at z
   rcases List.mem_append.mp z with z | z
   ·exact List.mem_append_left _ z
   ·exact List.mem_append_right _ (List.mem_cons_of_mem _ z)
  ·rw[z]
   exact List.mem_append_right _ List.mem_cons_self
theorem a5K.put{hs:List Pp}(h:a5K hs){i:Nat}{pp pp':Pp}{k:Nat}{y:Pr}(e:hs[i]?=some pp)(hr:pp'.rows=pp.rows.take k++y::pp.rows.drop k)(hy:∀j ps xs,y≠ .bring j ps xs):a5K (hs.set i pp'):=by
 obtain⟨rk,B,hB,h⟩:=h
 have hi:=(List.getElem?_eq_some_iff.mp e).1
 have hrm:∀r∈pp.rows,r∈pp'.rows:=fun r z=>by rw[hr];exact(a4I r).mpr (.inl z)
 refine⟨rk,B,hB,fun a pa ea j ps xs hm q hq=>?_⟩
 by_cases hia:i=a
 ·subst hia
  rw[List.getElem?_set_self hi]at ea
  cases ea
  rw[hr]at hm
  rcases(a4I _).mp hm with z | z
  ·obtain⟨o,h1,h2⟩:=h i pp e j ps xs z q hq
   exact⟨o,h1.put e hrm,h2⟩
  ·exact absurd z.symm (hy j ps xs)
 ·rw[List.getElem?_set_ne hia]at ea
  obtain⟨o,h1,h2⟩:=h a pa ea j ps xs hm q hq
  exact⟨o,h1.put e hrm,h2⟩
theorem a9E{rows:List Pr}{g:Str}(h:g∈rows.flatMap a4A):∃o xs,Pr.give o g xs∈rows:=by
 obtain⟨pr,h1,h2⟩:=List.mem_flatMap.mp h
 cases pr with
 | give o g' xs=>
  have:g=g':=by simpa [a4A]using h2
  subst this
  exact⟨o,xs,h1⟩
 | _=>simp[a4A]at h2
theorem a5K.bring{b0 b1:Int}{hs:List Pp}(h:a5K hs)(hI:a5J b0 b1 hs){i j:Nat}{pp pp' pq:Pp}{k:Nat}{ps:List (Str×Str)}{xs:List Int}(e:hs[i]?=some pp)(ej:hs[j]?=some pq)(hij:j≠i)(hr:pp'.rows=pp.rows.take k++Pr.bring j ps xs::pp.rows.drop k)(hg:∀q∈ps,q.1∈pq.gives)(hn:∀q∈ps,q.2∉pp.owns):a5K (hs.set i pp'):=by
 obtain⟨rk,B,hB,h⟩:=h
 have hi:=(List.getElem?_eq_some_iff.mp e).1
 have hrm:∀r∈pp.rows,r∈pp'.rows:=fun r z=>by rw[hr];exact(a4I r).mpr (.inl z)
 have hnew:∀o∈pp.owns,o∉ps.map (·.2):=fun o ho z=>by
  obtain⟨q,hq,z⟩:=List.mem_map.mp z
  exact hn q hq (by rw[z];exact ho)
 have hgo:∀{a:Nat}{g o:Str},Giv hs a g o->¬(a=i/\o∈ps.map (·.2)):=fun{a g o}hv z=>by
  obtain⟨pa,ys,ea,hm⟩:=hv
  obtain⟨⟨pa',ea',ho⟩,_⟩:=(hI a pa ea).ok _ hm
  rw[z.1,e]at ea'
  cases ea'
  exact hnew o ho z.2
 have hmade:∀{j':Nat}{ps':List (Str×Str)}{ys:List Int},Pr.bring j' ps' ys∈pp.rows->∀q∈ps',q.2∉ps.map (·.2):=fun{j' ps' ys}hm q hq=>by
  refine hnew q.2 ((hI i pp e).md.mem_iff.mp (List.mem_flatMap.mpr ⟨_,hm,?_⟩))
  exact List.mem_map_of_mem (f:=(·.2)) hq
 refine⟨fun a o=>if a=i/\o∈ps.map (·.2)then B+1 else rk a o,B+1,fun a o=>?_,fun a pa ea j' ps' ys hm q hq=>?_⟩
 ·by_cases z:a=i/\o∈ps.map (·.2)
  ·simp only[if_pos z];omega
  ·simp only[if_neg z]
   have:=hB a o
   omega
 ·by_cases hia:i=a
  ·subst hia
   rw[List.getElem?_set_self hi]at ea
   cases ea
   rw[hr]at hm
   rcases(a4I _).mp hm with z | z
   ·obtain⟨o,h1,h2⟩:=h i pp e j' ps' ys z q hq
    refine⟨o,h1.put e hrm,?_⟩
    show(if j'=i/\o∈ps.map (·.2)then B+1 else rk j' o) < (if i=i/\q.2∈ps.map (·.2)then B+1 else rk i q.2)
    rw[if_neg (hgo h1),if_neg (fun y:i=i/\q.2∈ps.map (·.2)=>hmade z q hq y.2)]
    exact h2
   ·cases z
    obtain⟨o,ys',hgm⟩:=a9E ((hI j pq ej).gv.mem_iff.mpr (hg q hq))
    have h1:Giv hs j q.1 o:=⟨pq,ys',ej,hgm⟩
    refine⟨o,h1.put e hrm,?_⟩
    show(if j=i/\o∈ps.map (·.2)then B+1 else rk j o) < (if i=i/\q.2∈ps.map (·.2)then B+1 else rk i q.2)
    rw[if_neg (hgo h1),if_pos (show i=i/\q.2∈ps.map (·.2)from⟨rfl,List.mem_map_of_mem (f:=(·.2)) hq⟩)]
    have:=hB j o
    omega
  ·rw[List.getElem?_set_ne hia]at ea
   obtain⟨o,h1,h2⟩:=h a pa ea j' ps' ys hm q hq
   refine⟨o,h1.put e hrm,?_⟩
   show(if j'=i/\o∈ps.map (·.2)then B+1 else rk j' o) < (if a=i/\q.2∈ps.map (·.2)then B+1 else rk a q.2)
   rw[if_neg (hgo h1),if_neg (fun y:a=i/\q.2∈ps.map (·.2)=>hia y.1.symm)]
   exact h2
noncomputable def b3B:Sp:=fun vs H Q _=>∃(l pl x:Addr)(A:List Q4)(hs:List Pp)(b0 b1 b2:Int)(xs:List Int),vs=[.ref l,.ref pl,.ref x]/\U2 H l A [] hs/\a2M H pl l A b0 b1 b2/\a6T H (inH l A []) x xs/\a8k xs/\1<=hs.length/\hs.length<=24/\a5J b0 b1 hs/\a5K hs/\
 ∀(hs':List Pp)(H':Hp),U2 H' l A [] hs'->hs'.length=hs.length->a5J b0 b1 hs'->a5K hs'->D5 l A H H'->Q .non H'
theorem a2L{t u:TT}{σ:L2.St}{H:Hp}{a b:Bool}(ht:∀Q:Bool->Hp->Prop,Q a H->t σ H Q)(hu:∀Q:Bool->Hp->Prop,Q b H->u σ H Q):∀Q:Bool->Hp->Prop,Q (a && b) H->b0O t u σ H Q:=fun Q h=>by
 refine ht _ ?_
 cases a with
 | true=>exact B9 (hu _ h)
 | false=>exact F6 h
theorem a8a{t u:TT}{σ:L2.St}{H:Hp}{a b:Bool}{Q:Bool->Hp->Prop}(ht:∀Q:Bool->Hp->Prop,Q a H->t σ H Q)(hu:∀Q:Bool->Hp->Prop,Q b H->u σ H Q)(h:Q (a || b) H):tOr t u σ H Q:=by
 refine ht _ ?_
 cases a with
 | true=>exact B9 h
 | false=>exact F6 (hu _ h)
theorem b0P{t u:TT}{A B R:TS}{D:a1B}{σ:L2.St}{H:Hp}{a b:Bool}(ht:∀Q:Bool->Hp->Prop,Q a H->t σ H Q)(hu:∀Q:Bool->Hp->Prop,Q b H->u σ H Q)(h:if(a || b)=true then A {D with nx:=R D} σ H else B {D with nx:=R D} σ H):a5L (a6J (tOr t u) A B) R D σ H:=a8a ht hu h
theorem b2h{t u:TT}{A B R:TS}{D D2:a1B}{σ:L2.St}{H:Hp}{a b:Bool}(e:D2.nx=a5L (a6J (tOr t u) A B) R D)(ht:∀Q:Bool->Hp->Prop,Q a H->t σ H Q)(hu:∀Q:Bool->Hp->Prop,Q b H->u σ H Q)(h:if(a || b)=true then A {D with nx:=R D} σ H else B {D with nx:=R D} σ H):a4s D2 σ H:=by
 show D2.nx σ H
 rw[e]
 exact b0P ht hu h
theorem b1B{t u:TT}{A B:TS}{D:a1B}{σ:L2.St}{H:Hp}{a b:Bool}(ht:∀Q:Bool->Hp->Prop,Q a H->t σ H Q)(hu:∀Q:Bool->Hp->Prop,Q b H->u σ H Q)(h:if(a && b)=true then A D σ H else B D σ H):a6J (b0O t u) A B D σ H:=a2L ht hu _ h
theorem b2R{t u:TT}{A B:TS}{D:a1B}{σ:L2.St}{H:Hp}{a b:Bool}(ht:∀Q:Bool->Hp->Prop,Q a H->t σ H Q)(hu:∀Q:Bool->Hp->Prop,(∀H1,G6 H H1->Q b H1)->u σ H Q)(h:∀H1,G6 H H1->if(a && b)=true then A D σ H1 else B D σ H1):a6J (b0O t u) A B D σ H:=by
 refine ht _ ?_
 cases a with
 | true=>exact B9 (hu _ h)
 | false=>exact F6 (h H (G6.refl H))
theorem b1f{c:Int}(h0:0<=c)(h1:c < 4):∃k:Str,atI [V.str "set",V.str "set",V.str "set",V.str "take"] c=some (.str k)/\(k="set" \/k="take"):=by
 have:c=0\/c=1\/c=2\/c=3:=by omega
 rcases this with rfl | rfl | rfl | rfl
 ·exact⟨_,rfl,.inl rfl⟩
 ·exact⟨_,rfl,.inl rfl⟩
 ·exact⟨_,rfl,.inl rfl⟩
 ·exact⟨_,rfl,.inr rfl⟩
theorem a8r{c:Int}(h0:0<=c)(h1:c < 2):∃k:Str,atI [V.str "say",V.str "need"] c=some (.str k)/\(k="say" \/k="need"):=by
 have:c=0\/c=1:=by omega
 rcases this with rfl | rfl
 ·exact⟨_,rfl,.inl rfl⟩
 ·exact⟨_,rfl,.inr rfl⟩
theorem b2p{a L y:Int}{i:Nat}(hL:0 < L)(hi:(i:Int) < L)(h0:0<=y):∃j:Nat,((i:Int)+1+y % (if L - 1 > 1 then L - 1 else 1)) % L=j/\(j:Int) < L/\(1 < L->j≠i):=by
 have hm:(0:Int) < (if L - 1 > 1 then L - 1 else 1):=by split<;>omega
 have r0:=Int.emod_nonneg y (Int.ne_of_gt hm)
 have r1:=Int.emod_lt_of_pos y hm
 have r2:1 < L->y % (if L - 1 > 1 then L - 1 else 1) < L - 1:=fun h=>by
  have:(if L - 1 > 1 then L - 1 else 1)<=L - 1:=by split<;>omega
  omega
 have r3:¬1 < L->y % (if L - 1 > 1 then L - 1 else 1)=0:=fun h=>by
  have:(if L - 1 > 1 then L - 1 else 1)=1:=by rw[if_neg (by omega)]
  rw[this]at r0 r1⊢
  omega
 generalize y % (if L - 1 > 1 then L - 1 else 1)=r at*
 have e0:=Int.emod_nonneg ((i:Int)+1+r) (Int.ne_of_gt hL)
 have e1:=Int.emod_lt_of_pos ((i:Int)+1+r) hL
 refine⟨(((i:Int)+1+r) % L).toNat,by omega,by omega,fun h z=>?_⟩
 have r2':=r2 h
 by_cases hc:(i:Int)+1+r < L
 ·rw[Int.emod_eq_of_lt (by omega) hc]at z
  omega
 ·have e2:((i:Int)+1+r) % L=(i:Int)+1+r - L:=by
   rw[show(i:Int)+1+r=((i:Int)+1+r - L)+L by omega,Int.add_emod_right,Int.emod_eq_of_lt (by omega) (by omega)]
   omega
  rw[e2]at z
  omega
theorem a2M.keep{H H':Hp}{pl l:Addr}{A:List Q4}{b0 b1 b2:Int}(h:a2M H pl l A b0 b1 b2)(k:D5 l A H H'):a2M H' pl l A b0 b1 b2:=⟨k _ _ h.n h.h,h.n,h.r0,h.r1,h.r2⟩
theorem b1Q{c:Bool}{N:L2.St->Hp->Prop}{H:Hp}(S:Int->L2.St)(C:Int->Prop)(k1 k2:Int)(h1:c=true->C k1)(h2:c=false->C k2)(h:∀k,C k->N (S k) H):if c=true then N (S k1) H else N (S k2) H:=by
 cases c with
 | true=>exact B9 (h _ (h1 rfl))
 | false=>exact F6 (h _ (h2 rfl))
theorem a1u{b sh:Int}(hb:0<=b){n:Nat}(hn:n<=24):(W9 b sh n).Nodup:=by
 unfold W9
 rw[List.nodup_iff_pairwise_ne,List.pairwise_map]
 refine List.Pairwise.imp_of_mem (fun{i j}hi hj hne h=>hne ?_) List.nodup_range
 have h1:=List.mem_range.mp hi
 have h2:=List.mem_range.mp hj
 have:=a4l hb (by omega) (by omega) (by omega) (by omega) h
 omega
theorem b1Y(T:Txt K mg):L2.Cl P w K mg base 4 "_law_added" ["_law_house","_law_pools_here","_law_xs"] b3B:=by
 have C_law_fresh:=a7H (P:=P) (w:=w) (base:=base) T
 have C_law_pairs:=b2A (P:=P) (w:=w) (base:=base) T
 refine Cl.of T.d_law_added E4 (fun vs H Q E h=>?_) (fun _ _ _ _ _ _ us hl=>by obtain⟨a,b,c,rfl⟩:=a6E hl;rfl) (fun f cdv A' outer s H vs Q E hr h=>?_)
 ·obtain⟨l,pl,x,A,hs,b0,b1,b2,xs,rfl,_⟩:=h
  rfl
 ·obtain⟨l,pl,x,A,hs,b0,b1,b2,xs,rfl,hh,hpl,⟨hx,hxn⟩,⟨h6,hb⟩,hs1,hs2,hI,hR,q⟩:=h
  have hu0:=Nat.lt_of_succ_lt (D4 hr)
  have R:=a8U h6 hb
  have hAl:((A.map fun q=>V.ref q.p).length:Int)=hs.length:=by rw[List.length_map,hh.len]
  have hlp:(0:Int) < ((A.map fun q=>V.ref q.p).length:Int):=by rw[hAl];omega
  refine⟨_,(G3 (I9 (i:=3) E4.nd rfl (Or.inl rfl) (J1 U5 (G9 J4 (pv 2) G2 (fun _ _=>rfl)) (R3 J8 (by rfl) T.n_len PySem.boot_len (G0 (pv 0) G4))))
   (G3 (I9 (i:=4) E4.nd rfl (Or.inl rfl) (G9 J4 (pv 0) (pv 3) (fun _ _=>rfl)))
   (G3 (I9 (i:=5) E4.nd rfl (Or.inl rfl) (J1 U5 (G9 J4 (pv 2) G2 (fun _ _=>rfl)) (J1 O0 (R3 J8 (by rfl) T.n_len PySem.boot_len (G0 (G9 J4 (pv 4) G2 (fun _ _=>rfl)) G4)) G2)))
   (G3 (I9 (i:=6) E4.nd rfl (Or.inl rfl) (J1 U5 (G9 J4 (pv 2) G2 (fun _ _=>rfl)) G2))
   (G3 (I9 (i:=7) E4.nd rfl (Or.inl rfl) (J1 U5 (J1 O0 (J1 O0 (pv 3) G2) (J1 U5 (G9 J4 (pv 2) G2 (fun _ _=>rfl)) (R3 (a5S rfl) (by rfl) T.n_max boot_max (G0 G2 (G0 (J1 b4o (R3 J8 (by rfl) T.n_len PySem.boot_len (G0 (pv 0) G4)) G2) G4))))) (R3 J8 (by rfl) T.n_len PySem.boot_len (G0 (pv 0) G4))))
   (G3 (U8 (J7 a4t (R3 J8 (by rfl) T.n_len PySem.boot_len (G0 (G9 J4 (pv 4) G2 (fun _ _=>rfl)) G4)) G2 (R7 _))
    (G5 b3r) R8)
   (G3 (U8 (PW.pt (a2l (PW.pt (a0Y (J7 a4t (R3 J8 (by rfl) T.n_len PySem.boot_len (G0 (G9 J4 (pv 4) G2 (fun _ _=>rfl)) G4)) G2 (R7 _)) (a0k (J7 a5N (pv 6) G2 (R7 _))))) (a1v (PW.pt (a0Y (J7 a4t (R3 J8 (by rfl) T.n_len PySem.boot_len (G0 (G9 J4 (pv 4) G2 (fun _ _=>rfl)) G4)) G2 (R7 _)) (a0k (J7 a5N (pv 6) G2 (R7 _))))))))
    (G5 (I9 (i:=6) E4.nd rfl (Or.inl rfl) G2)) R8)
   (G5 (U8 (J7 a5N (pv 6) G2 (R7 _))
    (G3 (I9 (i:=8) E4.nd rfl (Or.inl rfl) (U9 C_law_fresh hr (by rfl) (G0 (pv 4) (G0 (G9 J4 (pv 1) G2 (fun _ _=>rfl)) (G0 (R3 J8 (by rfl) T.n_len PySem.boot_len (G0 (G9 J4 (pv 4) G2 (fun _ _=>rfl)) G4)) G4)))))
    (G3 (Z1 (D7 PySem.F.plainAttrs_list PySem.F.slot_list_append PySem.F.type_list_append Z5 (G9 J4 (pv 4) G2 (fun _ _=>rfl)) (G0 (pv 8) G4)))
    (G5 (Z1 (D7 PySem.F.plainAttrs_list PySem.F.slot_list_insert PySem.F.type_list_insert a1I (G9 J4 (pv 4) G2 (fun _ _=>rfl)) (G0 (pv 5) (G0 (R9 (G0 (G9 J4 (Y5 (b3E (.cons (.cons (.cons (.cons .nil)))))) (pv 6) (fun _ _=>rfl)) (G0 (pv 8) (G0 (pv 2) G4)))) G4))))))) (G5 (U8 (PW.pt (a0Y (J7 a5N (pv 6) G2 (R7 _)) (a0k (J7 a4t (R3 J8 (by rfl) T.n_len PySem.boot_len (G0 (pv 0) G4)) G2 (R7 _)))))
     (G5 (Z1 (D7 PySem.F.plainAttrs_list PySem.F.slot_list_insert PySem.F.type_list_insert a1I (G9 J4 (pv 4) G2 (fun _ _=>rfl)) (G0 (pv 5) (G0 (R9 (G0 R6 (G0 (R9 (G0 (pv 7) (G0 (U9 C_law_pairs hr (by rfl) (G0 (pv 0) (G0 (pv 1) (G0 (pv 3) (G0 (pv 7) (G0 (pv 2) G4)))))) G4))) (G0 (pv 2) G4)))) G4))))) (G5 (U8 (PW.pt (a0Y (J7 a5N (pv 6) G2 (R7 _)) (a0k (J7 (a1P hu0) (G9 J4 (pv 4) G2 (fun _ _=>rfl)) (Y5 G4) (R7 _)))))
      (G3 (I9 (i:=9) E4.nd rfl (Or.inl rfl) (U9 C_law_fresh hr (by rfl) (G0 (pv 4) (G0 (G9 J4 (pv 1) G2 (fun _ _=>rfl)) (G0 (R3 J8 (by rfl) T.n_len PySem.boot_len (G0 (G9 J4 (pv 4) G2 (fun _ _=>rfl)) G4)) G4)))))
      (G3 (Z1 (D7 PySem.F.plainAttrs_list PySem.F.slot_list_append PySem.F.type_list_append Z5 (G9 J4 (pv 4) G2 (fun _ _=>rfl)) (G0 (pv 9) G4)))
      (G5 (Z1 (D7 PySem.F.plainAttrs_list PySem.F.slot_list_insert PySem.F.type_list_insert a1I (G9 J4 (pv 4) G2 (fun _ _=>rfl)) (G0 (pv 5) (G0 (R9 (G0 R6 (G0 (R9 (G0 (G9 J4 (G9 J4 (pv 4) G2 (fun _ _=>rfl)) (J1 U5 (G9 J4 (pv 2) G2 (fun _ _=>rfl)) (R3 J8 (by rfl) T.n_len PySem.boot_len (G0 (G9 J4 (pv 4) G2 (fun _ _=>rfl)) G4))) (fun _ _=>rfl)) (G0 (pv 9) G4))) (G0 (pv 2) G4)))) G4))))))) (G5 (U8 (PW.pt (a0Y (J7 Z8 (pv 6) G2 (R7 _)) (a0k (J7 a4t (R3 J8 (by rfl) T.n_len PySem.boot_len (G0 (pv 0) G4)) G2 (R7 _)))))
       (G5 (Z1 (D7 PySem.F.plainAttrs_list PySem.F.slot_list_insert PySem.F.type_list_insert a1I (G9 J4 (pv 4) G2 (fun _ _=>rfl)) (G0 (pv 5) (G0 (R9 (G0 R6 (G0 (pv 7) (G0 (pv 2) G4)))) G4))))) (G5 (Z1 (D7 PySem.F.plainAttrs_list PySem.F.slot_list_insert PySem.F.type_list_insert a1I (G9 J4 (pv 4) G2 (fun _ _=>rfl)) (G0 (pv 5) (G0 (R9 (G0 (G9 J4 (Y5 (G0 R6 (G0 R6 G4))) (J1 U5 (G9 J4 (pv 2) G2 (fun _ _=>rfl)) G2) (fun _ _=>rfl)) (G0 a6C (G0 (pv 2) G4)))) G4)))))))))))))))))))),?_⟩
  refine⟨_,rfl,x,_,_,_,rfl,rfl,SqL.of hx,Y9 V.int xs 0 (by decide) (by omega),_,rfl,l,_,rfl,.inl (SqL.of hh.ll),_,_,rfl,rfl,hlp,?_⟩
  show B0 3 (V.int (xs.getD (5:Int).toNat 0 % ((A.map fun q=>V.ref q.p).length:Int))) _ _ _
  obtain⟨i,hi,hie⟩:∃i:Nat,i < hs.length/\xs.getD (5:Int).toNat 0 % ((A.map fun q=>V.ref q.p).length:Int)=i:=⟨(xs.getD (5:Int).toNat 0 % ((A.map fun q=>V.ref q.p).length:Int)).toNat,by have:=Int.emod_lt_of_pos (xs.getD (5:Int).toNat 0) hlp;have:=Int.emod_nonneg (xs.getD (5:Int).toNat 0) (Int.ne_of_gt hlp);omega,by have:=Int.emod_nonneg (xs.getD (5:Int).toNat 0) (Int.ne_of_gt hlp);omega⟩
  rw[hie]
  clear hie
  obtain⟨pp,ei⟩:∃pp,hs[i]?=some pp:=⟨hs[i],by simp[hi]⟩
  obtain⟨qi,eqi⟩:∃q,A[i]?=some q:=⟨A[i]'(by rw[hh.len];exact hi),by simp[hh.len,hi]⟩
  have mi:(A.map fun q=>V.ref q.p)[i]?=some (.ref qi.p):=by rw[List.getElem?_map,eqi];rfl
  have Pi:=hh.pt i qi pp eqi ei
  obtain⟨rv,hrv,hrp⟩:=Pi.r
  have hrl:rv.length=pp.rows.length:=Paired.length hrp
  have OK:=hI i pp ei
  obtain⟨n,hn,hn23⟩:=OK.n
  obtain⟨m,hm,hm23⟩:=OK.m
  have hol:(pp.owns.map V.str).length=n:=by rw[List.length_map,hn,a1g]
  have hgl:(pp.gives.map V.str).length=m:=by rw[List.length_map,hm,a1g]
  refine⟨_,rfl,_,rfl,l,_,_,_,rfl,rfl,SqL.of hh.ll,U3 mi,?_⟩
  refine⟨_,rfl,x,_,_,_,rfl,rfl,SqL.of hx,Y9 V.int xs 0 (by decide) (by omega),_,rfl,qi.p,_,_,_,rfl,rfl,SqL.of Pi.p,rfl,qi.r,_,rfl,.inl (SqL.of hrv),_,_,rfl,rfl,_,_,rfl,rfl,(by show(0:Int) < (rv.length:Int)+1;omega),?_⟩
  show B0 5 (V.int (xs.getD (4:Int).toNat 0 % ((rv.length:Int)+1))) _ _ _
  obtain⟨k,hk,hke⟩:∃k:Nat,k<=rv.length/\xs.getD (4:Int).toNat 0 % ((rv.length:Int)+1)=k:=⟨(xs.getD (4:Int).toNat 0 % ((rv.length:Int)+1)).toNat,by have:=Int.emod_lt_of_pos (xs.getD (4:Int).toNat 0) (show(0:Int) < (rv.length:Int)+1 by omega);have:=Int.emod_nonneg (xs.getD (4:Int).toNat 0) (show(rv.length:Int)+1≠0 by omega);omega,by have:=Int.emod_nonneg (xs.getD (4:Int).toNat 0) (show(rv.length:Int)+1≠0 by omega);omega⟩
  rw[hke]
  clear hke
  refine⟨_,rfl,x,_,_,_,rfl,rfl,SqL.of hx,Y9 V.int xs 0 (by decide) (by omega),_,_,rfl,rfl,(by show(0:Int) < 10;decide),?_⟩
  refine a4p (fun d=>0<=d/\d < 10) _ ⟨by omega,by omega⟩ (fun d hd=>?_)
  have hmx:(0:Int) < (if((A.map fun q=>V.ref q.p).length:Int) - 1 > 1 then((A.map fun q=>V.ref q.p).length:Int) - 1 else 1):=by split<;>omega
  refine⟨_,rfl,_,_,rfl,rfl,_,rfl,x,_,_,_,rfl,rfl,SqL.of hx,Y9 V.int xs 0 (by decide) (by omega),_,rfl,l,_,rfl,.inl (SqL.of hh.ll),_,_,rfl,rfl,_,_,rfl,_,_,rfl,rfl,hmx,_,_,rfl,rfl,_,rfl,l,_,rfl,.inl (SqL.of hh.ll),_,_,rfl,rfl,hlp,?_⟩
  refine a4p (fun j=>∃j':Nat,j=j'/\j' < hs.length/\(1 < hs.length->j'≠i)) _ ?_ (fun j hj=>?_)
  ·obtain⟨j',e1,e2,e3⟩:=b2p (a:=0) (y:=xs.getD (1:Int).toNat 0) (i:=i) hlp (by omega) (R 1 (by decide) (by decide)).1
   exact⟨j',e1,by omega,fun h=>e3 (by omega)⟩
  obtain⟨j,rfl,hj,hji⟩:=hj
  refine⟨_,rfl,qi.p,_,_,_,rfl,rfl,SqL.of Pi.p,rfl,qi.r,_,rfl,.inl (SqL.of hrv),_,_,rfl,rfl,_,rfl,?_⟩
  refine a4Y (fun c0=>?_) (fun c0=>?_)
  ·exact q hs H hh rfl hI hR (D5.refl l A H)
  have h39:pp.rows.length<=39:=by
   have:¬((rv.length:Int) > 39):=by simpa using c0
   omega
  apply b2h
  ·with_reducible_and_instances rfl
  ·exact a2L (a:=decide (((pp.owns.map V.str).length:Int) > 17)) (b:=decide (d < 6)) (fun Q' h=>⟨_,rfl,qi.p,_,_,_,rfl,rfl,SqL.of Pi.p,rfl,qi.o,_,rfl,.inl (SqL.of Pi.o),_,_,rfl,rfl,_,rfl,h⟩) (fun Q' h=>⟨_,rfl,_,_,rfl,rfl,_,rfl,h⟩)
  ·exact a2L (a:=decide (((pp.gives.map V.str).length:Int) > 22)) (b:=decide (d < 8)) (fun Q' h=>⟨_,rfl,qi.p,_,_,_,rfl,rfl,SqL.of Pi.p,rfl,qi.g,_,rfl,.inl (SqL.of Pi.g),_,_,rfl,rfl,_,rfl,h⟩) (fun Q' h=>⟨_,rfl,_,_,rfl,rfl,_,rfl,h⟩)
  refine b1Q (S:=fun e=> [some (.ref l),some (.ref pl),some (.ref x),some (.int i),some (.ref qi.p),some (.int k),some (.int e),some (.int j),none,none]) (fun c=>0<=c/\c < 10/\(c < 6->n<=17)/\(c < 8->m<=22)) 8 d ?_ ?_ (fun c hc=>?_)
  ·exact fun _=>⟨by decide,by decide,fun h=>absurd h (by decide),fun h=>absurd h (by decide)⟩
  ·intro hf
   simp only[Bool.or_eq_false_iff,Bool.and_eq_false_iff,decide_eq_false_iff_not]at hf
   exact⟨hd.1,hd.2,fun h=>by omega,fun h=>by omega⟩
  obtain⟨hc0,hc1,hc6,hc8⟩:=hc
  have hset:∀pp':Pp,(hs.set i pp')[i]?=some pp':=fun pp'=>List.getElem?_set_self hi
  refine⟨_,rfl,_,_,rfl,rfl,_,rfl,?_⟩
  refine a4Y (fun c1=>?_) (fun c1=>?_)
  ·have c1':c < 4:=by simpa using c1
   obtain⟨kk,hat,hkk⟩:=b1f hc0 c1'
   refine⟨_,rfl,_,rfl,pl,_,_,_,rfl,rfl,SqL.of hpl.h,rfl,_,rfl,qi.p,_,_,_,rfl,rfl,SqL.of Pi.p,rfl,qi.o,_,rfl,.inl (SqL.of Pi.o),?_⟩
   refine⟨qi.p,qi.r,qi.o,qi.g,b0,_,pp.sh,rfl,Pi.p,hpl.r0.1,hpl.r0.2,by omega,fun H3 s3=>?_⟩
   rw[hol]
   have h3:=hh.same s3
   have P3:=h3.pt i qi pp eqi ei
   refine⟨_,rfl,qi.p,_,_,_,rfl,rfl,SqL.of P3.p,rfl,.inl ⟨rfl,_,SqL.of P3.o⟩,_,rfl,qi.o,_,_,rfl,rfl,P3.o,J6 (by rw[hol];omega),?_⟩
   have h4:=b0s h3 (Y3 b0 (((n:Int)+pp.sh) % 24)) eqi ei
   have k4:D5 l A H (upd H3 qi.o (.lst (pp.owns.map V.str++[.str (Y3 b0 (((n:Int)+pp.sh) % 24))]))):=((D5.refl l A H).same s3).put (x:=2) eqi (by omega)
   generalize upd H3 qi.o (.lst (pp.owns.map V.str++[.str (Y3 b0 (((n:Int)+pp.sh) % 24))]))=H4 at h4 k4⊢
   have P4:=h4.pt i qi _ eqi (hset _)
   obtain⟨rv4,hrv4,hrp4⟩:=P4.r
   have hrl4:rv4.length=pp.rows.length:=Paired.length hrp4
   refine⟨_,rfl,qi.p,_,_,_,rfl,rfl,SqL.of P4.p,rfl,.inl ⟨rfl,_,SqL.of hrv4⟩,_,rfl,(by show 4<=sizeLine;decide),fun g hg=>?_⟩
   have s5:G6 H4 (upd H4 g (.lst [.str "set",.str "set",.str "set",.str "take"])):=(G6.refl H4).new hg
   refine⟨_,rfl,g,_,_,_,rfl,rfl,SqL.of G1,hat,_,rfl,_,rfl,a0n,fun tp htp=>?_⟩
   have s6:=s5.new (o:= .tup [.str kk,.str (Y3 b0 (((n:Int)+pp.sh) % 24)),.ref x]) htp
   refine⟨qi.r,_,_,_,rfl,rfl,s6 _ _ hrv4,(by omega),(by show(k:Int)<=(rv4.length:Int);omega),J6 (by omega),?_⟩
   have h7:=a1K (h4.same s6) (pr:= .own kk (Y3 b0 (((n:Int)+pp.sh) % 24)) xs) k eqi (hset _) (s6 _ _ hrv4) ⟨tp,x,rfl,G1,(k4.same s6) _ _ hxn hx,hxn⟩
   rw[List.set_set]at h7
   refine q _ _ h7 (List.length_set ..) ?_ (hR.put (k:=k) (y:= .own kk (Y3 b0 (((n:Int)+pp.sh) % 24)) xs) ei rfl (fun _ _ _ z=>by cases z)) ((k4.same s6).put (x:=1) eqi (by omega))
   exact hI.put (k:=k) (y:= .own kk (Y3 b0 (((n:Int)+pp.sh) % 24)) xs) ei ⟨n+1,by show pp.owns++[_]=_;rw[hn,a1k],by have:=hc6 (by omega);omega⟩ ⟨m,hm,hm23⟩ rfl h39 List.perm_append_comm (List.Perm.refl _) ⟨hkk,h6,hb⟩
  have c1':¬c < 4:=by simpa using c1
  with_reducible apply b1B
  ·exact fun Q' h=>⟨_,rfl,_,_,rfl,rfl,_,rfl,h⟩
  ·exact fun Q' h=>⟨_,rfl,l,_,rfl,.inl (SqL.of hh.ll),_,_,rfl,rfl,_,rfl,h⟩
  refine a4Y (fun c2=>?_) (fun c2=>?_)
  ·simp only[Bool.and_eq_true,decide_eq_true_eq]at c2
   obtain⟨pq,ej⟩:∃pq,hs[j]?=some pq:=⟨hs[j],by simp[hj]⟩
   have hjn:=hji (by have:=c2.2;omega)
   obtain⟨m',hm',hm23'⟩:=(hI j pq ej).m
   have hn17:=hc6 c2.1
   refine⟨_,rfl,qi.p,_,_,_,rfl,rfl,SqL.of Pi.p,rfl,.inl ⟨rfl,_,SqL.of hrv⟩,_,rfl,_,rfl,_,rfl,_,rfl,_,rfl,_,rfl,_,rfl,?_⟩
   refine⟨l,pl,x,A,hs,b0,b1,b2,i,j,n,pp,pq,xs,rfl,hh,hpl,⟨hx,hxn⟩,h6,hb,ei,ej,hjn.symm,hn,hn17,(by rw[hm'];exact a4o hpl.r1.1),(by rw[hm',a1g];omega),fun mm ps q' H4 hmm hpl4 hdr hgv hpa h4 k4=>?_⟩
   have P4:=h4.pt i qi _ eqi (hset _)
   obtain⟨rv4,hrv4,hrp4⟩:=P4.r
   have hrl4:rv4.length=pp.rows.length:=Paired.length hrp4
   refine⟨Z9,fun u hu'=>?_⟩
   have s5:G6 H4 (upd H4 u (.tup [.int j,.ref q'])):=(G6.refl H4).new hu'
   refine⟨_,rfl,a0n,fun tp htp=>?_⟩
   have s6:=s5.new (o:= .tup [.str "bring",.ref u,.ref x]) htp
   refine⟨qi.r,_,_,_,rfl,rfl,s6 _ _ hrv4,(by omega),(by show(k:Int)<=(rv4.length:Int);omega),J6 (by omega),?_⟩
   have h7:=a1K (h4.same s6) (pr:= .bring j ps xs) k eqi (hset _) (s6 _ _ hrv4) ⟨tp,u,q',x,rfl,G1,U4 G1 htp,hpa.mono s6.tups,(k4.same s6) _ _ hxn hx,hxn⟩
   rw[List.set_set]at h7
   refine q _ _ h7 (List.length_set ..) ?_ (hR.bring hI (k:=k) (ps:=ps) (xs:=xs) ei ej hjn rfl hgv ?_) ((k4.same s6).put (x:=1) eqi (by omega))
   rotate_left
   ·intro p hp z
    have h1:(W9 b0 pp.sh (n+mm)).Nodup:=a1u hpl.r0.1 (by omega)
    rw[<-hdr]at h1
    exact(List.nodup_append.mp h1).2.2 _ (by rw[<-hn];exact z) _ (List.mem_map_of_mem (f:=(·.2)) hp) rfl
   refine hI.put (k:=k) (y:= .bring j ps xs) ei ⟨n+mm,rfl,by omega⟩ ⟨m,hm,hm23⟩ rfl h39 ?_ (List.Perm.refl _) ⟨by rw[List.length_set];exact hj,hjn,by omega,fun p hp=>⟨pq,by rw[List.getElem?_set_ne hjn.symm];exact ej,hgv p hp⟩,h6,hb⟩
   show(ps.map (·.2)++pp.owns).Perm (W9 b0 pp.sh (n+mm))
   rw[<-hdr,<-hn]
   exact List.perm_append_comm
  with_reducible apply b2R (b:= !(pp.owns.map V.str).isEmpty)
  ·exact fun Q' h=>⟨_,rfl,_,_,rfl,rfl,_,rfl,h⟩
  ·exact fun Q' h=>⟨_,rfl,qi.p,_,_,_,rfl,rfl,SqL.of Pi.p,rfl,a0E,fun e he=>⟨qi.o,e,_,rfl,rfl,SqL.of (((G6.refl H).new he) _ _ Pi.o),SqL.of G1,_,rfl,h _ ((G6.refl H).new he)⟩⟩
  intro H1 s1
  have h1:=hh.same s1
  have k1:=(D5.refl l A H).same s1
  have P1:=h1.pt i qi pp eqi ei
  have hpl1:=hpl.keep k1
  refine a4Y (fun c3=>?_) (fun c3=>?_)
  ·simp only[Bool.and_eq_true,decide_eq_true_eq]at c3
   have hop:0 < ((pp.owns.map V.str).length:Int):=by
    cases e:pp.owns.map V.str with
    | nil=>rw[e]at c3;exact absurd c3.2 (by decide)
    | cons a r=>rw[List.length_cons];omega
   have hm22:=hc8 c3.1
   refine⟨_,rfl,_,rfl,pl,_,_,_,rfl,rfl,SqL.of hpl1.h,rfl,_,rfl,qi.p,_,_,_,rfl,rfl,SqL.of P1.p,rfl,qi.g,_,rfl,.inl (SqL.of P1.g),?_⟩
   refine⟨qi.p,qi.r,qi.o,qi.g,b1,_,pp.sh,rfl,P1.p,hpl.r1.1,hpl.r1.2,by omega,fun H3 s3=>?_⟩
   rw[hgl]
   have h3:=h1.same s3
   have P3:=h3.pt i qi pp eqi ei
   refine⟨_,rfl,qi.p,_,_,_,rfl,rfl,SqL.of P3.p,rfl,.inl ⟨rfl,_,SqL.of P3.g⟩,_,rfl,qi.g,_,_,rfl,rfl,P3.g,J6 (by rw[hgl];omega),?_⟩
   have h4:=a8z h3 (Y3 b1 (((m:Int)+pp.sh) % 24)) eqi ei
   have k4:D5 l A H (upd H3 qi.g (.lst (pp.gives.map V.str++[.str (Y3 b1 (((m:Int)+pp.sh) % 24))]))):=(k1.same s3).put (x:=3) eqi (by omega)
   generalize upd H3 qi.g (.lst (pp.gives.map V.str++[.str (Y3 b1 (((m:Int)+pp.sh) % 24))]))=H4 at h4 k4⊢
   have P4:=h4.pt i qi _ eqi (hset _)
   obtain⟨rv4,hrv4,hrp4⟩:=P4.r
   have hrl4:rv4.length=pp.rows.length:=Paired.length hrp4
   have hL:((pp.owns.map V.str).length:Int)=pp.owns.length:=by rw[List.length_map]
   have hd0:0<=xs.getD (1:Int).toNat 0 % ((pp.owns.map V.str).length:Int):=Int.emod_nonneg _ (by omega)
   have hd1:xs.getD (1:Int).toNat 0 % ((pp.owns.map V.str).length:Int) < (pp.owns.length:Int):=by rw[<-hL];exact Int.emod_lt_of_pos _ hop
   refine⟨_,rfl,qi.p,_,_,_,rfl,rfl,SqL.of P4.p,rfl,.inl ⟨rfl,_,SqL.of hrv4⟩,_,rfl,_,rfl,qi.p,_,_,_,rfl,rfl,SqL.of P4.p,rfl,?_⟩
   refine⟨_,rfl,x,_,_,_,rfl,rfl,SqL.of (k4 _ _ hxn hx),Y9 V.int xs 0 (by decide) (by omega),_,rfl,qi.p,_,_,_,rfl,rfl,SqL.of P4.p,rfl,qi.o,_,rfl,.inl (SqL.of P4.o),_,_,rfl,rfl,hop,qi.o,_,_,_,rfl,rfl,SqL.of P4.o,Y9 V.str pp.owns "" hd0 hd1,?_⟩
   have hym:pp.owns.getD (xs.getD (1:Int).toNat 0 % ((pp.owns.map V.str).length:Int)).toNat "" ∈pp.owns:=by
    have hlt:(xs.getD (1:Int).toNat 0 % ((pp.owns.map V.str).length:Int)).toNat < pp.owns.length:=by omega
    rw[List.getD_eq_getElem?_getD,List.getElem?_eq_getElem hlt]
    exact List.getElem_mem hlt
   generalize pp.owns.getD (xs.getD (1:Int).toNat 0 % ((pp.owns.map V.str).length:Int)).toNat ""=y at hym⊢
   refine⟨_,rfl,Z9,fun u hu'=>?_⟩
   have s5:G6 H4 (upd H4 u (.tup [.str y,.str (Y3 b1 (((m:Int)+pp.sh) % 24))])):=(G6.refl H4).new hu'
   refine⟨_,rfl,a0n,fun tp htp=>?_⟩
   have s6:=s5.new (o:= .tup [.str "give",.ref u,.ref x]) htp
   refine⟨qi.r,_,_,_,rfl,rfl,s6 _ _ hrv4,(by omega),(by show(k:Int)<=(rv4.length:Int);omega),J6 (by omega),?_⟩
   have h7:=a1K (h4.same s6) (pr:= .give y (Y3 b1 (((m:Int)+pp.sh) % 24)) xs) k eqi (hset _) (s6 _ _ hrv4) ⟨tp,u,x,rfl,G1,U4 G1 htp,(k4.same s6) _ _ hxn hx,hxn⟩
   rw[List.set_set]at h7
   refine q _ _ h7 (List.length_set ..) ?_ (hR.put (k:=k) (y:= .give y (Y3 b1 (((m:Int)+pp.sh) % 24)) xs) ei rfl (fun _ _ _ z=>by cases z)) ((k4.same s6).put (x:=1) eqi (by omega))
   exact hI.put (k:=k) (y:= .give y (Y3 b1 (((m:Int)+pp.sh) % 24)) xs) ei ⟨n,hn,hn23⟩ ⟨m+1,by show pp.gives++[_]=_;rw[hm,a1k],by omega⟩ rfl h39 (List.Perm.refl _) List.perm_append_comm ⟨⟨_,hset _,hym⟩,h6,hb⟩
  with_reducible apply b1B
  ·exact fun Q' h=>⟨_,rfl,rfl,_,rfl,h⟩
  ·exact fun Q' h=>⟨_,rfl,l,_,rfl,.inl (SqL.of h1.ll),_,_,rfl,rfl,_,rfl,h⟩
  obtain⟨rv1,hrv1,hrp1⟩:=P1.r
  have hrl1:rv1.length=pp.rows.length:=Paired.length hrp1
  refine a4Y (fun c4=>?_) (fun c4=>?_)
  ·simp only[Bool.and_eq_true,decide_eq_true_eq]at c4
   refine⟨_,rfl,qi.p,_,_,_,rfl,rfl,SqL.of P1.p,rfl,.inl ⟨rfl,_,SqL.of hrv1⟩,_,rfl,_,rfl,_,rfl,a0n,fun tp htp=>?_⟩
   have s6:G6 H1 (upd H1 tp (.tup [.str "ask",.int j,.ref x])):=(G6.refl H1).new htp
   refine⟨qi.r,_,_,_,rfl,rfl,s6 _ _ hrv1,(by omega),(by show(k:Int)<=(rv1.length:Int);omega),J6 (by omega),?_⟩
   have h7:=a1K (h1.same s6) (pr:= .ask j xs) k eqi ei (s6 _ _ hrv1) ⟨tp,x,rfl,G1,(k1.same s6) _ _ hxn hx,hxn⟩
   refine q _ _ h7 (List.length_set ..) ?_ (hR.put (k:=k) (y:= .ask j xs) ei rfl (fun _ _ _ z=>by cases z)) ((k1.same s6).put (x:=1) eqi (by omega))
   exact hI.put (k:=k) (y:= .ask j xs) ei ⟨n,hn,hn23⟩ ⟨m,hm,hm23⟩ rfl h39 (List.Perm.refl _) (List.Perm.refl _) ⟨by rw[List.length_set];exact hj,hji (by have:=c4.2;omega),h6,hb⟩
  ·obtain⟨kk,hat,hkk⟩:=a8r (c:=xs.getD (1:Int).toNat 0 % 2) (by omega) (by omega)
   refine⟨_,rfl,qi.p,_,_,_,rfl,rfl,SqL.of P1.p,rfl,.inl ⟨rfl,_,SqL.of hrv1⟩,_,rfl,Z9,fun g hg=>?_⟩
   have s5:G6 H1 (upd H1 g (.lst [.str "say",.str "need"])):=(G6.refl H1).new hg
   refine⟨_,rfl,x,_,_,_,rfl,rfl,SqL.of ((k1.same s5) _ _ hxn hx),Y9 V.int xs 0 (by decide) (by omega),_,_,rfl,rfl,(by show(0:Int) < 2;decide),g,_,_,_,rfl,rfl,SqL.of G1,hat,?_⟩
   refine⟨_,rfl,a0n,fun tp htp=>?_⟩
   have s6:=s5.new (o:= .tup [.str kk,.non,.ref x]) htp
   refine⟨qi.r,_,_,_,rfl,rfl,s6 _ _ hrv1,(by omega),(by show(k:Int)<=(rv1.length:Int);omega),J6 (by omega),?_⟩
   have h7:=a1K (h1.same s6) (pr:= .sum kk xs) k eqi ei (s6 _ _ hrv1) ⟨tp,x,rfl,G1,(k1.same s6) _ _ hxn hx,hxn⟩
   refine q _ _ h7 (List.length_set ..) ?_ (hR.put (k:=k) (y:= .sum kk xs) ei rfl (fun _ _ _ z=>by cases z)) ((k1.same s6).put (x:=1) eqi (by omega))
   exact hI.put (k:=k) (y:= .sum kk xs) ei ⟨n,hn,hn23⟩ ⟨m,hm,hm23⟩ rfl h39 (List.Perm.refl _) (List.Perm.refl _) ⟨hkk,h6,hb⟩
noncomputable def b3W:Pr->Str
 | .own k _ _=>k
 | .bring _ _ _=>"bring"
 | .give _ _ _=>"give"
 | .ask _ _=>"ask"
 | .sum k _=>k
noncomputable def xsP:Pr->List Int
 | .own _ _ xs=>xs
 | .bring _ _ xs=>xs
 | .give _ _ xs=>xs
 | .ask _ xs=>xs
 | .sum _ xs=>xs
noncomputable def b6y (H:Hp) (one:V):Pr->Prop
 | .own _ n _=>one= .str n
 | .bring j ps _=>∃u q,one= .ref u/\H u=some (.tup [.int j,.ref q])/\a1p H q ps
 | .give o g _=>∃u,one= .ref u/\H u=some (.tup [.str o,.str g])
 | .ask j _=>one= .int j
 | .sum _ _=>one= .non
theorem b1r{H:Hp}{F:Addr->Prop}{v:V}{pr:Pr}(h:a6O H F v pr):∃t x one,v= .ref t/\H t=some (.tup [.str (b3W pr),one,.ref x])/\H x=some (.lst ((xsP pr).map V.int))/\b6y H one pr:=by
 cases pr with
 | own k n xs=>obtain⟨t,x,e,h1,h2⟩:=h;exact⟨t,x,_,e,h1,h2.1,rfl⟩
 | bring j ps xs=>obtain⟨t,u,q,x,e,h1,h2,h3,h4⟩:=h;exact⟨t,x,_,e,h1,h4.1,u,q,rfl,h2,h3⟩
 | give o g xs=>obtain⟨t,u,x,e,h1,h2,h3⟩:=h;exact⟨t,x,_,e,h1,h3.1,u,rfl,h2⟩
 | ask j xs=>obtain⟨t,x,e,h1,h2⟩:=h;exact⟨t,x,_,e,h1,h2.1,rfl⟩
 | sum k xs=>obtain⟨t,x,e,h1,h2⟩:=h;exact⟨t,x,_,e,h1,h2.1,rfl⟩
theorem b3h{hs:List Pp}{i:Nat}{pr:Pr}(h:a7j hs i pr):a8k (xsP pr):=by
 cases pr with
 | own k n xs=>exact h.2
 | bring j ps xs=>exact h.2.2.2.2
 | give o g xs=>exact h.2
 | ask j xs=>exact h.2.2
 | sum k xs=>exact h.2
noncomputable def InS (owns:List Str) (ts:List (Int×Th)):Prop:=∀d∈ts,∀y,d.2=Th.nam y->y∈owns
noncomputable def InO (owns:List Str) (w:Option Str):Prop:=∀y,w=some y->y∈owns
noncomputable def a2c (nms owns:List Str):Pr->Rw->Prop
 | .own k n _,rw=>(k="take"/\rw= .take n)\/(k="set"/\∃ts,rw= .set n ts/\a9m ts/\InS owns ts)
 | .bring j ps _,rw=>∃nm,nms[j]?=some nm/\rw= .bring nm ps
 | .give o g _,rw=>rw= .give o g
 | .ask j _,rw=>∃nm w,nms[j]?=some nm/\rw= .ask nm w/\InO owns w
 | .sum k _,rw=>(k="need"/\∃ts,rw= .need ts/\a9m ts/\InS owns ts)\/(k="say"/\∃ts w,rw= .say ts w/\a9m ts/\InS owns ts/\InO owns w)
noncomputable def b5t:Sp:=fun vs H Q _=>∃(v:V)(nl:Addr)(F:Addr->Prop)(ol:Addr)(owns:List Str)(pr:Pr)(i:Nat)(hs:List Pp)(nms:List Str),vs=[v,.ref ol,.ref nl]/\a6O H F v pr/\H ol=some (.lst (owns.map V.str))/\a7j hs i pr/\(∀y∈owns,D3 y)/\H nl=some (.lst (nms.map V.str))/\nms.length=hs.length/\
 ∀(r:Addr)(rw:Rw)(H':Hp),G6 H H'->a0y H' r rw->a2c nms owns pr rw->Q (.ref r) H'
theorem b3A{t u:TT}{A R:TS}{D:a1B}{N:L2.St->Hp->Prop}{σ:L2.St}{H:Hp}{a b:Bool}(S:V->L2.St)(C:Option Str->Prop)(e:N=a5L (a8Y (tC .non) (B0 6)) (a5L (a6J (b0O t u) A a4s) R) D)(e6:σ.set 6 (some .non)=S .non)(ht:∀Q:Bool->Hp->Prop,(∀H1,G6 H H1->Q a H1)->t (S .non) H Q)(hu:∀H1,G6 H H1->∀Q:Bool->Hp->Prop,Q b H1->u (S .non) H1 Q)
  (hA:∀H1,G6 H H1->(a && b)=true->(∀y,C (some y)->R D (S (.str y)) H1)->A {D with nx:=R D} (S .non) H1)(hC:C none)(hR:∀w H1,C w->G6 H H1->R D (S (a5l w)) H1):N σ H:=by
 rw[e]
 show a6J (b0O t u) A a4s {D with nx:=R D} (σ.set 6 (some .non)) H
 rw[e6]
 refine ht _ fun H1 s1=>?_
 cases a with
 | false=>exact F6 (F6 (hR none H1 hC s1))
 | true=>
  refine B9 (hu H1 s1 _ ?_)
  cases b with
  | false=>exact F6 (hR none H1 hC s1)
  | true=>exact B9 (hA H1 s1 rfl fun y hy=>hR (some y) H1 hy s1)
theorem b4I(T:Txt K mg):L2.Cl P w K mg base 2 "_law_row" ["_law_row_here","_law_owns","_law_names"] b5t:=by
 have C_law_sum:=b4x (P:=P) (w:=w) (base:=base) T
 refine Cl.of T.d_law_row a0b (fun vs H Q E h=>?_) (fun _ _ _ _ _ _ us hl=>by obtain⟨a,b,c,rfl⟩:=a6E hl;rfl) (fun f cdv A' outer s H vs Q E hr h=>?_)
 ·obtain⟨v,nl,F,ol,owns,pr,i,hs,nms,rfl,_⟩:=h
  rfl
 ·obtain⟨v,nl,F,ol,owns,pr,i,hs,nms,rfl,hpr,hpp,hok,hon,hnl,hnl2,q⟩:=h
  have hu0:=Nat.lt_of_succ_lt (D4 hr)
  obtain⟨t,x,one,rfl,ht,hx,hone⟩:=b1r hpr
  obtain⟨h6,hb⟩:=b3h hok
  have R:=a8U h6 hb
  refine⟨_,(G3 (a8V (pv 0) (E2 rfl (J0 (I0 (i:=3) a0b.nd rfl (Or.inl rfl)) (J0 (I0 (i:=4) a0b.nd rfl (Or.inl rfl)) (J0 (I0 (i:=5) a0b.nd rfl (Or.inl rfl)) Y1)))))
   (G3 (I9 (i:=6) a0b.nd rfl (Or.inl rfl) a6C)
   (G3 (U8 (PW.pt (a0Y (J7 (a1P hu0) (pv 1) (Y5 G4) (R7 _)) (a0k (J7 Z8 (J1 U5 (J1 Y7 (G9 J4 (pv 5) G2 (fun _ _=>rfl)) G2) G2) G2 (R7 _)))))
    (G5 (I9 (i:=6) a0b.nd rfl (Or.inl rfl) (G9 J4 (pv 1) (J1 U5 (J1 Y7 (G9 J4 (pv 5) G2 (fun _ _=>rfl)) G2) (R3 J8 (by rfl) T.n_len PySem.boot_len (G0 (pv 1) G4))) (fun _ _=>rfl)))) R8)
   (G3 (U8 (J7 Z8 (pv 3) R6 (R7 _))
    (G5 (R4 (R9 (G0 R6 (G0 (pv 4) G4))))) R8)
   (G3 (U8 (J7 Z8 (pv 3) R6 (R7 _))
    (G5 (R4 (R9 (G0 R6 (G0 (G9 J4 (pv 2) (G9 J5 (pv 4) G2 (fun _ _=>rfl)) (fun _ _=>rfl)) (G0 (G9 J5 (pv 4) G2 (fun _ _=>rfl)) G4)))))) R8)
   (G3 (U8 (J7 Z8 (pv 3) R6 (R7 _))
    (G5 (R4 (R9 (G0 R6 (G0 (G9 J5 (pv 4) G2 (fun _ _=>rfl)) (G0 (G9 J5 (pv 4) G2 (fun _ _=>rfl)) G4)))))) R8)
   (G3 (U8 (J7 Z8 (pv 3) R6 (R7 _))
    (G5 (R4 (R9 (G0 R6 (G0 (G9 J4 (pv 2) (pv 4) (fun _ _=>rfl)) (G0 (pv 6) G4)))))) R8)
   (G3 (I9 (i:=7) a0b.nd rfl (Or.inl rfl) (U9 C_law_sum hr (by rfl) (G0 (pv 1) (G0 (pv 5) G4))))
   (G3 (U8 (J7 Z8 (pv 3) R6 (R7 _))
    (G5 (R4 (R9 (G0 R6 (G0 (pv 4) (G0 (pv 7) G4)))))) R8)
   (G3 (U8 (J7 Z8 (pv 3) R6 (R7 _))
    (G5 (R4 (R9 (G0 R6 (G0 (pv 7) G4))))) R8)
   (G5 (R4 (R9 (G0 R6 (G0 (pv 7) (G0 (pv 6) G4)))))))))))))))),?_⟩
  refine⟨_,rfl,t,_,rfl,SqT.of ht,rfl,_,_,rfl,_,_,rfl,_,_,rfl,rfl,?_⟩
  apply b3A (S:=fun v=> [some (.ref t),some (.ref ol),some (.ref nl),some (.str (b3W pr)),some one,some (.ref x),some v,none]) (C:=InO owns) (a:= !(owns.map V.str).isEmpty) (b:=decide ((xsP pr).getD (1:Int).toNat 0/2 % 2=1))
  ·with_reducible_and_instances rfl
  ·rfl
  ·exact fun Q' h=>⟨_,rfl,a0E,fun e he=>⟨ol,e,_,rfl,rfl,SqL.of (((G6.refl H).new he) _ _ hpp),SqL.of G1,_,rfl,h _ ((G6.refl H).new he)⟩⟩
  ·intro H1 s1 Q' h
   refine⟨_,rfl,x,_,_,_,rfl,rfl,SqL.of (s1 _ _ hx),Y9 V.int (xsP pr) 0 (by decide) (by omega),_,_,rfl,rfl,⟨by decide,by decide⟩,_,_,rfl,rfl,(by show(0:Int) < 2;decide),rfl,_,rfl,?_⟩
   have e:decide (V.int ((xsP pr).getD (1:Int).toNat 0/2 % 2)=V.int 1)=decide ((xsP pr).getD (1:Int).toNat 0/2 % 2=1):=by
    by_cases z:(xsP pr).getD (1:Int).toNat 0/2 % 2=1
    ·rw[z];rfl
    ·rw[decide_eq_false z,decide_eq_false (fun y=>z (V.int.inj y))]
   rw[e]
   exact h
  ·intro H1 s1 hc hN
   simp only[Bool.and_eq_true]at hc
   have hop:0 < ((owns.map V.str).length:Int):=by
    cases e:owns.map V.str with
    | nil=>rw[e]at hc;exact absurd hc.1 (by decide)
    | cons a r=>rw[List.length_cons];omega
   have hL:((owns.map V.str).length:Int)=owns.length:=by rw[List.length_map]
   have hd0:0<=(xsP pr).getD (2:Int).toNat 0/32 % ((owns.map V.str).length:Int):=Int.emod_nonneg _ (by omega)
   have hd1:(xsP pr).getD (2:Int).toNat 0/32 % ((owns.map V.str).length:Int) < (owns.length:Int):=by rw[<-hL];exact Int.emod_lt_of_pos _ hop
   have hym:owns.getD ((xsP pr).getD (2:Int).toNat 0/32 % ((owns.map V.str).length:Int)).toNat "" ∈owns:=by
    have hlt:((xsP pr).getD (2:Int).toNat 0/32 % ((owns.map V.str).length:Int)).toNat < owns.length:=by omega
    rw[List.getD_eq_getElem?_getD,List.getElem?_eq_getElem hlt]
    exact List.getElem_mem hlt
   refine⟨_,rfl,_,rfl,x,_,_,_,rfl,rfl,SqL.of (s1 _ _ hx),Y9 V.int (xsP pr) 0 (by decide) (by omega),_,_,rfl,rfl,⟨by decide,by decide⟩,?_⟩
   refine⟨_,rfl,ol,_,rfl,.inl (SqL.of (s1 _ _ hpp)),_,_,rfl,rfl,hop,ol,_,_,_,rfl,rfl,SqL.of (s1 _ _ hpp),Y9 V.str owns "" hd0 hd1,?_⟩
   exact hN _ fun y hy=>by cases hy;exact hym
  ·exact fun y hy=>by cases hy
  ·intro w H1 hw s1
   cases pr with
   | own k n xs=>
    have hone':one= .str n:=hone
    subst hone'
    rcases hok.1 with hk | hk
    ·subst hk
     refine⟨_,rfl,rfl,_,rfl,W3 (show¬("set":Str)="take" by decide +kernel) ?_⟩
     refine⟨_,rfl,rfl,_,rfl,W3 (show¬("set":Str)="bring" by decide +kernel) ?_⟩
     refine⟨_,rfl,rfl,_,rfl,W3 (show¬("set":Str)="give" by decide +kernel) ?_⟩
     refine⟨_,rfl,rfl,_,rfl,W3 (show¬("set":Str)="ask" by decide +kernel) ?_⟩
     refine⟨_,rfl,_,rfl,?_⟩
     refine⟨ol,x,owns,xs,rfl,s1 _ _ hpp,hon,s1 _ _ hx,h6,hb,fun tt ts H2 s2 hts hso hin=>?_⟩
     refine⟨_,rfl,rfl,_,rfl,D1 ?_⟩
     refine⟨_,rfl,_,rfl,a0n,fun r hr'=>?_⟩
     exact q r (.set n ts) _ ((s1.trans s2).new hr') ⟨tt,G1,hts.mono (J9.new hr')⟩ (.inr ⟨rfl,ts,rfl,hso,hin⟩)
    ·subst hk
     refine⟨_,rfl,rfl,_,rfl,D1 ?_⟩
     refine⟨_,rfl,Z9,fun r hr'=>?_⟩
     exact q r (.take n) _ (s1.new hr') G1 (.inl ⟨rfl,rfl⟩)
   | bring j ps xs=>
    obtain⟨u,qq,hone',hu',hps⟩:=hone
    subst hone'
    obtain⟨nm,hnm⟩:∃nm,nms[j]?=some nm:=⟨nms[j]'(by rw[hnl2];exact hok.1),by simp[hnl2,hok.1]⟩
    have mj:(nms.map V.str)[j]?=some (.str nm):=by rw[List.getElem?_map,hnm];rfl
    refine⟨_,rfl,rfl,_,rfl,W3 (show¬("bring":Str)="take" by decide +kernel) ?_⟩
    refine⟨_,rfl,rfl,_,rfl,D1 ?_⟩
    refine⟨_,rfl,_,rfl,u,_,_,_,rfl,rfl,SqT.of (s1 _ _ hu'),rfl,nl,_,_,_,rfl,rfl,SqL.of (s1 _ _ hnl),U3 mj,_,rfl,u,_,_,_,rfl,rfl,SqT.of (s1 _ _ hu'),rfl,a0n,fun r hr'=>?_⟩
    exact q r (.bring nm ps) _ (s1.new hr') ⟨qq,G1,hps.mono (s1.new hr').tups⟩ ⟨nm,hnm,rfl⟩
   | give o g xs=>
    obtain⟨u,hone',hu'⟩:=hone
    subst hone'
    refine⟨_,rfl,rfl,_,rfl,W3 (show¬("give":Str)="take" by decide +kernel) ?_⟩
    refine⟨_,rfl,rfl,_,rfl,W3 (show¬("give":Str)="bring" by decide +kernel) ?_⟩
    refine⟨_,rfl,rfl,_,rfl,D1 ?_⟩
    refine⟨_,rfl,u,_,_,_,rfl,rfl,SqT.of (s1 _ _ hu'),rfl,_,rfl,u,_,_,_,rfl,rfl,SqT.of (s1 _ _ hu'),rfl,a0n,fun r hr'=>?_⟩
    exact q r (.give o g) _ (s1.new hr') G1 rfl
   | ask j xs=>
    have hone':one= .int j:=hone
    subst hone'
    obtain⟨nm,hnm⟩:∃nm,nms[j]?=some nm:=⟨nms[j]'(by rw[hnl2];exact hok.1),by simp[hnl2,hok.1]⟩
    have mj:(nms.map V.str)[j]?=some (.str nm):=by rw[List.getElem?_map,hnm];rfl
    refine⟨_,rfl,rfl,_,rfl,W3 (show¬("ask":Str)="take" by decide +kernel) ?_⟩
    refine⟨_,rfl,rfl,_,rfl,W3 (show¬("ask":Str)="bring" by decide +kernel) ?_⟩
    refine⟨_,rfl,rfl,_,rfl,W3 (show¬("ask":Str)="give" by decide +kernel) ?_⟩
    refine⟨_,rfl,rfl,_,rfl,D1 ?_⟩
    refine⟨_,rfl,_,rfl,nl,_,_,_,rfl,rfl,SqL.of (s1 _ _ hnl),U3 mj,_,rfl,a0n,fun r hr'=>?_⟩
    exact q r (.ask nm w) _ (s1.new hr') G1 ⟨nm,w,hnm,rfl,hw⟩
   | sum k xs=>
    have hone':one= .non:=hone
    subst hone'
    rcases hok.1 with hk | hk
    ·subst hk
     refine⟨_,rfl,rfl,_,rfl,W3 (show¬("say":Str)="take" by decide +kernel) ?_⟩
     refine⟨_,rfl,rfl,_,rfl,W3 (show¬("say":Str)="bring" by decide +kernel) ?_⟩
     refine⟨_,rfl,rfl,_,rfl,W3 (show¬("say":Str)="give" by decide +kernel) ?_⟩
     refine⟨_,rfl,rfl,_,rfl,W3 (show¬("say":Str)="ask" by decide +kernel) ?_⟩
     refine⟨_,rfl,_,rfl,?_⟩
     refine⟨ol,x,owns,xs,rfl,s1 _ _ hpp,hon,s1 _ _ hx,h6,hb,fun tt ts H2 s2 hts hso hin=>?_⟩
     refine⟨_,rfl,rfl,_,rfl,W3 (show¬("say":Str)="set" by decide +kernel) ?_⟩
     refine⟨_,rfl,rfl,_,rfl,W3 (show¬("say":Str)="need" by decide +kernel) ?_⟩
     refine⟨_,rfl,_,rfl,a0n,fun r hr'=>?_⟩
     exact q r (.say ts w) _ ((s1.trans s2).new hr') ⟨tt,G1,hts.mono (J9.new hr')⟩ (.inr ⟨rfl,ts,w,rfl,hso,hin,hw⟩)
    ·subst hk
     refine⟨_,rfl,rfl,_,rfl,W3 (show¬("need":Str)="take" by decide +kernel) ?_⟩
     refine⟨_,rfl,rfl,_,rfl,W3 (show¬("need":Str)="bring" by decide +kernel) ?_⟩
     refine⟨_,rfl,rfl,_,rfl,W3 (show¬("need":Str)="give" by decide +kernel) ?_⟩
     refine⟨_,rfl,rfl,_,rfl,W3 (show¬("need":Str)="ask" by decide +kernel) ?_⟩
     refine⟨_,rfl,_,rfl,?_⟩
     refine⟨ol,x,owns,xs,rfl,s1 _ _ hpp,hon,s1 _ _ hx,h6,hb,fun tt ts H2 s2 hts hso hin=>?_⟩
     refine⟨_,rfl,rfl,_,rfl,W3 (show¬("need":Str)="set" by decide +kernel) ?_⟩
     refine⟨_,rfl,rfl,_,rfl,D1 ?_⟩
     refine⟨_,rfl,Z9,fun r hr'=>?_⟩
     exact q r (.need ts) _ ((s1.trans s2).new hr') ⟨tt,G1,hts.mono (J9.new hr')⟩ (.inl ⟨rfl,ts,rfl,hso,hin⟩)
theorem a2c.mono{nms owns owns':List Str}(h:∀y∈owns,y∈owns'){pr:Pr}{rw:Rw}(f:a2c nms owns pr rw):a2c nms owns' pr rw:=by
 have hS:∀{ts:List (Int×Th)},InS owns ts->InS owns' ts:=fun hi d hd y e=>h y (hi d hd y e)
 have hO:∀{w:Option Str},InO owns w->InO owns' w:=fun hi y e=>h y (hi y e)
 cases pr with
 | own k n xs=>
  rcases f with f | ⟨e,ts,e2,e3,e4⟩
  ·exact .inl f
  ·exact .inr ⟨e,ts,e2,e3,hS e4⟩
 | bring j ps xs=>exact f
 | give o g xs=>exact f
 | ask j xs=>
  obtain⟨nm,w,e1,e2,e3⟩:=f
  exact⟨nm,w,e1,e2,hO e3⟩
 | sum k xs=>
  rcases f with⟨e,ts,e2,e3,e4⟩ | ⟨e,ts,w,e2,e3,e4,e5⟩
  ·exact .inl ⟨e,ts,e2,e3,hS e4⟩
  ·exact .inr ⟨e,ts,w,e2,e3,hS e4,hO e5⟩
noncomputable def a5d:Rw->List Str
 | .bring _ ps=>ps.map (·.2)
 | .set n _=> [n]
 | .take n=> [n]
 | _=> []
theorem a2c.owned{nms owns:List Str}{pr:Pr}{rw:Rw}(f:a2c nms owns pr rw):a5d rw=a0N pr:=by
 cases pr with
 | own k n xs=>rcases f with⟨_,e⟩ | ⟨_,ts,e,_⟩<;>subst e<;>rfl
 | bring j ps xs=>obtain⟨nm,_,e⟩:=f;subst e;rfl
 | give o g xs=>rw[show rw= .give o g from f];rfl
 | ask j xs=>obtain⟨nm,w,_,e,_⟩:=f;subst e;rfl
 | sum k xs=>rcases f with⟨_,ts,e,_⟩ | ⟨_,ts,w,e,_⟩<;>subst e<;>rfl
theorem a2p{X:Cx}:a1o X (.type "tuple") (fun xs H Q=>∃p ys,xs=[.ref p]/\SqL X.K H p ys/\∀l o,H l=none->o.dict=none->Q (.ref l) (upd H l (.frz o (.tup ys)))):=by
 intro pins s σ H xs us Q I r h
 obtain⟨p,ys,rfl,hq,q⟩:=h
 obtain⟨u,rfl,rx⟩:=a3z r
 cases rx
 obtain⟨its,r',pl,hz⟩:=I.list hq
 have hlen:=r'.length
 refine call_tuple_list pl.isList (fun h' kp=>?_) (by simp only[List.size_toArray]<;>omega)
 have I1:Inv X pins σ H {s with heap:=h'}:=I.kept (t':=s.toks) kp
 have I2:Inv X pins σ (upd H h'.objs.size (.frz {cls:= .type "tuple",data:= .seq its.toArray} (.tup ys))) {s with heap:=h'.push {cls:= .type "tuple",data:= .seq its.toArray}}:=
  I1.laid (t':=s.toks) (fun b o e=>Heap.get?_push_of_some _ e) (Nat.le_refl _) ⟨Heap.get?_push_size _ rfl,hz,its,r',⟨_,Heap.get?_push_size _ rfl,rfl,_,rfl⟩⟩
 exact⟨.ref h'.objs.size,_,I2,rfl,q _ _ (I1.hok.fresh (Nat.le_refl _)) rfl⟩
noncomputable def M8 (b:Int) (n:Nat):List Str:=(List.range n).map fun(j:Nat)=>Y3 b (j:Int)
theorem a1G(b:Int)(n:Nat):(M8 b n).length=n:=by unfold M8;simp
theorem a9c(b:Int)(n:Nat):M8 b (n+1)=M8 b n++[Y3 b (n:Int)]:=by unfold M8;rw[List.range_succ,List.map_append];rfl
theorem a5U(b:Int)(n:Nat){i:Nat}(h:i < n):(M8 b n)[i]?=some (Y3 b (i:Int)):=by unfold M8;rw[List.getElem?_map,List.getElem?_range h];rfl
noncomputable def b4m (b:Int) (hs:List Pp) (ps:List Pt):Prop:=∀(i:Nat)(pp:Pp)(pt:Pt),hs[i]?=some pp->ps[i]?=some pt->pt.1=Y3 b (i:Int)/\Paired (a2c (M8 b hs.length) pp.owns) pp.rows pt.2
theorem a3B{K:PySem.W.Frag}{a:Addr}{xs:List V}{g:TG}{tt:TT}{te:TE}{Q:Hp->Prop}{σ:L2.St}{H:Hp}{D:Addr}(Pv:Nat->L2.St->Hp->Prop)(h0:Pv 0 σ (upd H D (.lst [])))
  (hl:∀i σ2 H2,Pv i σ2 H2->SqT K H2 a xs)
  (hs:∀i x σ2 H2,xs[i]?=some x->Pv i σ2 H2->g x σ2 H2 fun σ4 H4=>tt σ4 H4 fun b H5=>
   if b=true then te σ4 H5 fun y H6=>∃ys,H6 D=some (.lst ys)/\ys.length < sizeLine/\Pv (i+1) σ4 (upd H6 D (.lst (ys++[y])))else Pv (i+1) σ4 H5)
  (hd:∀σ2 H2,Pv xs.length σ2 H2->Q H2):
  ∃W:Nat->Nat->L2.St->Hp->Prop,(∃m,W 0 m σ (upd H D (.lst [])))/\∀i m σ2 H2,W i m σ2 H2->
   ((Itt K a).stop i H2/\Q H2)\/((Itt K a).go i H2/\∃N:L2.St->Hp->Prop,(∀σ' H',N σ' H'->∃m',m' < m/\W (i+1) m' σ' H')/\∀x H3,(Itt K a).yld i H2 x H3->g x σ2 H3 fun σ4 H4=>tt σ4 H4 fun b H5=>
    if b=true then te σ4 H5 fun y H6=>∃ys,H6 D=some (.lst ys)/\ys.length < sizeLine/\N σ4 (upd H6 D (.lst (ys++[y])))else N σ4 H5):=by
 refine a3t xs.length Pv h0 (fun i σ2 H2 hi p=>?_) fun σ2 H2 p=>⟨⟨xs,hl _ _ _ p,Nat.le_refl _⟩,hd _ _ p⟩
 have e:=List.getElem?_eq_getElem hi
 refine⟨⟨xs,_,hl _ _ _ p,e⟩,fun x H3 hy=>?_⟩
 obtain⟨rfl,hx⟩:=hy
 exact hs i x σ2 H3 (hx xs (hl _ _ _ p)) p
theorem b4n(rw:Rw):(∃m prs,rw= .bring m prs)\/(∃n ts,rw= .set n ts)\/(∃n,rw= .take n)\/(¬R0 rw="bring"/\¬R0 rw="set"/\¬R0 rw="take"/\a5d rw=[]):=by
 cases rw with
 | bring m prs=>exact .inl ⟨m,prs,rfl⟩
 | set n ts=>exact .inr (.inl ⟨n,ts,rfl⟩)
 | take n=>exact .inr (.inr (.inl ⟨n,rfl⟩))
 | _=>exact .inr (.inr (.inr ⟨by simp only[R0];decide +kernel,by simp only[R0];decide +kernel,by simp only[R0];decide +kernel,rfl⟩))
noncomputable def b3e:Sp:=fun vs H Q _=>∃(r:Addr)(rw:Rw),vs=[.ref r]/\a0y H r rw/\∀(l:Addr)(H':Hp),G6 H H'->H l=none->H' l=some (.lst ((a5d rw).map V.str))->Q (.ref l) H'
theorem b2b(T:Txt K mg):L2.Cl P w K mg base 1 "_law_owned" ["_law_row_here"] b3e:=by
 refine Cl.of T.d_law_owned a6D (fun vs H Q E h=>?_) (fun _ _ _ _ _ _ us hl=>by obtain⟨a,rfl⟩:=a2V hl;rfl) (fun f cdv A outer s H vs Q E hr h=>?_)
 ·obtain⟨r,rw,rfl,_⟩:=h
  rfl
 ·obtain⟨r,rw,rfl,hra,q⟩:=h
  refine⟨_,(G3 (U8 (J7 Z8 (G9 J5 (pv 0) G2 (fun _ _=>rfl)) R6 (R7 _))
    (G5 (R4 (a4L (M:=["_law_given","_law_own"]) (ρ:=[none,none]) (J3 a1q) ["_law_row_here"] ⟨rfl,by decide +kernel,by decide +kernel,by decide +kernel,rfl,by decide +kernel,by decide +kernel⟩ (F1 (G9 J5 (pv 0) G2 (fun _ _=>rfl))) (fun _ _ _ _ _ _=>(a1X (K:=K) (n:=2) rfl rfl (J0 (I0 (i:=0) (show(["_law_given","_law_own"]:List Str).Nodup by decide +kernel) rfl (Or.inl rfl)) (J0 (I0 (i:=1) (show(["_law_given","_law_own"]:List Str).Nodup by decide +kernel) rfl (Or.inl rfl)) Y1)))) (fun _ _ _ _ _ _=>a1m) (fun _ _ _ _ _ _=>(pv 1))))) R8)
   (G3 (U8 (PW.pt (a2l (J7 Z8 (G9 J5 (pv 0) G2 (fun _ _=>rfl)) R6 (R7 _)) (a1v (J7 Z8 (G9 J5 (pv 0) G2 (fun _ _=>rfl)) R6 (R7 _)))))
    (G5 (R4 (Y5 (G0 (G9 J5 (pv 0) G2 (fun _ _=>rfl)) G4)))) R8)
   (G5 (R4 (Y5 G4))))),?_⟩
  rcases b4n rw with⟨m,prs,e⟩ | ⟨n,ts,e⟩ | ⟨n,e⟩ | ⟨h1,h2,h3,h4⟩
  ·subst e
   obtain⟨t,hrt,⟨vs,ht,hps⟩,hp6⟩:=hra
   have hvl:vs.length=prs.length:=Paired.length hps
   refine⟨_,rfl,r,_,_,_,rfl,rfl,SqT.of hrt,rfl,rfl,_,rfl,D1 ?_⟩
   refine⟨_,rfl,r,_,_,_,rfl,rfl,SqT.of hrt,rfl,t,rfl,⟨_,SqT.of ht⟩,fun D hD=>?_⟩
   refine a3B (K:=K) (a:=t) (xs:=vs) (fun i σ H2=>∃(v0 v1:Option V),σ=[v0,v1]/\G6 H H2/\H2 D=some (.lst (((prs.take i).map (·.2)).map V.str))) ⟨_,_,rfl,(G6.refl H).new hD,by rw[List.take_zero];exact G1⟩ (fun i σ2 H2⟨_,_,_,s2,_⟩=>SqT.of (s2 _ _ ht)) ?_ ?_
   ·rintro i x σ H2 hx ⟨v0,v1,rfl,s2,hD2⟩
    obtain⟨d,hd,c,ex,hc,_⟩:=Paired.get? hps hx
    subst ex
    have hi:=(List.getElem?_eq_some_iff.mp hd).1
    refine⟨c,_,rfl,SqT.of (s2 _ _ hc),rfl,_,_,rfl,_,_,rfl,rfl,?_⟩
    refine⟨_,rfl,_,hD2,J6 (by rw[List.length_map,List.length_map,List.length_take];omega),_,_,rfl,s2.put hD,?_⟩
    rw[G1,J2 hd,List.map_append,List.map_append]
    rfl
   ·rintro σ H2 ⟨v0,v1,rfl,s2,hD2⟩
    rw[hvl,List.take_length]at hD2
    exact q D H2 s2 hD hD2
  ·subst e
   obtain⟨t,hrt,_⟩:=hra
   refine⟨_,rfl,r,_,_,_,rfl,rfl,SqT.of hrt,rfl,rfl,_,rfl,W3 (show¬("set":Str)="bring" by decide +kernel) ?_⟩
   refine⟨_,rfl,r,_,_,_,rfl,rfl,SqT.of hrt,rfl,rfl,_,rfl,D1 ?_⟩
   refine B9 ?_
   exact⟨_,rfl,r,_,_,_,rfl,rfl,SqT.of hrt,rfl,b1I,fun l gl=>q l _ ((G6.refl H).new gl) gl G1⟩
  ·subst e
   have hrt:H r=some (.tup [.str "take",.str n]):=hra
   refine⟨_,rfl,r,_,_,_,rfl,rfl,SqT.of hrt,rfl,rfl,_,rfl,W3 (show¬("take":Str)="bring" by decide +kernel) ?_⟩
   refine⟨_,rfl,r,_,_,_,rfl,rfl,SqT.of hrt,rfl,rfl,_,rfl,W3 (show¬("take":Str)="set" by decide +kernel) ?_⟩
   refine⟨_,rfl,r,_,_,_,rfl,rfl,SqT.of hrt,rfl,rfl,_,rfl,D1 ?_⟩
   exact⟨_,rfl,r,_,_,_,rfl,rfl,SqT.of hrt,rfl,b1I,fun l gl=>q l _ ((G6.refl H).new gl) gl G1⟩
  ·obtain⟨x1,rs,hrt⟩:=hra.kind
   have z0:atI (V.str (R0 rw)::x1::rs) 0=some (.str (R0 rw)):=U3 (j:=0) rfl
   refine⟨_,rfl,r,_,_,_,rfl,rfl,SqT.of hrt,z0,rfl,_,rfl,W3 h1 ?_⟩
   refine⟨_,rfl,r,_,_,_,rfl,rfl,SqT.of hrt,z0,rfl,_,rfl,W3 h2 ?_⟩
   refine⟨_,rfl,r,_,_,_,rfl,rfl,SqT.of hrt,z0,rfl,_,rfl,W3 h3 ?_⟩
   exact⟨a0E,fun l gl=>q l _ ((G6.refl H).new gl) gl (by rw[G1,h4];rfl)⟩
theorem b3z{α:Type}{xs:List α}{v:α}(h:xs[xs.length - 1]?=some v):atI xs (-1)=some v:=by
 have hl:0 < xs.length:=by
  cases xs with
  | nil=>simp at h
  | cons a b=>simp
 unfold atI ixN
 rw[if_neg (by decide),if_pos (by omega),show((-1:Int)+(xs.length:Int)).toNat=xs.length - 1 by omega]
 exact h
theorem b4u{t:TT}{te:TE}{R:TS}{D:a1B}{i j:Nat}{σ:L2.St}{H:Hp}{v:V}(S:V->L2.St)(C:V->Prop)(x0:V)(e0:σ.set i (some v)=S x0)(eS:∀x,(S x0).set j (some x)=S x)(bb:Bool)(ht:∀Q:Bool->Hp->Prop,Q bb H->t (S x0) H Q)(hA:bb=true->∀Q:VK,(∀x,C x->Q x H)->te (S x0) H Q)(h0:bb=false->C x0)(hR:∀x,C x->R D (S x) H):B0 i v σ H fun σ2 H2=>a5L (a6J t (a8Y te (B0 j)) a4s) R D σ2 H2:=by
 show a5L (a6J t (a8Y te (B0 j)) a4s) R D (σ.set i (some v)) H
 rw[e0]
 refine ht _ ?_
 cases bb with
 | true=>
  refine B9 (hA rfl _ fun x hx=>?_)
  show R D ((S x0).set j (some x)) H
  rw[eS]
  exact hR x hx
 | false=>exact F6 (hR x0 (h0 rfl))
theorem b1j(us:List V)(x:V):atI (us++[x]) (-1)=some x:=by
 refine b3z ?_
 rw[List.length_append,List.getElem?_append_right (by simp)]
 simp
theorem a8h{n:Nat}(h:n<=1000):n<=sizeLine:=by
 exact Nat.le_of_lt (J6 h)
noncomputable def a8Z:Sp:=fun vs H Q _=>∃(l:Addr)(A:List Q4)(hs:List Pp)(b0 b1 b:Int)(nr:Bool),vs=[.ref l,.int b,.bl nr]/\U2 H l A [] hs/\(0<=b/\b < 2147483647)/\0<=b0/\1<=hs.length/\hs.length<=24/\a5J b0 b1 hs/\∀(a:Addr)(ps:List Pt)(H':Hp),G6 H H'->F3 H' a ps->ps.length=hs.length->b4m b hs ps->Q (.ref a) H'
theorem a8d(T:Txt K mg):L2.Cl P w K mg base 3 "_law_finished" ["_law_house","_law_pool_here","_law_near"] a8Z:=by
 have C_law_name:=a9A (P:=P) (w:=w) (base:=base) T
 have C_law_row:=b4I (P:=P) (w:=w) (base:=base) T
 have C_law_owned:=b2b (P:=P) (w:=w) (base:=base) T
 refine Cl.of T.d_law_finished Y8 (fun vs H Q E h=>?_) (fun _ _ _ _ _ _ us hl=>by obtain⟨a,b,c,rfl⟩:=a6E hl;rfl) (fun f cdv A' outer s H vs Q E hr h=>?_)
 ·obtain⟨l,A,hs,b0,b1,b,nr,rfl,_⟩:=h
  rfl
 ·obtain⟨l,A,hs,b0,b1,b,nr,rfl,hh,hb,hb0,hs1,hs2,hI,q⟩:=h
  refine⟨_,(G3 (a3S (j:=3) (M:=["_law_k","_law_pool_here"]) (ρ:=[none,some 1]) (J3 a0j) ["_law_house","_law_pool_here","_law_near","_law_names","_law_parts_here","_law_name_here","_law_part","_law_rows","_law_above","_law_row_here"] ⟨rfl,by decide +kernel,by decide +kernel,by decide +kernel,rfl,by decide +kernel,by decide +kernel⟩ Y8.nd rfl (Or.inl rfl) (a0f (by rfl) T.n_range (G0 (R3 J8 (by rfl) T.n_len PySem.boot_len (G0 (pv 0) G4)) G4)) (fun _ _ _ _ _ _=>(I0 (i:=0) (show(["_law_k","_law_pool_here"]:List Str).Nodup by decide +kernel) rfl (Or.inl rfl))) (fun _ _ _ _ _ _=>a1m) (fun _ _ _ _ _ _=>(U9 C_law_name hr (by rfl) (G0 (pv 1) (G0 (pv 0) G4)))))
   (G3 (I9 (i:=4) Y8.nd rfl (Or.inl rfl) (Y5 G4))
   (G3 (Y0 PassesOwn.never rfl (b3k (by rfl) T.n_zip (G0 (pv 3) (G0 (pv 0) G4))) (E2 rfl (J0 (I0 (i:=5) Y8.nd rfl (Or.inl rfl)) (J0 (I0 (i:=6) Y8.nd rfl (Or.inl rfl)) Y1)))
    (G3 (I9 (i:=7) Y8.nd rfl (Or.inl rfl) (Y5 G4))
    (G3 (I9 (i:=8) Y8.nd rfl (Or.inl rfl) (Y5 G4))
    (G3 (Y0 PassesOwn.never rfl (a1T (G9 J4 (pv 6) G2 (fun _ _=>rfl))) (I0 (i:=9) Y8.nd rfl (Or.inl rfl))
     (G3 (U8 (a1V (a0s (pv 2)))
      (G5 (I9 (i:=8) Y8.nd rfl (Or.inl rfl) (G9 J4 (pv 6) G2 (fun _ _=>rfl)))) R8)
     (G3 (Z1 (D7 PySem.F.plainAttrs_list PySem.F.slot_list_append PySem.F.type_list_append Z5 (pv 7) (G0 (U9 C_law_row hr (by rfl) (G0 (pv 9) (G0 (pv 8) (G0 (pv 3) G4)))) G4)))
     (G5 (U8 (a0s (pv 2))
      (G5 (I9 (i:=8) Y8.nd rfl (Or.inl rfl) (J1 b5f (pv 8) (U9 C_law_owned hr (by rfl) (G0 (G9 J4 (pv 7) (a7t a4Q G2) (fun _ _=>rfl)) G4))))) R8)))))
    (G5 (Z1 (D7 PySem.F.plainAttrs_list PySem.F.slot_list_append PySem.F.type_list_append Z5 (pv 4) (G0 (R9 (G0 (pv 5) (G0 (U6 Y2 (by rfl) T.n_tuple boot_tuple (G0 (pv 7) G4)) G4))) G4))))))))
   (G5 (R4 (U6 a2p (by rfl) T.n_tuple boot_tuple (G0 (pv 4) G4))))))),?_⟩
  have hAn:(A.map fun q=>V.ref q.p).length=hs.length:=by rw[List.length_map,hh.len]
  refine⟨_,rfl,l,_,rfl,.inl (SqL.of hh.ll),_,rfl,(by omega),(by omega),fun D hD=>?_⟩
  refine a3t (A.map fun q=>V.ref q.p).length (fun i σ H2=>∃v0:Option V,σ=[v0,some (.int b)]/\G6 H H2/\H2 D=some (.lst ((M8 b i).map V.str))) ⟨_,rfl,(G6.refl H).new hD,G1⟩ ?_ ?_
  ·rintro i σ H2 hi ⟨v0,rfl,s2,hD2⟩
   refine⟨hi,?_⟩
   rintro x H3 ⟨rfl,rfl⟩
   refine ntG ?_
   refine⟨_,rfl,_,rfl,b,_,rfl,hb.1,hb.2,by omega,by omega,fun H4 s4=>?_⟩
   refine⟨_,s4 _ _ hD2,J6 (by rw[List.length_map,a1G];omega),_,rfl,(s2.trans s4).put hD,?_⟩
   rw[G1,a9c,List.map_append,Int.zero_add]
   rfl
  ·rintro σ H2 ⟨v0,rfl,s2,hD2⟩
   refine⟨Nat.le_refl _,?_⟩
   rw[hAn]at hD2
   refine⟨a0E,fun d hd=>?_⟩
   have s3:G6 H (upd H2 d (.lst [])):=s2.new hd
   have hD3:upd H2 d (.lst []) D=some (.lst ((M8 b hs.length).map V.str)):=U4 hD2 hd
   have hdH:H d=none:=s2.free hd
   have hDd:D≠d:=fun z=>by rw[z,hd]at hD2;cases hD2
   have hll:∀{H':Hp},G6 H H'->H' l=some (.lst (A.map fun q=>V.ref q.p)):=fun s=>s _ _ hh.ll
   refine⟨_,rfl,_,rfl,D,l,rfl,⟨_,SqL.of hD3⟩,⟨_,SqL.of (hll s3)⟩,b1y (K:=K) (a:=D) (b:=l) (xs:=(M8 b hs.length).map V.str) (ys:=A.map fun q=>V.ref q.p) (fun i σ H5=>∃(ps:List Pt)(vs:List V)(v5 v6 v7 v8 v9:Option V),σ=[some (.ref l),some (.int b),some (.bl nr),some (.ref D),some (.ref d),v5,v6,v7,v8,v9]/\G6 H H5/\H5 D=some (.lst ((M8 b hs.length).map V.str))/\H5 d=some (.lst vs)/\Paired (a1t H5) vs ps/\ps.length=i/\b4m b hs ps)
    (by rw[hAn,List.length_map,a1G]) ⟨[],[],none,none,none,none,none,rfl,s3,hD3,G1,.nil,rfl,fun i pp pt _ e=>by simp at e⟩ (fun i σ H5 _⟨_,_,_,_,_,_,_,_,s5,hD5,_⟩=>⟨SqL.of hD5,SqL.of (hll s5)⟩) ?_ ?_⟩
   ·rintro i x y p σ H5 hx hy ⟨ps,vs,v5,v6,v7,v8,v9,rfl,s5,hD5,hd5,hps,hlen,hfin⟩ hp
    have hi:i < hs.length:=by
     have:=(List.getElem?_eq_some_iff.mp hy).1
     omega
    obtain⟨pp,ei⟩:∃pp,hs[i]?=some pp:=⟨hs[i],by simp[hi]⟩
    obtain⟨qi,eqi⟩:∃q,A[i]?=some q:=⟨A[i]'(by rw[hh.len];exact hi),by simp[hh.len,hi]⟩
    have ex:x= .str (Y3 b (i:Int)):=by
     rw[List.getElem?_map,a5U b _ hi]at hx
     exact(Option.some.inj hx).symm
    have ey:y= .ref qi.p:=by
     rw[List.getElem?_map,eqi]at hy
     exact(Option.some.inj hy).symm
    subst ex ey
    have OK:=hI i pp ei
    obtain⟨n,hn,hn23⟩:=OK.n
    have hon:∀y∈pp.owns,D3 y:=by rw[hn];exact a4o hb0
    have s6:G6 H5 (upd H5 p (.tup [.str (Y3 b (i:Int)),.ref qi.p])):=(G6.refl H5).new hp
    refine⟨p,_,rfl,SqT.of G1,rfl,_,_,rfl,_,_,rfl,rfl,?_⟩
    generalize upd H5 p (.tup [.str (Y3 b (i:Int)),.ref qi.p])=H6 at s6⊢
    have s06:=s5.trans s6
    have h6:=hh.same s06
    have P6:=h6.pt i qi pp eqi ei
    obtain⟨rv,hrv,hrp⟩:=P6.r
    have hrl:rv.length=pp.rows.length:=Paired.length hrp
    have h40:=OK.r
    refine⟨a0E,fun D2 hD2=>?_⟩
    refine⟨a0E,fun a0 ha0=>?_⟩
    have hne0:a0≠D2:=fun z=>by rw[z,G1]at ha0;cases ha0
    have s60:G6 H6 (upd (upd H6 D2 (.lst [])) a0 (.lst [])):=((G6.refl H6).new hD2).new ha0
    refine⟨_,rfl,qi.p,_,_,_,rfl,rfl,SqL.of (s60 _ _ P6.p),rfl,qi.r,rfl,⟨_,SqL.of (s60 _ _ hrv)⟩,a2k (K:=K) (a:=qi.r) (xs:=rv) (fun j σ H7=>∃(ab:Addr)(as:List Str)(v9:Option V)(us:List V)(rws:List Rw),σ=[some (.ref l),some (.int b),some (.bl nr),some (.ref D),some (.ref d),some (.str (Y3 b (i:Int))),some (.ref qi.p),some (.ref D2),some (.ref ab),v9]/\G6 H6 H7/\H7 D2=some (.lst us)/\a0K H7 us rws/\rws.length=j/\Paired (a2c (M8 b hs.length) pp.owns) (pp.rows.take j) rws/\H7 ab=some (.lst (as.map V.str))/\(∀y∈as,y∈pp.owns)/\as.length<=23+6*j/\ab≠D2)
     ⟨a0,[],_,[],[],rfl,s60,by rw[G8 (Ne.symm hne0),G1],.nil,rfl,by rw[List.take_zero];exact .nil,G1,fun y hy=>by simp at hy,by simp,hne0⟩ (fun j σ H7 _⟨_,_,_,_,_,_,s7,_⟩=>SqL.of (s7 _ _ hrv)) ?_ ?_⟩
    ·rintro j v σ H7 hv' ⟨ab,as,v9,us,rws,rfl,s7,hD7,hrs,hrwl,hfr,hab,has,hal,hne⟩
     obtain⟨pr,hpr,hprat⟩:=Paired.get? hrp hv'
     have hj:j < pp.rows.length:=(List.getElem?_eq_some_iff.mp hpr).1
     have h7:=h6.same s7
     have P7:=h7.pt i qi pp eqi ei
     refine b4u (S:=fun x=> [some (.ref l),some (.int b),some (.bl nr),some (.ref D),some (.ref d),some (.str (Y3 b (i:Int))),some (.ref qi.p),some (.ref D2),some x,some v]) (C:=fun x=>∃(ab':Addr)(as':List Str),x= .ref ab'/\H7 ab'=some (.lst (as'.map V.str))/\(∀y∈as',y∈pp.owns)/\as'.length<=23+6*j/\ab'≠D2) (.ref ab) rfl (fun x=>rfl) (!nr) (fun Q' h=>⟨_,rfl,nr,rfl,h⟩) (fun hb Q' h=>?_) (fun hb=>⟨ab,as,rfl,hab,has,hal,hne⟩) ?_
     ·refine⟨_,rfl,qi.p,_,_,_,rfl,rfl,SqL.of P7.p,rfl,h _ ⟨qi.o,pp.owns,rfl,P7.o,fun y hy=>hy,?_,fun z=>?_⟩⟩
      ·rw[hn]
       unfold W9
       rw[List.length_map,List.length_range]
       omega
      ·have:=P6.o
       rw[z,hD2]at this
       cases this
     ·rintro x ⟨ab',as',rfl,hab',has',hal',hne'⟩
      refine⟨_,rfl,.inl ⟨rfl,_,SqL.of hD7⟩,_,rfl,_,rfl,_,rfl,?_⟩
      refine⟨v,D,inH l A [],ab',as',pr,i,hs,M8 b hs.length,rfl,hprat.keep s7.tups (fun a as ha hva=>⟨s7 _ _ hva,ha⟩),hab',OK.ok pr (List.mem_of_getElem? hpr),(fun y hy=>hon y (has' y hy)),s7 _ _ (s6 _ _ hD5),a1G _ _,fun r rw H9 s8 hrow hfin8=>?_⟩
      have hul:us.length=rws.length:=Paired.length hrs
      have hD9:=s8 _ _ hD7
      refine⟨D2,_,_,rfl,rfl,hD9,J6 (by omega),?_⟩
      have T8:J9 H7 (upd H9 D2 (.lst (us++[.ref r]))):=s8.tups.trans (J9.lst hD9)
      have T9:J9 H9 (upd H9 D2 (.lst (us++[.ref r]))):=J9.lst hD9
      have hrs9:a0K (upd H9 D2 (.lst (us++[.ref r]))) (us++[.ref r]) (rws++[rw]):=Paired.snoc (hrs.mono T8) ⟨r,rfl,hrow.mono T9⟩
      have hfr9:Paired (a2c (M8 b hs.length) pp.owns) (pp.rows.take (j+1)) (rws++[rw]):=by
       rw[J2 hpr]
       exact Paired.snoc hfr (hfin8.mono has')
      have s79:G6 H6 (upd H9 D2 (.lst (us++[.ref r]))):=(s7.trans s8).put hD2
      have hab9:upd H9 D2 (.lst (us++[.ref r])) ab'=some (.lst (as'.map V.str)):=by rw[G8 hne'];exact s8 _ _ hab'
      have hl9:(rws++[rw]).length=j+1:=by rw[List.length_append,hrwl];rfl
      cases nr with
      | false=>exact⟨_,rfl,_,rfl,F6 ⟨ab',as',_,_,_,rfl,s79,G1,hrs9,hl9,hfr9,hab9,has',by omega,hne'⟩⟩
      | true=>
       refine⟨_,rfl,_,rfl,B9 ?_⟩
       have em:atI (us++[V.ref r]) (-1)=some (.ref r):=b1j us _
       refine⟨_,rfl,_,rfl,_,rfl,D2,_,_,_,rfl,rfl,SqL.of G1,em,?_⟩
       refine⟨r,rw,rfl,hrow.mono T9,fun lo H10 s10 hlo hlo10=>?_⟩
       have hmp:=hfin8.owned
       have hml:(a0N pr).length<=6:=by
        have:=OK.ok pr (List.mem_of_getElem? hpr)
        cases pr with
        | own k n xs=>simp[a0N]
        | bring jj prs xs=>simp only[a0N,List.length_map];exact this.2.2.1
        | _=>simp[a0N]
       refine⟨ab',lo,_,_,rfl,rfl,s10 _ _ hab9,hlo10,a8h (by rw[List.length_map,List.length_map,hmp];omega),fun pn hpn=>?_⟩
       have s11:G6 (upd H9 D2 (.lst (us++[.ref r]))) (upd H10 pn (.lst (as'.map V.str++(a5d rw).map V.str))):=s10.new hpn
       refine⟨pn,as'++a5d rw,_,us++[.ref r],rws++[rw],rfl,s79.trans s11,s11 _ _ G1,hrs9.mono s11.tups,hl9,hfr9,by rw[G1,List.map_append],fun y hy=>?_,by rw[List.length_append,hmp];omega,fun z=>?_⟩
       ·rcases List.mem_append.mp hy with z | z
        ·exact has' y z
        ·rw[hmp]at z
         exact OK.md.mem_iff.mp (List.mem_flatMap.mpr ⟨pr,List.mem_of_getElem? hpr,z⟩)
       ·have:=s10 _ _ (G1 (H:=H9) (a:=D2) (o:= .lst (us++[.ref r])))
        rw[<-z,hpn]at this
        cases this
    ·rintro σ H7 ⟨ab,as,v9,us,rws,rfl,s7,hD7,hrs,hrwl,hfr,_⟩
     rw[hrl,List.take_length]at hfr
     refine⟨_,rfl,.inl ⟨rfl,_,SqL.of (s7 _ _ (s6 _ _ hd5))⟩,_,rfl,_,rfl,?_⟩
     refine⟨D2,_,rfl,.inl ⟨SqL.of hD7,fun u hu=>?_⟩⟩
     have s8:G6 H7 (upd H7 u (.tup us)):=(G6.refl H7).new hu
     refine⟨Z9,fun tp htp=>?_⟩
     have s9:=s8.new (o:= .tup [.str (Y3 b (i:Int)),.ref u]) htp
     have s59:G6 H5 (upd (upd H7 u (.tup us)) tp (.tup [.str (Y3 b (i:Int)),.ref u])):=(s6.trans s7).trans s9
     refine⟨d,_,_,rfl,rfl,s59 _ _ hd5,J6 (by rw[Paired.length hps,hlen];omega),?_⟩
     have hd9:=s59 _ _ hd5
     have T9:=J9.lst (ys:=vs++[.ref tp]) hd9
     have hne:∀{c:Addr}{ws:List V},(upd (upd H7 u (.tup us)) tp (.tup [.str (Y3 b (i:Int)),.ref u])) c=some (.tup ws)->c≠d:=fun{c ws}e z=>by rw[z,hd9]at e;cases e
     refine⟨ps++[(Y3 b (i:Int),rws)],vs++[.ref tp],_,_,_,_,_,rfl,(s5.trans s59).put hdH,?_,G1,Paired.snoc (Paired.mapP hps fun _ _ z=>z.mono (s59.tups.trans T9)) ⟨tp,u,us,rfl,T9 _ _ G1,T9 _ _ (U4 G1 htp),(hrs.mono (s9.tups.trans T9))⟩,by rw[List.length_append,hlen];rfl,?_⟩
     ·rw[G8 hDd]
      exact s59 _ _ hD5
     ·intro i' pp' pt' e1 e2
      by_cases hlt:i' < ps.length
      ·rw[List.getElem?_append_left hlt]at e2
       exact hfin i' pp' pt' e1 e2
      ·rw[List.getElem?_append_right (by omega)]at e2
       have h0:i' - ps.length=0:=by
        have:=(List.getElem?_eq_some_iff.mp e2).1
        simp only[List.length_singleton]at this
        omega
       rw[h0]at e2
       simp only[List.getElem?_cons_zero,Option.some.injEq]at e2
       have hii:i'=i:=by omega
       subst hii
       rw[ei]at e1
       cases e1
       rw[<-e2]
       exact⟨rfl,hfr⟩
   ·rintro σ H5 ⟨ps,vs,v5,v6,v7,v8,v9,rfl,s5,hD5,hd5,hps,hlen,hfin⟩
    rw[List.length_map,a1G]at hlen
    refine⟨_,rfl,d,_,rfl,SqL.of hd5,fun a o ha ho=>?_⟩
    have s6:G6 H5 (upd H5 a (.frz o (.tup vs))):=(G6.refl H5).new ha
    exact q a ps _ (s5.trans s6) ⟨o,vs,G1,ho,Paired.mapP hps fun _ _ z=>z.mono s6.tups⟩ hlen hfin
theorem a5e{H:Hp}{l x:Addr}{A:List Q4}{hs:List Pp}(h:U2 H l A [] hs)(hx:H x=none):¬inH l A [] x:=by
 rintro(z | z | ⟨i,q,y,e,hy,z⟩)
 ·rw[z,h.ll]at hx;cases hx
 ·simp at z
 ·obtain⟨xs,hxs⟩:=h.there e hy
  rw[z,hx]at hxs;cases hxs
theorem a5W{H H1 H2:Hp}{l:Addr}{A:List Q4}(n:New H l A)(s:G6 H H1)(k:D5 l A H1 H2):G6 H H2:=fun a o e=>by
 refine k a o ?_ (s _ _ e)
 rintro(z | z | ⟨i,q,y,e1,hy,z⟩)
 ·rw[z,n.1]at e;cases e
 ·simp at z
 ·rw[<-z,n.2 i q y e1 hy]at e;cases e
theorem b1W{b0 b1:Int}{hs:List Pp}(h:b0F hs):a5J b0 b1 hs:=fun i pp e=>by
 obtain⟨h1,h2,h3,_⟩:=h pp (List.mem_of_getElem? e)
 refine⟨⟨0,by rw[h2];rfl,by omega⟩,⟨0,by rw[h3];rfl,by omega⟩,by rw[h1];simp,by rw[h1,h2];exact List.Perm.refl _,by rw[h1,h3];exact List.Perm.refl _,fun pr hpr=>by rw[h1]at hpr;simp at hpr⟩
structure O8(hs:List Pp)(b0 b1 b2:Int)(ps:List Pt):Prop where
 r0:0<=b0/\b0 < 2147483647
 r1:0<=b1/\b1 < 2147483647
 r2:0<=b2/\b2 < 2147483647
 lo:1<=hs.length
 hi:hs.length<=24
 inv:a5J b0 b1 hs
 len:ps.length=hs.length
 fin:b4m b2 hs ps
 rk:a5K hs
noncomputable def a8S (K:PySem.W.Frag):Sp:=fun vs H Q _=>∃(a:Addr)(ns:List Int),vs=[.ref a]/\SqL K H a (ns.map V.int)/\ns.length<=1000/\∀(x:Addr)(hs:List Pp)(b0 b1 b2:Int)(ps:List Pt)(H':Hp),G6 H H'->F3 H' x ps->O8 hs b0 b1 b2 ps->Q (.ref x) H'
theorem b1Z(T:Txt K mg):L2.Cl P w K mg base 5 "_law_parts" ["_law_script"] (a8S K):=by
 have C_law_cell_at:=a3x (P:=P) (w:=w) (base:=base) T
 have C_law_stream:=b0H (P:=P) (w:=w) (base:=base) T
 have C_law_begun:=b2f (P:=P) (w:=w) (base:=base) T
 have C_law_pools:=b1i (P:=P) (w:=w) (base:=base) T
 have C_law_added:=b1Y (P:=P) (w:=w) (base:=base) T
 have C_law_finished:=a8d (P:=P) (w:=w) (base:=base) T
 refine Cl.of T.d_law_parts a0T (fun vs H Q E h=>?_) (fun _ _ _ _ _ _ us hl=>by obtain⟨a,rfl⟩:=a2V hl;rfl) (fun f cdv A' outer s H vs Q E hr h=>?_)
 ·obtain⟨a,ns,rfl,_⟩:=h
  rfl
 ·obtain⟨a,ns,rfl,hS,hnl,q⟩:=h
  refine⟨_,(G3 (I9 (i:=1) a0T.nd rfl (Or.inl rfl) (U9 C_law_begun hr (by rfl) (G0 (pv 0) G4)))
   (G3 (I9 (i:=2) a0T.nd rfl (Or.inl rfl) (U9 C_law_pools hr (by rfl) (G0 (pv 0) G4)))
   (G3 (Y0 PassesOwn.never rfl (b0o (by rfl) T.n_range (G0 G2 (G0 (R3 (a4n rfl) (by rfl) T.n_min boot_min (G0 (R3 (a5S rfl) (by rfl) T.n_max boot_max (G0 (R3 J8 (by rfl) T.n_len PySem.boot_len (G0 (pv 0) G4)) (G0 G2 G4))) (G0 G2 G4))) G4))) (I0 (i:=3) a0T.nd rfl (Or.inl rfl))
    (G5 (Z1 (U9 C_law_added hr (by rfl) (G0 (pv 1) (G0 (pv 2) (G0 (U9 C_law_stream hr (by rfl) (G0 (U9 C_law_cell_at hr (by rfl) (G0 (pv 0) (G0 (pv 3) G4))) (G0 (pv 3) G4))) G4)))))))
   (G5 (R4 (U9 C_law_finished hr (by rfl) (G0 (pv 1) (G0 (G9 J4 (pv 2) G2 (fun _ _=>rfl)) (G0 (a6I a4t (J1 U5 (J1 Y7 (U9 C_law_cell_at hr (by rfl) (G0 (pv 0) (G0 G2 G4))) G2) G2) G2 (R7 _)) G4))))))))),?_⟩
  refine⟨_,rfl,a,ns,rfl,hS,fun l A hs H1 s1 hh hnew hs1 hs2 hbare=>?_⟩
  refine⟨_,rfl,a,ns,rfl,s1.seq hS,fun pl b0 b1 b2 H2 s2 hpl0 hpl r0 r1 r2=>?_⟩
  have hP:a2M H2 pl l A b0 b1 b2:=⟨hpl,a5e hh hpl0,r0,r1,r2⟩
  have s12:=s1.trans s2
  have hJ:∀M:Int,(if(83:Int) < M then(83:Int)else M)<=83:=fun M=>by split<;>omega
  have hJ0:(13:Int)<=(if(83:Int) < (if(13:Int) > ((ns.map V.int).length:Int)then 13 else((ns.map V.int).length:Int))then(83:Int)else(if(13:Int) > ((ns.map V.int).length:Int)then 13 else((ns.map V.int).length:Int))):=by split<;>split<;>omega
  refine⟨_,rfl,a,_,rfl,.inl (s12.seq hS),_,_,rfl,_,_,rfl,?_⟩
  have hJ1:=hJ (if(13:Int) > ((ns.map V.int).length:Int)then 13 else((ns.map V.int).length:Int))
  generalize (if(83:Int) < (if(13:Int) > ((ns.map V.int).length:Int)then 13 else((ns.map V.int).length:Int))then(83:Int)else(if(13:Int) > ((ns.map V.int).length:Int)then 13 else((ns.map V.int).length:Int)))=J at hJ0 hJ1⊢
  refine⟨_,_,rfl,⟨by omega,by omega,by omega,by omega⟩,B7 (fun i σ H3=>∃(hs':List Pp)(v3:Option V),σ=[some (.ref a),some (.ref l),some (.ref pl),v3]/\U2 H3 l A [] hs'/\hs'.length=hs.length/\a5J b0 b1 hs'/\a5K hs'/\D5 l A H2 H3)
   ⟨hs,none,rfl,hh.same s2,rfl,b1W hbare,⟨fun _ _=>0,0,fun _ _=>Nat.le_refl _,fun i pp e j ps xs hm=>by rw[(hbare pp (List.mem_of_getElem? e)).1]at hm;simp at hm⟩,D5.refl l A H2⟩ ?_ ?_⟩
  ·rintro i σ H3 hi ⟨hs',v3,rfl,h3,hl3,hI3,hR3,k3⟩
   have S3:=a5W hnew s12 k3
   refine⟨_,rfl,_,rfl,_,rfl,_,rfl,a,ns,_,rfl,S3.seq hS,(by omega),fun c=>?_⟩
   refine⟨_,rfl,c,_,rfl,(by omega),(by omega),fun x xs H4 s4 hx0 hx hx6 hxb=>?_⟩
   refine⟨l,pl,x,A,hs',b0,b1,b2,xs,rfl,h3.same s4,hP.keep (k3.same s4),⟨hx,a5e h3 hx0⟩,⟨hx6,hxb⟩,by omega,by omega,hI3,hR3,fun hs5 H5 h5 hl5 hI5 hR5 k5=>?_⟩
   exact⟨hs5,_,rfl,h5,by omega,hI5,hR5,(k3.same s4).trans k5⟩
  ·rintro σ H3 ⟨hs',v3,rfl,h3,hl3,hI3,hR3,k3⟩
   have S3:=a5W hnew s12 k3
   refine⟨_,rfl,_,rfl,pl,_,_,_,rfl,rfl,SqL.of (hP.keep k3).h,rfl,?_⟩
   refine⟨_,rfl,a,ns,_,rfl,S3.seq hS,(by decide),fun c=>?_⟩
   refine⟨_,_,rfl,rfl,⟨by decide,by decide⟩,_,_,rfl,rfl,(by show(0:Int) < 3;decide),_,_,rfl,rfl,?_⟩
   refine⟨l,A,hs',b0,b1,b2,_,rfl,h3,r2,r0.1,by omega,by omega,hI3,fun x ps H4 s4 hp hpl hf=>?_⟩
   exact q x hs' b0 b1 b2 ps H4 (S3.trans s4) hp ⟨r0,r1,r2,by omega,by omega,hI3,hpl,hf,hR3⟩
noncomputable def a9D (K:PySem.W.Frag):Sp:=fun vs H Q _=>∃(a:Addr)(ns:List Int),vs=[.ref a]/\SqL K H a (ns.map V.int)/\ns.length<=63/\∀H',Q (.bl true) H'
theorem O8.at{hs:List Pp}{b0 b1 b2:Int}{ps:List Pt}(d:O8 hs b0 b1 b2 ps){i:Nat}{pt:Pt}(e:ps[i]?=some pt):∃pp,hs[i]?=some pp/\b4R b0 b1 hs i pp/\pt.1=Y3 b2 (i:Int)/\Paired (a2c (M8 b2 hs.length) pp.owns) pp.rows pt.2:=by
 have hi:i < hs.length:=by rw[<-d.len];exact(List.getElem?_eq_some_iff.mp e).1
 have e2:hs[i]?=some hs[i]:=by simp[hi]
 exact⟨hs[i],e2,d.inv i _ e2,d.fin i _ _ e2 e⟩
theorem O8.names{hs:List Pp}{b0 b1 b2:Int}{ps:List Pt}(d:O8 hs b0 b1 b2 ps):ps.map (·.1)=M8 b2 hs.length:=by
 apply List.ext_getElem?
 intro i
 rw[List.getElem?_map]
 cases e:ps[i]? with
 | none=>
  have h:=List.getElem?_eq_none_iff.mp e
  exact(List.getElem?_eq_none_iff.mpr (by rw[a1G,<-d.len];exact h)).symm
 | some pt=>
  obtain⟨pp,_,_,h,_⟩:=d.at e
  have hi:i < hs.length:=by rw[<-d.len];exact(List.getElem?_eq_some_iff.mp e).1
  rw[a5U b2 _ hi]
  exact congrArg some h
theorem a7T{b:Int}(hb:0<=b){n:Nat}(hn:n<=24):(M8 b n).Nodup:=by
 unfold M8
 rw[List.nodup_iff_pairwise_ne,List.pairwise_map]
 refine List.Pairwise.imp_of_mem (fun{i j}hi hj hne h=>hne ?_) List.nodup_range
 have h1:=List.mem_range.mp hi
 have h2:=List.mem_range.mp hj
 have:=a4l hb (by omega) (by omega) (by omega) (by omega) h
 omega
theorem O8.nodup{hs:List Pp}{b0 b1 b2:Int}{ps:List Pt}(d:O8 hs b0 b1 b2 ps):(ps.map (·.1)).Nodup:=by
 rw[d.names]
 exact a7T d.r2.1 d.hi
theorem O8.rows{hs:List Pp}{b0 b1 b2:Int}{ps:List Pt}(d:O8 hs b0 b1 b2 ps){i:Nat}{pt:Pt}(e:ps[i]?=some pt):pt.2.length<=40:=by
 obtain⟨pp,_,h1,_,h2⟩:=d.at e
 rw[<-Paired.length h2]
 exact h1.r
theorem B1{α:Type}[DecidableEq α]:∀(l N:List α),l.Nodup->(∀x∈l,x∈N)->l.length<=N.length
 | [],N,_,_=>Nat.zero_le _
 | a::r,N,hn,hs=>by
  rw[List.nodup_cons]at hn
  have ha:a∈N:=hs a List.mem_cons_self
  have h1:=B1 r (N.erase a) hn.2 fun x hx=>(List.mem_erase_of_ne (fun z=>hn.1 (by rw[<-z];exact hx))).mpr (hs x (List.mem_cons_of_mem _ hx))
  rw[List.length_erase_of_mem ha]at h1
  have:0 < N.length:=List.length_pos_of_mem ha
  simp only[List.length_cons];omega
theorem b1N(l:List Str)(x:Str):Y6 (O6 l) (Sum.inr x)=if x∈l then some (.bl true)else none:=by
 induction l with
 | nil=>rfl
 | cons a r ih=>
  have e:O6 (a::r)=(Sum.inr a,.bl true)::O6 r:=rfl
  rw[e]
  by_cases h:a=x
  ·subst h
   rw[F2 rfl,if_pos List.mem_cons_self]
  ·rw[E1 (fun z=>h (Sum.inr.inj z)),ih]
   by_cases hm:x∈r
   ·rw[if_pos hm,if_pos (List.mem_cons_of_mem _ hm)]
   ·rw[if_neg hm,if_neg (fun z=>by rcases List.mem_cons.mp z with y | y;exact h y.symm;exact hm y)]
theorem a4q(l:List Str)(x:Str):(Y6 (O6 l) (Sum.inr x)).isSome=decide (x∈l):=by
 rw[b1N]
 by_cases h:x∈l
 ·rw[if_pos h,decide_eq_true h];rfl
 ·rw[if_neg h,decide_eq_false h];rfl
theorem a5u(l:List Str)(x y:Str):y∈a0l l x↔y∈l\/y=x:=by
 unfold a0l
 by_cases h:x∈l
 ·rw[if_pos h]
  exact⟨.inl,fun z=>by rcases z with z | z;exact z;rw[z];exact h⟩
 ·rw[if_neg h,List.mem_append,List.mem_singleton]
structure a0c(ps:List Pt):Prop where
 nd:(ps.map (·.1)).Nodup
 hi:ps.length<=24
 rows:∀pt∈ps,pt.2.length<=40
theorem O8.fit{hs:List Pp}{b0 b1 b2:Int}{ps:List Pt}(d:O8 hs b0 b1 b2 ps):a0c ps:=⟨d.nodup,by rw[d.len];exact d.hi,fun pt hpt=>by
 obtain⟨i,hi⟩:=List.getElem?_of_mem hpt
 exact d.rows hi⟩
theorem a3M{c:TT}{tb R:TS}{D:a1B}{N:L2.St->Hp->Prop}{i:Nat}{v:V}{σ:L2.St}{H:Hp}(e:N=a5L (a4r c tb) R D)(h:a4r c tb {D with nx:=R D} (σ.set i (some v)) H):B0 i v σ H N:=by
 show N (σ.set i (some v)) H
 rw[e]
 exact h
theorem a6K{c:TT}{tb R:TS}{D:a1B}{N:L2.St->Hp->Prop}{i:Nat}{v:V}{σ:L2.St}{H:Hp}(e:N=a5L (a8Y (tC v) (B0 i)) (a5L (a4r c tb) R) D)(h:a4r c tb {D with nx:=R D} (σ.set i (some v)) H):N σ H:=by
 rw[e]
 exact h
theorem a5D(T:Txt K mg):L2.Cl P w K mg base 1 "named_parts" ["parts","part","kind"] a6z:=by
 refine Cl.of T.d_named_parts a1e (fun vs H Q E h=>?_) (fun _ _ _ _ _ _ us hl=>by obtain⟨a,b,c,rfl⟩:=a6E hl;rfl) (fun f cdv A outer s H vs Q E hr h=>?_)
 ·obtain⟨a,ps,n,k,rs,rfl,_⟩:=h
  rfl
 ·obtain⟨a,ps,n,k,rs,rfl,hk,⟨o,vs,ha,ho,hps⟩,hnd,hmem,hl1,hl2,q⟩:=h
  have hu:=D4 hr
  refine⟨_,(G3 (I9 (i:=3) a1e.nd rfl (Or.inl rfl) a2z)
   (G3 (Y0 PassesOwn.never rfl (F1 (Z0 hu (U6 (a3f rfl) (by rfl) T.n_dict boot_dict (G0 (pv 0) G4)) (pv 1) (fun _ _=>rfl))) (I0 (i:=4) a1e.nd rfl (Or.inl rfl))
    (G5 (U8 (J7 Z8 (G9 J5 (pv 4) G2 (fun _ _=>rfl)) (pv 2) (R7 _))
     (G5 (E5 hu (pv 3) (G9 J5 (pv 4) G2 (fun _ _=>rfl)) a0O rfl)) R8)))
   (G5 (R4 (U6 (a4x rfl) (by rfl) T.n_tuple boot_tuple (G0 (pv 3) G4)))))),?_⟩
  intro d gd
  have s1:G6 H (upd H d (.dK [])):=(G6.refl H).new gd
  obtain⟨qs,g1,g2,g3⟩:=a1r (K:=K) (Paired.mapP hps fun _ _ z=>z.mono s1.tups)
  obtain⟨u,ws,k1,k2,k3⟩:=g3 n rs hmem
  have hql:qs.length=ps.length:=by
   have:=congrArg List.length g2
   simpa using this
  refine⟨_,rfl,a,o,vs,qs,rfl,s1 _ _ ha,ho,g1,(by omega),fun e ge=>?_⟩
  have s2:=s1.new (o:= .dK (a0i qs [])) ge
  refine⟨_,rfl,e,.ref u,rfl,?_,?_⟩
  ·have hg:=F5.k (k:=Sum.inr n) (G1 (H:=upd H d (.dK [])) (a:=e) (o:= .dK (a0i qs [])))
   rw[a2S qs [] n (.ref u) (by rw[g2];exact hnd) (.inl k1)]at hg
   exact hg
  ·have s2:G6 H (upd (upd H d (.dK [])) e (.dK (a0i qs []))):=s1.new ge
   have hde:d≠e:=Y4 (G1 (H:=H) (a:=d) (o:= .dK [])) ge
   have hwl:ws.length=rs.length:=Paired.length k3
   refine⟨u,rfl,⟨_,SqT.of (U4 k2 ge)⟩,E6 (K:=K) (a:=u) (xs:=ws) (fun i σ H2=>∃v4:Option V,σ=[some (.ref a),some (.str n),some (.str k),some (.ref d),v4]/\G6 H H2/\H2 d=some (.dK (O6 (D8 k (rs.take i))))/\H2 u=some (.tup ws)/\a0K H2 ws rs)
    ⟨none,rfl,s2,?_,U4 k2 ge,k3.mono (J9.new ge)⟩ (fun i σ H2 _⟨_,_,_,_,e2,_⟩=>SqT.of e2) ?_ ?_⟩
   ·rw[G8 hde,G1];rfl
   ·rintro i y σ H2 hx ⟨v4,rfl,s3,hd3,hu3,hr3⟩
    have hi:i < ws.length:=(List.getElem?_eq_some_iff.mp hx).1
    obtain⟨rw,hrw,r,er,hra⟩:=Paired.get? hr3 hx
    subst er
    have hlt:(D8 k (rs.take i)).length<=900:=by
     have h1:=a2h k (rs.take i) []
     have h2:(rs.take i).length<=rs.length:=List.length_take_le' ..
     unfold D8
     simp only[List.length_nil]at h1
     omega
    have htk:rs.take (i+1)=rs.take i++[rw]:=J2 hrw
    rcases hra.named hk with⟨e1,p,rest,e2,h2⟩ | ⟨e1,e2⟩
    ·have z0:atI (V.str k::V.str p::rest) 0=some (.str k):=U3 (j:=0) rfl
     have z1:atI (V.str k::V.str p::rest) 1=some (.str p):=U3 (j:=1) rfl
     refine⟨_,rfl,r,_,_,_,rfl,rfl,SqT.of h2,z0,_,rfl,rfl,_,rfl,D1 ?_⟩
     refine⟨_,rfl,_,rfl,r,_,_,_,rfl,rfl,SqT.of h2,z1,d,_,rfl,a0C.k (k:=Sum.inr p) hd3 (J6 (by rw[a2u];omega)),?_⟩
     refine⟨_,rfl,s3.put gd,?_,?_,hr3.mono (J9.dK hd3)⟩
     ·rw[G1,a3r,htk,a3G]
      unfold a2i
      rw[e2]
     ·exact J9.dK hd3 _ _ hu3
    ·obtain⟨x,rest,h2⟩:=hra.kind
     have z0:atI (V.str (R0 rw)::x::rest) 0=some (.str (R0 rw)):=U3 (j:=0) rfl
     refine⟨_,rfl,r,_,_,_,rfl,rfl,SqT.of h2,z0,_,rfl,rfl,_,rfl,W3 e1 ?_⟩
     refine⟨_,rfl,s3,?_,hu3,hr3⟩
     rw[htk,a3G]
     unfold a2i
     rw[e2]
     exact hd3
   ·rintro σ H2 ⟨v4,rfl,s3,hd3,hu3,hr3⟩
    rw[hwl,List.take_length]at hd3
    refine⟨_,rfl,d,_,rfl,.inl hd3,fun t gt=>?_⟩
    refine q t _ (s3.new gt) ?_
    rw[G1,a6b]
theorem b0C(T:Txt K mg):L2.Cl P w K mg base 2 "brings" ["parts","part"] (b2T "bring"):=by
 have C_named_parts:=a5D (P:=P) (w:=w) (base:=base) T
 refine Cl.of T.d_brings b0a (fun vs H Q E h=>?_) (fun _ _ _ _ _ _ us hl=>by obtain⟨a,b,rfl⟩:=a3F hl;rfl) (fun f cdv A outer s H vs Q E hr h=>?_)
 ·obtain⟨a,ps,n,rs,rfl,_⟩:=h
  rfl
 ·obtain⟨a,ps,n,rs,rfl,h1,h2,h3,h4,h5,q⟩:=h
  refine⟨_,(G5 (R4 (U9 C_named_parts hr (by rfl) (G0 (pv 0) (G0 (pv 1) (G0 R6 G4)))))),?_⟩
  exact⟨_,rfl,_,rfl,a,ps,n,"bring",rs,rfl,.inl rfl,h1,h2,h3,h4,h5,q⟩
theorem a8u{l:List Str}(h:l.Nodup)(x:Str):(a0l l x).Nodup:=by
 unfold a0l
 by_cases hx:x∈l
 ·rw[if_pos hx];exact h
 ·rw[if_neg hx]
  refine List.nodup_append.mpr ⟨h,by simp,fun a ha b hb z=>?_⟩
  rw[List.mem_singleton.mp hb]at z
  exact hx (by rw[<-z];exact ha)
theorem a7F(k m:Str):∀(rs:List Rw)(l:List Str),m∈rs.foldl (a2i k) l↔m∈l\/∃r∈rs,Z2 k r=some m
 | [],l=>by simp
 | r::rs,l=>by
  rw[List.foldl_cons,a7F k m rs]
  have h:m∈a2i k l r↔m∈l\/Z2 k r=some m:=by
   unfold a2i
   cases e:Z2 k r with
   | none=>simp
   | some x=>
    show m∈a0l l x↔_
    rw[a5u]
    simp only[Option.some.injEq]
    exact⟨fun z=>by rcases z with z | z;exact .inl z;exact .inr z.symm,fun z=>by rcases z with z | z;exact .inl z;exact .inr z.symm⟩
  rw[h]
  simp only[List.mem_cons,exists_eq_or_imp,or_assoc]
theorem a1l(k m:Str)(rs:List Rw):m∈D8 k rs↔∃r∈rs,Z2 k r=some m:=by
 unfold D8
 rw[a7F]
 simp
noncomputable def muS (f wl:Addr) (H:Hp):Nat:=match H f,H wl with
 | some (.dK kvs),some (.lst W)=>(50 - kvs.length)*101+W.length
 | _,_=>0
theorem a8Q{f wl:Addr}{H:Hp}{l W:List Str}(h1:H f=some (.dK (O6 l)))(h2:H wl=some (.lst (W.map V.str))):muS f wl H=(50 - l.length)*101+W.length:=by
 unfold muS
 rw[h1,h2]
 simp only[a2u,List.length_map]
theorem a9U(W:List Str):(W.map V.str).dropLast=W.dropLast.map V.str:=by
 rw[List.map_dropLast]
theorem a9S{nms owns:List Str}{pr:Pr}{rw:Rw}{m:Str}(h:a2c nms owns pr rw)(hm:Z2 "bring" rw=some m\/Z2 "ask" rw=some m):m∈nms:=by
 have nb:∀p ps,(Z2 "bring" (.bring p ps)=some m\/Z2 "ask" (.bring p ps)=some m)->m=p:=fun p ps z=>by
  rcases z with z | z
  ·have e1:Z2 "bring" (.bring p ps)=some p:=by simp[Z2]
   rw[e1]at z
   exact(Option.some.inj z).symm
  ·have e2:Z2 "ask" (.bring p ps)=none:=by
    show(if("bring":Str)="ask" then some p else none)=none
    rw[if_neg (by decide +kernel)]
   rw[e2]at z
   cases z
 have na:∀p o,(Z2 "bring" (.ask p o)=some m\/Z2 "ask" (.ask p o)=some m)->m=p:=fun p o z=>by
  rcases z with z | z
  ·have e2:Z2 "bring" (.ask p o)=none:=by
    show(if("ask":Str)="bring" then some p else none)=none
    rw[if_neg (by decide +kernel)]
   rw[e2]at z
   cases z
  ·have e1:Z2 "ask" (.ask p o)=some p:=by simp[Z2]
   rw[e1]at z
   exact(Option.some.inj z).symm
 have no:∀r,Z2 "bring" r=none->Z2 "ask" r=none->r=rw->False:=fun r h1 h2 e=>by
  subst e
  rcases hm with z | z
  ·rw[h1]at z;cases z
  ·rw[h2]at z;cases z
 cases pr with
 | own k n xs=>
  rcases h with⟨_,e⟩ | ⟨_,ts,e,_⟩
  ·exact(no _ rfl rfl e.symm).elim
  ·exact(no _ rfl rfl e.symm).elim
 | bring j ps xs=>
  obtain⟨nm,h1,e⟩:=h
  subst e
  rw[nb _ _ hm]
  exact List.mem_of_getElem? h1
 | give o g xs=>exact(no _ rfl rfl (show rw= .give o g from h).symm).elim
 | ask j xs=>
  obtain⟨nm,w,h1,e,_⟩:=h
  subst e
  rw[na _ _ hm]
  exact List.mem_of_getElem? h1
 | sum k xs=>
  rcases h with⟨_,ts,e,_⟩ | ⟨_,ts,w,e,_⟩
  ·exact(no _ rfl rfl e.symm).elim
  ·exact(no _ rfl rfl e.symm).elim
inductive Dfs (k:Str->List Str):List Str->List Str->List Str->Prop where
 | nil {V:List Str}:Dfs k V [] V
 | old {V r R:List Str} {n:Str}:n∈V->Dfs k V r R->Dfs k V (n::r) R
 | new {V r R:List Str} {n:Str}:n∉V->Dfs k (V++[n]) (k n++r) R->Dfs k V (n::r) R
noncomputable def U7 (ps:List Pt) (n:Str):List Rw:=((ps.find? fun p=>decide (p.1=n)).map (·.2)).getD []
theorem D0:∀{ps:List Pt}{n:Str}{rs:List Rw},(ps.map (·.1)).Nodup->(n,rs)∈ps->U7 ps n=rs
 | [],n,rs,_,h=>by simp at h
 | p::ps,n,rs,hn,h=>by
  rw[List.map_cons,List.nodup_cons]at hn
  rcases List.mem_cons.mp h with e | e
  ·unfold U7
   rw[List.find?_cons_of_pos (by rw[<-e];simp),<-e];rfl
  ·have hne:¬p.1=n:=fun z=>hn.1 (by rw[z];exact List.mem_map_of_mem (f:=(·.1)) e)
   have:=D0 hn.2 e
   unfold U7 at this⊢
   rw[List.find?_cons_of_neg (by simpa using hne)]
   exact this
noncomputable def k1 (ps:List Pt) (n:Str):List Str:=D8 "bring" (U7 ps n)
noncomputable def a1W (ps:List Pt):Prop:=∀n∈ps.map (·.1),∀m∈k1 ps n,m∈ps.map (·.1)
theorem a0Q{ps:List Pt}{n:Str}(h:n∈ps.map (·.1)):∃rs,(n,rs)∈ps:=by
 obtain⟨p,hp,e⟩:=List.mem_map.mp h
 exact⟨p.2,by rw[<-e];exact hp⟩
theorem O8.closedB{hs:List Pp}{b0 b1 b2:Int}{ps:List Pt}(d:O8 hs b0 b1 b2 ps):a1W ps:=fun n hn m hm=>by
 obtain⟨rs,hmem⟩:=a0Q hn
 unfold k1 at hm
 rw[D0 d.nodup hmem]at hm
 obtain⟨r,hr,e⟩:=(a1l "bring" m rs).mp hm
 obtain⟨i,hi⟩:=List.getElem?_of_mem hmem
 obtain⟨pp,_,_,_,h2⟩:=d.at hi
 obtain⟨j,hj⟩:=List.getElem?_of_mem hr
 obtain⟨pr,_,hf⟩:=Paired.get?' h2 hj
 rw[d.names]
 exact a9S hf (.inl e)
noncomputable def b2E:Sp:=fun vs H Q _=>∃(a:Addr)(ps:List Pt)(n:Str),vs=[.ref a,.str n]/\F3 H a ps/\a0c ps/\a1W ps/\n∈ps.map (·.1)/\∀(p:Addr)(R:List Str)(H':Hp),G6 H H'->H' p=some (.tup (R.map V.str))->Dfs (k1 ps) [] [n] R->Q (.ref p) H'
theorem b1A(T:Txt K mg):L2.Cl P w K mg base 3 "order" ["parts","root"] b2E:=by
 have C_brings:=b0C (P:=P) (w:=w) (base:=base) T
 refine Cl.of T.d_order a3I (fun vs H Q E h=>?_) (fun _ _ _ _ _ _ us hl=>by obtain⟨a,b,rfl⟩:=a3F hl;rfl) (fun fa cdv A outer s H vs Q E hr h=>?_)
 ·obtain⟨a,ps,n,rfl,_⟩:=h
  rfl
 ·obtain⟨a,ps,root,rfl,hpf,hfit,hcl,hroot,q⟩:=h
  have hu:=D4 hr
  have hN:(ps.map (·.1)).length<=24:=by rw[List.length_map];exact hfit.hi
  refine⟨_,(G3 (I9 (i:=2) a3I.nd rfl (Or.inl rfl) a2z)
   (G3 (I9 (i:=3) a3I.nd rfl (Or.inl rfl) (Y5 (G0 (pv 1) G4)))
   (G3 (a1c PassesOwn.never (a7K (pv 3) (fun _=>rfl))
    (G3 (I9 (i:=4) a3I.nd rfl (Or.inl rfl) (a8B PySem.F.plainAttrs_list PySem.F.slot_list_pop PySem.F.type_list_pop a8w (pv 3)))
    (G5 (U8 (a2m (a4e hu (pv 4) (pv 2)))
     (G3 (E5 hu (pv 2) (pv 4) a0O rfl)
     (G5 (Z1 (D7 PySem.F.plainAttrs_list PySem.F.slot_list_extend PySem.F.type_list_extend a6w (pv 3) (G0 (b2O rfl (U9 C_brings hr (by rfl) (G0 (pv 0) (G0 (pv 4) G4))) (by rfl) T.n_list (by rfl) T.n_reversed) G4))))) R8))))
   (G5 (R4 (U6 (a4x rfl) (by rfl) T.n_tuple boot_tuple (G0 (pv 2) G4))))))),?_⟩
  intro f gf
  have s1:G6 H (upd H f (.dK [])):=(G6.refl H).new gf
  refine⟨_,rfl,b1I,fun wl gw=>?_⟩
  have s2:G6 H (upd (upd H f (.dK [])) wl (.lst [.str root])):=s1.new gw
  have hfw:f≠wl:=Y4 (G1 (H:=H) (a:=f) (o:= .dK [])) gw
  have gwH:H wl=none:=s1.free gw
  apply a3M
  ·with_reducible_and_instances rfl
  refine a1J (fun σ H2=>∃(l W:List Str)(v4:Option V),σ=[some (.ref a),some (.str root),some (.ref f),some (.ref wl),v4]/\G6 H H2/\H2 f=some (.dK (O6 l))/\H2 wl=some (.lst (W.map V.str))/\l.Nodup/\(∀n∈l,n∈ps.map (·.1))/\(∀n∈W,n∈ps.map (·.1))/\W.length+(50 - l.length)*101<=6000/\∀R,Dfs (k1 ps) l W.reverse R->Dfs (k1 ps) [] [root] R) (fun _ H2=>muS f wl H2)
   ⟨[],[root],none,rfl,s2,by rw[G8 hfw,G1];rfl,G1,List.nodup_nil,fun n hn=>by simp at hn,fun n hn=>by rw[List.mem_singleton.mp hn];exact hroot,by simp only[List.length_nil,List.length_singleton];omega,fun R h=>h⟩ ?_ ?_
  ·rintro σ H2 ⟨l,W,v4,rfl,s3,hf,hw,hnd,hlN,hWN,hbd,hD⟩
   refine⟨_,rfl,_,.inl ⟨_,SqL.of hw,rfl⟩,?_⟩
   have hll:=B1 l _ hnd hlN
   cases hW:W.getLast? with
   | none=>
    have hWe:W=[]:=List.getLast?_eq_none_iff.mp hW
    subst hWe
    refine F6 ?_
    refine⟨_,rfl,f,_,rfl,.inl hf,fun p gp=>?_⟩
    rw[a6b]
    exact q p l _ (s3.new gp) G1 (hD l .nil)
   | some x=>
    have hne:W≠[]:=fun z=>by rw[z]at hW;simp at hW
    have hWd:W=W.dropLast++[x]:=by
     obtain⟨ys,hys⟩:=List.getLast?_eq_some_iff.mp hW
     rw[hys,List.dropLast_concat]
    have hxW:x∈W:=by rw[hWd];simp
    have hpos:0 < W.length:=List.length_pos_of_mem hxW
    have hrev:W.reverse=x::W.dropLast.reverse:=by
     conv=>lhs;rw[hWd]
     rw[List.reverse_append]
     rfl
    rw[show(!(W.map V.str).isEmpty)=true by cases W with | nil=>exact absurd rfl hne | cons _ _=>rfl]
    refine B9 ?_
    have hlast:(W.map V.str)[(W.map V.str).length - 1]?=some (.str x):=by
     rw[List.getElem?_map,List.length_map,<-List.getLast?_eq_getElem?,hW];rfl
    refine⟨_,rfl,.inl ⟨rfl,_,SqL.of hw⟩,wl,_,_,rfl,rfl,hw,hlast,?_⟩
    rw[a9U]
    have s4:G6 H (upd H2 wl (.lst (W.dropLast.map V.str))):=s3.put gwH
    have hf4:upd H2 wl (.lst (W.dropLast.map V.str)) f=some (.dK (O6 l)):=by rw[G8 hfw];exact hf
    have hw4:upd H2 wl (.lst (W.dropLast.map V.str)) wl=some (.lst (W.dropLast.map V.str)):=G1
    have hmu:=a8Q hf hw
    generalize upd H2 wl (.lst (W.dropLast.map V.str))=H4 at s4 hf4 hw4⊢
    have hdl:W.dropLast.length=W.length - 1:=List.length_dropLast
    have hmemW:∀n,n∈W↔n∈W.dropLast\/n=x:=fun n=>by
     conv=>lhs;rw[hWd]
     rw[List.mem_append,List.mem_singleton]
    refine⟨_,rfl,_,rfl,f,_,rfl,F5.k (k:=Sum.inr x) hf4,?_⟩
    refine⟨_,rfl,?_⟩
    rw[a4q]
    by_cases hx:x∈l
    ·rw[decide_eq_true hx]
     refine F6 ?_
     refine⟨⟨l,W.dropLast,_,rfl,s4,hf4,hw4,hnd,hlN,fun n hn=>hWN n ((hmemW n).mpr (.inl hn)),by omega,fun R h=>hD R ?_⟩,?_⟩
     ·rw[hrev];exact .old hx h
     ·show muS f wl H4 < muS f wl H2
      rw[a8Q hf4 hw4,hmu]
      omega
    ·rw[decide_eq_false hx]
     refine B9 ?_
     have hxN:x∈ps.map (·.1):=hWN x hxW
     have hadd:a0l l x=l++[x]:=by unfold a0l;rw[if_neg hx]
     have hnd':(a0l l x).Nodup:=a8u hnd x
     have hlN':∀n∈a0l l x,n∈ps.map (·.1):=fun n hn=>by
      rcases(a5u l x n).mp hn with z | z
      ·exact hlN n z
      ·rw[z];exact hxN
     have hll':=B1 _ _ hnd' hlN'
     rw[hadd,List.length_append,List.length_singleton]at hll'
     refine⟨_,rfl,_,rfl,f,_,rfl,a0C.k (k:=Sum.inr x) hf4 (J6 (by rw[a2u];omega)),?_⟩
     rw[a3r]
     have s5:G6 H (upd H4 f (.dK (O6 (a0l l x)))):=s4.put gf
     have hf5:upd H4 f (.dK (O6 (a0l l x))) f=some (.dK (O6 (a0l l x))):=G1
     have hw5:upd H4 f (.dK (O6 (a0l l x))) wl=some (.lst (W.dropLast.map V.str)):=by rw[G8 hfw.symm];exact hw4
     generalize upd H4 f (.dK (O6 (a0l l x)))=H5 at s5 hf5 hw5⊢
     obtain⟨rs,hmem⟩:=a0Q hxN
     have hr40:rs.length<=40:=hfit.rows _ hmem
     have hhi:=hfit.hi
     refine⟨_,rfl,.inl ⟨rfl,_,SqL.of hw5⟩,_,rfl,_,rfl,a,ps,x,rs,rfl,s5.partsF hpf,hfit.nd,hmem,by omega,by omega,fun p H6 s6 hp=>?_⟩
     have hk1:D8 "bring" rs=k1 ps x:=by unfold k1;rw[D0 hfit.nd hmem]
     rw[hk1]at hp
     have hkl:(k1 ps x).length<=40:=by
      have h1:=a2h "bring" rs []
      rw[<-hk1]
      unfold D8
      simp only[List.length_nil]at h1
      omega
     refine⟨p,_,rfl,SqT.of hp,fun c gc=>?_⟩
     rw[<-List.map_reverse]
     have hw6:=s6 _ _ hw5
     have hf6:=s6 _ _ hf5
     have hwc:wl≠c:=fun z=>by rw[z,gc]at hw6;cases hw6
     have hfc:f≠c:=fun z=>by rw[z,gc]at hf6;cases hf6
     refine⟨wl,c,_,_,rfl,rfl,U4 hw6 gc,G1,Nat.le_of_lt (by
      have:sizeLine=16777216:=sizeLine_eq
      rw[List.length_map,List.length_map,List.length_reverse];omega),?_⟩
     rw[<-List.map_append]
     have s7:G6 H (upd (upd H6 c (.lst ((k1 ps x).reverse.map V.str))) wl (.lst ((W.dropLast++(k1 ps x).reverse).map V.str))):=((s5.trans s6).new gc).put gwH
     have hf7:upd (upd H6 c (.lst ((k1 ps x).reverse.map V.str))) wl (.lst ((W.dropLast++(k1 ps x).reverse).map V.str)) f=some (.dK (O6 (a0l l x))):=by rw[G8 hfw,G8 hfc];exact hf6
     refine⟨⟨a0l l x,W.dropLast++(k1 ps x).reverse,_,rfl,s7,hf7,G1,hnd',hlN',fun n hn=>?_,?_,fun R h=>hD R ?_⟩,?_⟩
     ·rcases List.mem_append.mp hn with z | z
      ·exact hWN n ((hmemW n).mpr (.inl z))
      ·exact hcl x hxN n (List.mem_reverse.mp z)
     ·rw[hadd,List.length_append,List.length_append,List.length_singleton,List.length_reverse];omega
     ·rw[List.reverse_append,List.reverse_reverse,hadd]at h
      rw[hrev]
      exact .new hx h
     ·show muS f wl _ < muS f wl H2
      rw[a8Q hf7 G1,hmu,hadd,List.length_append,List.length_append,List.length_singleton,List.length_reverse]
      omega
  ·rintro σ H2 Q1 Q2 hQ ⟨v,e,b,hb,hq⟩
   exact⟨v,e,b,hb,hQ _ _ hq⟩
noncomputable abbrev Pl:=Str×Nat×Rw
noncomputable def R1 (n:Str) (rs:List Rw):List Pl:=rs.zipIdx.map fun x=>(n,x.2,x.1)
theorem a2g(n:Str)(rs:List Rw)(rw:Rw):R1 n (rs++[rw])=R1 n rs++[(n,rs.length,rw)]:=by
 unfold R1
 rw[List.zipIdx_append,List.map_append]
 simp
theorem O7(n:Str)(rs:List Rw):(R1 n rs).length=rs.length:=by unfold R1;simp
noncomputable def G7 (ps:List Pt):List Pl:=ps.flatMap fun pt=>R1 pt.1 pt.2
theorem a1d(ps:List Pt)(pt:Pt):G7 (ps++[pt])=G7 ps++R1 pt.1 pt.2:=by
 unfold G7
 rw[List.flatMap_append]
 simp
theorem a0V:∀{ps:List Pt},(∀pt∈ps,pt.2.length<=40)->(G7 ps).length<=40*ps.length
 | [],_=>by simp[G7]
 | pt::r,h=>by
  have h1:=a0V (ps:=r) fun p hp=>h p (List.mem_cons_of_mem _ hp)
  have h2:=h pt List.mem_cons_self
  have e:G7 (pt::r)=R1 pt.1 pt.2++G7 r:=rfl
  rw[e,List.length_append,O7,List.length_cons]
  omega
noncomputable def a0q (H:Hp) (v:V) (x:Pl):Prop:=∃t r,v= .ref t/\H t=some (.tup [.str x.1,.int (x.2.1:Int),.ref r])/\a0y H r x.2.2
theorem a0q.mono{H H':Hp}(s:J9 H H'){v:V}{x:Pl}(h:a0q H v x):a0q H' v x:=by
 obtain⟨t,r,e,h1,h2⟩:=h
 exact⟨t,r,e,s _ _ h1,h2.mono s⟩
noncomputable def b1H:Sp:=fun vs H Q _=>∃(a:Addr)(ps:List Pt),vs=[.ref a]/\F3 H a ps/\a0c ps/\∀(p:Addr)(vs:List V)(H':Hp),G6 H H'->H' p=some (.tup vs)->Paired (a0q H') vs (G7 ps)->Q (.ref p) H'
theorem a2K(T:Txt K mg):L2.Cl P w K mg base 1 "placed_rows" ["parts"] b1H:=by
 refine Cl.of T.d_placed_rows F8 (fun vs H Q E h=>?_) (fun _ _ _ _ _ _ us hl=>by obtain⟨a,rfl⟩:=a2V hl;rfl) (fun fa cdv A outer s H vs Q E hr h=>?_)
 ·obtain⟨a,ps,rfl,_⟩:=h
  rfl
 ·obtain⟨a,ps,rfl,hpf,hfit,q⟩:=h
  obtain⟨o,vs,ha,ho,hps⟩:=id hpf
  have sqa:∀{H2:Hp},G6 H H2->SqT K H2 a vs:=fun s2=> .inl (.inr ⟨o,s2 _ _ ha⟩)
  have hvl:vs.length=ps.length:=Paired.length hps
  have hhi:=hfit.hi
  refine⟨_,(G3 (I9 (i:=1) F8.nd rfl (Or.inl rfl) (Y5 G4))
   (G3 (Y0 PassesOwn.never rfl (F1 (pv 0)) (E2 rfl (J0 (I0 (i:=2) F8.nd rfl (Or.inl rfl)) (J0 (I0 (i:=3) F8.nd rfl (Or.inl rfl)) Y1)))
    (G5 (Y0 PassesOwn.never rfl (a5i (by rfl) T.n_enumerate (G0 (pv 3) G4)) (E2 rfl (J0 (I0 (i:=4) F8.nd rfl (Or.inl rfl)) (J0 (I0 (i:=5) F8.nd rfl (Or.inl rfl)) Y1)))
     (G5 (Z1 (D7 PySem.F.plainAttrs_list PySem.F.slot_list_append PySem.F.type_list_append Z5 (pv 1) (G0 (R9 (G0 (pv 2) (G0 (pv 4) (G0 (pv 5) G4)))) G4)))))))
   (G5 (R4 (U6 Y2 (by rfl) T.n_tuple boot_tuple (G0 (pv 1) G4)))))),?_⟩
  refine⟨a0E,fun l gl=>?_⟩
  have s1:G6 H (upd H l (.lst [])):=(G6.refl H).new gl
  refine⟨_,rfl,a,rfl,⟨_,sqa s1⟩,E6 (K:=K) (a:=a) (xs:=vs) (fun i σ H2=>∃(us:List V)(v2 v3 v4 v5:Option V),σ=[some (.ref a),some (.ref l),v2,v3,v4,v5]/\G6 H H2/\H2 l=some (.lst us)/\Paired (a0q H2) us (G7 (ps.take i)))
   ⟨[],none,none,none,none,rfl,s1,G1,by rw[List.take_zero];exact .nil⟩ (fun i σ H2 _⟨_,_,_,_,_,_,s2,_⟩=>sqa s2) ?_ ?_⟩
  ·rintro i y σ H2 hy ⟨us,v2,v3,v4,v5,rfl,s2,hl2,hus⟩
   obtain⟨pt,hpt,t,u,ws,ey,ht,hu',hrs⟩:=Paired.get? hps hy
   subst ey
   have hi:i < vs.length:=(List.getElem?_eq_some_iff.mp hy).1
   have hr40:=hfit.rows _ (List.mem_of_getElem? hpt)
   have hpl:(G7 (ps.take i)).length<=40*23:=by
    have h1:=a0V (ps:=ps.take i) fun p hp=>hfit.rows p (List.mem_of_mem_take hp)
    rw[List.length_take]at h1
    omega
   have hwl:ws.length=pt.2.length:=Paired.length hrs
   refine⟨t,_,rfl,SqT.of (s2 _ _ ht),rfl,_,_,rfl,_,_,rfl,rfl,?_⟩
   refine⟨_,rfl,u,rfl,⟨_,SqT.of (s2 _ _ hu')⟩,a7v (K:=K) (a:=u) (xs:=ws) (fun j σ H3=>∃(us:List V)(v4 v5:Option V),σ=[some (.ref a),some (.ref l),some (.str pt.1),some (.ref u),v4,v5]/\G6 H H3/\H3 l=some (.lst us)/\Paired (a0q H3) us (G7 (ps.take i)++R1 pt.1 (pt.2.take j)))
    ⟨us,_,_,rfl,s2,hl2,by rw[List.take_zero];show Paired _ us (G7 (ps.take i)++[]);rw[List.append_nil];exact hus⟩ (fun j σ H3 _⟨_,_,_,_,s3,_⟩=>SqT.of (s3 _ _ hu')) ?_ ?_⟩
   ·rintro j y p σ H3 hy3 ⟨us3,w4,w5,rfl,s3,hl3,hus3⟩ hp
    obtain⟨rw,hrw,r,er,hra⟩:=Paired.get? hrs hy3
    subst er
    have hj:j < pt.2.length:=(List.getElem?_eq_some_iff.mp hrw).1
    have hul:us3.length=(G7 (ps.take i)).length+j:=by
     rw[Paired.length hus3,List.length_append,O7,List.length_take];omega
    have s4:G6 H3 (upd H3 p (.tup [.int (j:Int),.ref r])):=(G6.refl H3).new hp
    refine⟨p,_,rfl,SqT.of G1,rfl,_,_,rfl,_,_,rfl,rfl,?_⟩
    refine⟨_,rfl,.inl ⟨rfl,_,SqL.of (s4 _ _ hl3)⟩,_,rfl,_,rfl,_,rfl,a0n,fun c gc=>?_⟩
    have s5:=s4.new (o:= .tup [.str pt.1,.int (j:Int),.ref r]) gc
    refine⟨l,_,_,rfl,rfl,s5 _ _ hl3,J6 (by omega),?_⟩
    have T5:=s5.tups.trans (J9.lst (ys:=us3++[.ref c]) (s5 _ _ hl3))
    have hne:c≠l:=fun z=>by rw[z]at gc;rw[s4 _ _ hl3]at gc;cases gc
    refine⟨us3++[.ref c],_,_,rfl,(s3.trans s5).put gl,G1,?_⟩
    rw[J2 hrw,a2g,<-List.append_assoc]
    refine Paired.snoc (Paired.mapP hus3 fun _ _ z=>z.mono T5) ⟨c,r,rfl,?_,((hra.mono s3.tups).mono T5)⟩
    rw[G8 hne,G1]
    have:(pt.2.take j).length=j:=by rw[List.length_take];omega
    simp only[this]
   ·rintro σ H3 ⟨us3,w4,w5,rfl,s3,hl3,hus3⟩
    rw[hwl,List.take_length]at hus3
    refine⟨us3,_,_,_,_,rfl,s3,hl3,?_⟩
    rw[J2 hpt,a1d]
    exact hus3
  ·rintro σ H2 ⟨us,v2,v3,v4,v5,rfl,s2,hl2,hus⟩
   rw[hvl,List.take_length]at hus
   refine⟨_,rfl,l,_,rfl,.inl ⟨SqL.of hl2,fun p gp=>?_⟩⟩
   have s3:G6 H2 (upd H2 p (.tup us)):=(G6.refl H2).new gp
   exact q p us _ (s2.trans s3) G1 (Paired.mapP hus fun _ _ z=>z.mono s3.tups)
noncomputable def B3:Rw->Option Str
 | .set o _=>some o
 | .take o=>some o
 | _=>none
noncomputable def W1 (pls:List Pl):List (Str×Str):=pls.filterMap fun x=>(B3 x.2.2).map fun o=>(x.1,o)
noncomputable def U0 (k:Str×Str):List Key:=[Sum.inr k.1,Sum.inr k.2]
theorem a0B{a b:Str×Str}(h:U0 a=U0 b):a=b:=by
 unfold U0 at h
 simp only[List.cons.injEq,Sum.inr.injEq,and_true]at h
 exact Prod.ext h.1 h.2
theorem J9.dT{H:Hp}{l:Addr}{kvs kvs':List (List Key×V)}(h:H l=some (.dT kvs)):J9 H (upd H l (.dT kvs')):=fun b zs q=>by
 rw[G8 (a7u q h (by intro z;cases z))]
 exact q
theorem M7{κ:Type}[DecidableEq κ]{kvs:List (κ×V)}{k:κ}{v:V}(h:k∉kvs.map (·.1)):O1 kvs k v=kvs++[(k,v)]:=by
 unfold O1
 rw[if_neg]
 intro z
 obtain⟨p,hp,e⟩:=List.any_eq_true.mp z
 exact h (by rw[<-of_decide_eq_true e];exact List.mem_map_of_mem (f:=(·.1)) hp)
theorem a4N{H:Hp}{r:Addr}{rw:Rw}(h:a0y H r rw):(∃o rest,(R0 rw="set" \/R0 rw="take")/\B3 rw=some o/\H r=some (.tup (.str (R0 rw):: .str o::rest)))\/(¬(R0 rw="set" \/R0 rw="take")/\B3 rw=none):=by
 cases rw with
 | set o ts=>obtain⟨t,h1,h2⟩:=h;exact .inl ⟨o,_,.inl rfl,rfl,h1⟩
 | take o=>exact .inl ⟨o,_,.inr rfl,rfl,h⟩
 | _=>exact .inr ⟨by simp only[R0];decide +kernel,rfl⟩
theorem b3K(k a b:Str):inV (.str k) [.str a,.str b]=decide (k=a\/k=b):=by
 have:=a3E k [a,b]
 simpa using this
noncomputable def b2F:Sp:=fun vs H Q _=>∃(a:Addr)(ps:List Pt),vs=[.ref a]/\F3 H a ps/\a0c ps/\(W1 (G7 ps)).Nodup/\∀(d:Addr)(kvs:List (List Key×V))(H':Hp),G6 H H'->H' d=some (.dT kvs)->kvs.map (·.1)=(W1 (G7 ps)).map U0->Q (.ref d) H'
theorem b2q(T:Txt K mg):L2.Cl P w K mg base 2 "made" ["parts"] b2F:=by
 have C_placed_rows:=a2K (P:=P) (w:=w) (base:=base) T
 refine Cl.of T.d_made a0u (fun vs H Q E h=>?_) (fun _ _ _ _ _ _ us hl=>by obtain⟨a,rfl⟩:=a2V hl;rfl) (fun fa cdv A outer s H vs Q E hr h=>?_)
 ·obtain⟨a,ps,rfl,_⟩:=h
  rfl
 ·obtain⟨a,ps,rfl,hpf,hfit,hnd,q⟩:=h
  have hu:=D4 hr
  refine⟨_,(G3 (I9 (i:=1) a0u.nd rfl (Or.inl rfl) M4)
   (G3 (Y0 PassesOwn.never rfl (F1 (U9 C_placed_rows hr (by rfl) (G0 (pv 0) G4))) (E2 rfl (J0 (I0 (i:=2) a0u.nd rfl (Or.inl rfl)) (J0 (I0 (i:=3) a0u.nd rfl (Or.inl rfl)) (J0 (I0 (i:=4) a0u.nd rfl (Or.inl rfl)) Y1))))
    (G5 (U8 (J7 a2I (G9 J5 (pv 4) G2 (fun _ _=>rfl)) (R9 (G0 R6 (G0 R6 G4))) (by with_unfolding_all rfl))
     (G5 (E5 hu (pv 1) (R9 (G0 (pv 2) (G0 (G9 J5 (pv 4) G2 (fun _ _=>rfl)) G4))) (R9 (G0 (pv 2) (G0 (pv 3) G4))) rfl)) R8)))
   (G5 (R4 (pv 1))))),?_⟩
  intro d gd
  have s1:G6 H (upd H d (.dT [])):=(G6.refl H).new gd
  refine⟨_,rfl,a,ps,rfl,s1.partsF hpf,hfit,fun p vs H1 s2 hp hvs=>?_⟩
  have s12:=s1.trans s2
  have hd1:H1 d=some (.dT []):=s2 _ _ G1
  have hvl:vs.length=(G7 ps).length:=Paired.length hvs
  have hpl:(G7 ps).length<=960:=by
   have h1:=a0V hfit.rows
   have:=hfit.hi
   omega
  refine⟨p,rfl,⟨_,SqT.of hp⟩,E6 (K:=K) (a:=p) (xs:=vs) (fun i σ H2=>∃(kvs:List (List Key×V))(v2 v3 v4:Option V),σ=[some (.ref a),some (.ref d),v2,v3,v4]/\G6 H H2/\H2 p=some (.tup vs)/\J9 H1 H2/\H2 d=some (.dT kvs)/\kvs.map (·.1)=(W1 ((G7 ps).take i)).map U0)
   ⟨[],none,none,none,rfl,s12,hp,J9.refl H1,hd1,by rw[List.take_zero];rfl⟩ (fun i σ H2 _⟨_,_,_,_,_,_,h,_⟩=>SqT.of h) ?_ ?_⟩
  ·rintro i y σ H2 hy ⟨kvs,v2,v3,v4,rfl,s3,hp2,T2,hd2,hk⟩
   obtain⟨⟨n,j,rw⟩,hx,t,r,ey,ht,hra⟩:=Paired.get? hvs hy
   subst ey
   have hra2:=hra.mono T2
   have htk:W1 ((G7 ps).take (i+1))=W1 ((G7 ps).take i)++W1 [(n,j,rw)]:=by
    rw[J2 hx]
    unfold W1
    rw[List.filterMap_append]
   have hkl:kvs.length<=960:=by
    have h1:=congrArg List.length hk
    rw[List.length_map,List.length_map]at h1
    have h2:(W1 ((G7 ps).take i)).length<=((G7 ps).take i).length:=List.length_filterMap_le _ _
    rw[List.length_take]at h2
    omega
   refine⟨t,_,rfl,SqT.of (T2 _ _ ht),rfl,_,_,rfl,_,_,rfl,_,_,rfl,rfl,?_⟩
   rcases a4N hra2 with⟨o,rest,hkd,ho,hrt⟩ | ⟨hkd,ho⟩
   ·have z0:atI (V.str (R0 rw)::V.str o::rest) 0=some (.str (R0 rw)):=U3 (j:=0) rfl
    have z1:atI (V.str (R0 rw)::V.str o::rest) 1=some (.str o):=U3 (j:=1) rfl
    refine⟨_,rfl,r,_,_,_,rfl,rfl,SqT.of hrt,z0,Z9,fun c gc=>?_⟩
    have s4:G6 H2 (upd H2 c (.tup [.str "set",.str "take"])):=(G6.refl H2).new gc
    refine⟨c,_,rfl,.inr (SqT.of G1),rfl,rfl,_,rfl,?_⟩
    rw[if_neg (by decide),b3K,decide_eq_true hkd]
    refine B9 ?_
    refine⟨_,rfl,_,rfl,Z9,fun e ge=>?_⟩
    have s5:=s4.new (o:= .tup [.str n,.int (j:Int)]) ge
    refine⟨_,rfl,_,rfl,_,rfl,r,_,_,_,rfl,rfl,SqT.of (s5 _ _ hrt),z1,Z9,fun g gg=>?_⟩
    have s6:=s5.new (o:= .tup [.str n,.str o]) gg
    have hd6:=s6 _ _ hd2
    have hg6:upd (upd (upd H2 c (.tup [.str "set",.str "take"])) e (.tup [.str n,.int (j:Int)])) g (.tup [.str n,.str o]) g=some (.tup ((U0 (n,o)).map kV)):=G1
    refine⟨d,_,rfl,a0C.t (k:=U0 (n,o)) hd6 hg6 (J6 (by omega)),?_⟩
    have hnew:U0 (n,o)∉kvs.map (·.1):=by
     rw[hk]
     intro z
     obtain⟨k',hk',e'⟩:=List.mem_map.mp z
     have:k'=(n,o):=a0B e'
     subst this
     have h1:(W1 ((G7 ps).take (i+1))).Nodup:=by
      have h2:W1 (G7 ps)=W1 ((G7 ps).take (i+1))++W1 ((G7 ps).drop (i+1)):=by
       unfold W1
       rw[<-List.filterMap_append,List.take_append_drop]
      rw[h2]at hnd
      exact(List.nodup_append.mp hnd).1
     rw[htk]at h1
     have h3:W1 [(n,j,rw)]=[(n,o)]:=by simp[W1,ho]
     rw[h3]at h1
     exact(List.nodup_append.mp h1).2.2 _ hk' _ (List.mem_singleton.mpr rfl) rfl
    rw[M7 hnew]
    have T6:=s6.tups.trans (J9.dT (kvs':=kvs++[(U0 (n,o),.ref e)]) hd6)
    refine⟨kvs++[(U0 (n,o),.ref e)],_,_,_,rfl,(s3.trans s6).put gd,T6 _ _ hp2,T2.trans T6,G1,?_⟩
    have h3:W1 [(n,j,rw)]=[(n,o)]:=by simp[W1,ho]
    rw[htk,h3,List.map_append,List.map_append,hk]
    rfl
   ·obtain⟨x1,rest,hrt⟩:=hra2.kind
    have z0:atI (V.str (R0 rw)::x1::rest) 0=some (.str (R0 rw)):=U3 (j:=0) rfl
    refine⟨_,rfl,r,_,_,_,rfl,rfl,SqT.of hrt,z0,Z9,fun c gc=>?_⟩
    have s4:G6 H2 (upd H2 c (.tup [.str "set",.str "take"])):=(G6.refl H2).new gc
    refine⟨c,_,rfl,.inr (SqT.of G1),rfl,rfl,_,rfl,?_⟩
    rw[if_neg (by decide),b3K,decide_eq_false hkd]
    refine F6 ?_
    have h3:W1 [(n,j,rw)]=[]:=by simp[W1,ho]
    exact⟨kvs,_,_,_,rfl,s3.trans s4,s4 _ _ hp2,T2.trans s4.tups,s4 _ _ hd2,by rw[htk,h3,List.append_nil];exact hk⟩
  ·rintro σ H2 ⟨kvs,v2,v3,v4,rfl,s3,hp2,T2,hd2,hk⟩
   rw[hvl,List.take_length]at hk
   exact⟨_,rfl,q d kvs H2 s3 hd2 hk⟩
noncomputable abbrev Kk:=Str×Str
noncomputable def R5 (pls:List Pl):List (Kk×(Str×Nat)):=pls.filterMap fun x=>(B3 x.2.2).map fun o=>((x.1,o),(x.1,x.2.1))
noncomputable def F9:Rw->Option (Str×Str)
 | .give o g=>some (o,g)
 | _=>none
noncomputable def W6 (pls:List Pl):List (Kk×Str):=pls.filterMap fun x=>(F9 x.2.2).map fun q=>((x.1,q.2),q.1)
noncomputable def F4:Rw->List (Str×(Str×Str))
 | .bring m ps=>ps.map fun q=>(m,q)
 | _=> []
noncomputable def W8 (pls:List Pl):List (Kk×Kk):=pls.flatMap fun x=>(F4 x.2.2).map fun q=>((x.1,q.2.2),(q.1,q.2.1))
noncomputable def a4G (gls:List (Kk×Str)) (k:Kk):Str:=((gls.find? fun y=>decide (y.1=k)).map (·.2)).getD ""
theorem a3v:∀{gls:List (Kk×Str)}{k:Kk}{o:Str},(gls.map (·.1)).Nodup->(k,o)∈gls->a4G gls k=o
 | [],k,o,_,h=>by simp at h
 | y::r,k,o,hn,h=>by
  rw[List.map_cons,List.nodup_cons]at hn
  rcases List.mem_cons.mp h with e | e
  ·unfold a4G
   rw[List.find?_cons_of_pos (by rw[<-e];simp),<-e];rfl
  ·have hne:¬y.1=k:=fun z=>hn.1 (by rw[z];exact List.mem_map_of_mem (f:=(·.1)) e)
   have:=a3v hn.2 e
   unfold a4G at this⊢
   rw[List.find?_cons_of_neg (by simpa using hne)]
   exact this
noncomputable def O3 (pls:List Pl):List (Kk×Kk):=(W8 pls).map fun x=>(x.1,(x.2.1,a4G (W6 pls) x.2))
inductive Mk (mls:List (Kk×(Str×Nat))) (ls:List (Kk×Kk)):Kk->Str×Nat->Prop where
 | base {k:Kk} {p:Str×Nat}:(k,p)∈mls->Mk mls ls k p
 | step {k k':Kk} {p:Str×Nat}:(k,k')∈ls->Mk mls ls k' p->Mk mls ls k p
structure M3(pls:List Pl):Prop where
 keys:((R5 pls).map (·.1)++(W8 pls).map (·.1)).Nodup
 gk:((W6 pls).map (·.1)).Nodup
 gv:∀x∈W8 pls,∃o,(x.2,o)∈W6 pls
 ow:∀y∈W6 pls,(y.1.1,y.2)∈(R5 pls).map (·.1)++(W8 pls).map (·.1)
 rk:∃r:Kk->Nat,∀x∈O3 pls,r x.2 < r x.1
 len:pls.length<=960
 brs:∀x∈pls,(F4 x.2.2).length<=6
theorem a3J(pls:List Pl):(O3 pls).map (·.1)=(W8 pls).map (·.1):=by
 unfold O3
 rw[List.map_map]
 rfl
theorem M3.tgt{pls:List Pl}(n:M3 pls){x:Kk×Kk}(hx:x∈O3 pls):x.2∈(R5 pls).map (·.1)\/x.2∈(O3 pls).map (·.1):=by
 obtain⟨y,hy,e⟩:=List.mem_map.mp hx
 obtain⟨o,ho⟩:=n.gv y hy
 have h1:=a3v n.gk ho
 have h2:=n.ow _ ho
 rw[<-e]
 show(y.2.1,a4G (W6 pls) y.2)∈_\/_
 rw[h1,a3J]
 exact List.mem_append.mp h2
theorem M3.mkNodup{pls:List Pl}(n:M3 pls):((R5 pls).map (·.1)).Nodup:=(List.nodup_append.mp n.keys).1
theorem M3.lkNodup{pls:List Pl}(n:M3 pls):((O3 pls).map (·.1)).Nodup:=by rw[a3J];exact(List.nodup_append.mp n.keys).2.1
theorem M3.apart{pls:List Pl}(n:M3 pls){k:Kk}(h1:k∈(R5 pls).map (·.1))(h2:k∈(O3 pls).map (·.1)):False:=(List.nodup_append.mp n.keys).2.2 k h1 k (by rw[<-a3J];exact h2) rfl
theorem a5y{α β:Type}:∀{l:List (α×β)}{k:α}{a b:β},(l.map (·.1)).Nodup->(k,a)∈l->(k,b)∈l->a=b
 | [],_,_,_,_,h,_=>by simp at h
 | y::r,k,a,b,hn,h1,h2=>by
  rw[List.map_cons,List.nodup_cons]at hn
  rcases List.mem_cons.mp h1 with e1 | e1<;>rcases List.mem_cons.mp h2 with e2 | e2
  ·rw[<-e1]at e2;exact(Prod.mk.inj e2).2.symm
  ·exact absurd (by rw[<-e1];exact List.mem_map_of_mem (f:=(·.1)) e2) hn.1
  ·exact absurd (by rw[<-e2];exact List.mem_map_of_mem (f:=(·.1)) e1) hn.1
  ·exact a5y hn.2 e1 e2
theorem M3.uniq{pls:List Pl}(n:M3 pls){k:Kk}{p q:Str×Nat}(h1:Mk (R5 pls) (O3 pls) k p)(h2:Mk (R5 pls) (O3 pls) k q):p=q:=by
 induction h1 with
 | base h=>
  cases h2 with
  | base h'=>exact a5y n.mkNodup h h'
  | step h' _=>exact(n.apart (List.mem_map_of_mem (f:=(·.1)) h) (List.mem_map_of_mem (f:=(·.1)) h')).elim
 | step h _ ih=>
  cases h2 with
  | base h'=>exact(n.apart (List.mem_map_of_mem (f:=(·.1)) h') (List.mem_map_of_mem (f:=(·.1)) h)).elim
  | step h' hm=>
   have:=a5y n.lkNodup h h'
   subst this
   exact ih hm
noncomputable def a3i (H:Hp) (kv:List Key×V) (x:Kk×(Str×Nat)):Prop:=kv.1=U0 x.1/\∃t,kv.2= .ref t/\H t=some (.tup [.str x.2.1,.int (x.2.2:Int)])
noncomputable def a2v (H:Hp) (kv:List Key×V) (x:Kk×Kk):Prop:=kv.1=U0 x.1/\∃t,kv.2= .ref t/\H t=some (.tup [.str x.2.1,.str x.2.2])
noncomputable def b4h (kv:List Key×V) (x:Kk×Str):Prop:=kv.1=U0 x.1/\kv.2= .str x.2
theorem a3i.mono{H H':Hp}(s:J9 H H'){kv:List Key×V}{x:Kk×(Str×Nat)}(h:a3i H kv x):a3i H' kv x:=by
 obtain⟨e,t,e2,h⟩:=h
 exact⟨e,t,e2,s _ _ h⟩
theorem a2v.mono{H H':Hp}(s:J9 H H'){kv:List Key×V}{x:Kk×Kk}(h:a2v H kv x):a2v H' kv x:=by
 obtain⟨e,t,e2,h⟩:=h
 exact⟨e,t,e2,s _ _ h⟩
theorem a6N{β:Type}{F:List Key×V->Kk×β->Prop}(hF:∀kv x,F kv x->kv.1=U0 x.1):∀{kvs:List (List Key×V)}{xs:List (Kk×β)},Paired F kvs xs->kvs.map (·.1)=(xs.map (·.1)).map U0
 | _,_,.nil=>rfl
 | _,_,.cons h t=>by rw[List.map_cons,List.map_cons,List.map_cons,a6N hF t,hF _ _ h]
theorem a3n{β:Type}{F:List Key×V->Kk×β->Prop}(hF:∀kv x,F kv x->kv.1=U0 x.1):∀{kvs:List (List Key×V)}{xs:List (Kk×β)}{x:Kk×β},Paired F kvs xs->(xs.map (·.1)).Nodup->x∈xs->∃kv,F kv x/\Y6 kvs (U0 x.1)=some kv.2
 | _,_,x,.nil,_,h=>by simp at h
 | _,_,x,.cons (a:=kv) (b:=y) hy t,hn,h=>by
  rw[List.map_cons,List.nodup_cons]at hn
  rcases List.mem_cons.mp h with e | e
  ·subst e
   exact⟨kv,hy,F2 (hF _ _ hy)⟩
  ·obtain⟨kv',h1,h2⟩:=a3n hF t hn.2 e
   refine⟨kv',h1,?_⟩
   rw[E1 (fun z=>hn.1 ?_)]
   ·exact h2
   ·have:U0 y.1=U0 x.1:=(hF _ _ hy).symm.trans z
    rw[a0B this]
    exact List.mem_map_of_mem (f:=(·.1)) e
theorem a5k{β:Type}{F:List Key×V->Kk×β->Prop}(hF:∀kv x,F kv x->kv.1=U0 x.1):∀{kvs:List (List Key×V)}{xs:List (Kk×β)}{k:Kk},Paired F kvs xs->k∉xs.map (·.1)->Y6 kvs (U0 k)=none
 | _,_,k,.nil,_=>rfl
 | _,_,k,.cons (a:=kv) (b:=y) hy t,h=>by
  rw[List.map_cons,List.mem_cons,not_or]at h
  rw[E1 (fun z=>h.1 (a0B ((hF _ _ hy).symm.trans z)).symm)]
  exact a5k hF t h.2
theorem a2U{β:Type}{F:List Key×V->Kk×β->Prop}(hF:∀kv x,F kv x->kv.1=U0 x.1){kvs:List (List Key×V)}{xs:List (Kk×β)}{k:Kk}(h:Paired F kvs xs)(hk:k∉xs.map (·.1)):U0 k∉kvs.map (·.1):=by
 rw[a6N hF h]
 intro z
 obtain⟨k',h1,h2⟩:=List.mem_map.mp z
 rw[a0B h2]at h1
 exact hk h1
theorem a1R{α β:Type}{l:List (α×β)}{a b:List (α×β)}(h:(l.map (·.1)).Nodup)(e:l=a++b):(a.map (·.1)).Nodup:=by
 rw[e,List.map_append]at h
 exact(List.nodup_append.mp h).1
theorem M9(a b:List Pl):R5 (a++b)=R5 a++R5 b:=by unfold R5;rw[List.filterMap_append]
theorem a1O(a b:List Pl):W6 (a++b)=W6 a++W6 b:=by unfold W6;rw[List.filterMap_append]
theorem a2J(a b:List Pl):W8 (a++b)=W8 a++W8 b:=by unfold W8;rw[List.flatMap_append]
theorem b0h(pls:List Pl)(i:Nat):R5 pls=R5 (pls.take i)++R5 (pls.drop i):=by rw[<-M9,List.take_append_drop]
theorem b0f(pls:List Pl)(i:Nat):W6 pls=W6 (pls.take i)++W6 (pls.drop i):=by rw[<-a1O,List.take_append_drop]
theorem b0l(pls:List Pl)(i:Nat):W8 pls=W8 (pls.take i)++W8 (pls.drop i):=by rw[<-a2J,List.take_append_drop]
theorem a1Y(pls:List Pl):(R5 pls).length<=pls.length:=List.length_filterMap_le _ _
theorem a9i(pls:List Pl):(W6 pls).length<=pls.length:=List.length_filterMap_le _ _
theorem a2E:∀{pls:List Pl},(∀x∈pls,(F4 x.2.2).length<=6)->(W8 pls).length<=6*pls.length
 | [],_=>by simp[W8]
 | x::r,h=>by
  have h1:=a2E (pls:=r) fun y hy=>h y (List.mem_cons_of_mem _ hy)
  have h2:=h x List.mem_cons_self
  have e:W8 (x::r)=((F4 x.2.2).map fun q=>((x.1,q.2.2),(q.1,q.2.1)))++W8 r:=rfl
  rw[e,List.length_append,List.length_map,List.length_cons]
  omega
theorem szK{n:Nat}(h:n<=10000):n < sizeLine:=by
 have:sizeLine=16777216:=sizeLine_eq
 omega
noncomputable def b2N:Sp:=fun vs H Q _=>∃(a:Addr)(ps:List Pt),vs=[.ref a]/\F3 H a ps/\a0c ps/\M3 (G7 ps)/\∀(d:Addr)(kvs:List (List Key×V))(H':Hp),G6 H H'->H d=none->H' d=some (.dT kvs)->Paired (a3i H') kvs (R5 (G7 ps))->Q (.ref d) H'
theorem b3H(T:Txt K mg):L2.Cl P w K mg base 2 "made" ["parts"] b2N:=by
 have C_placed_rows:=a2K (P:=P) (w:=w) (base:=base) T
 refine Cl.of T.d_made a0u (fun vs H Q E h=>?_) (fun _ _ _ _ _ _ us hl=>by obtain⟨a,rfl⟩:=a2V hl;rfl) (fun fa cdv A outer s H vs Q E hr h=>?_)
 ·obtain⟨a,ps,rfl,_⟩:=h
  rfl
 ·obtain⟨a,ps,rfl,hpf,hfit,hnet,q⟩:=h
  have hu:=D4 hr
  have hpl:=hnet.len
  refine⟨_,(G3 (I9 (i:=1) a0u.nd rfl (Or.inl rfl) M4)
   (G3 (Y0 PassesOwn.never rfl (F1 (U9 C_placed_rows hr (by rfl) (G0 (pv 0) G4))) (E2 rfl (J0 (I0 (i:=2) a0u.nd rfl (Or.inl rfl)) (J0 (I0 (i:=3) a0u.nd rfl (Or.inl rfl)) (J0 (I0 (i:=4) a0u.nd rfl (Or.inl rfl)) Y1))))
    (G5 (U8 (J7 a2I (G9 J5 (pv 4) G2 (fun _ _=>rfl)) (R9 (G0 R6 (G0 R6 G4))) (by with_unfolding_all rfl))
     (G5 (E5 hu (pv 1) (R9 (G0 (pv 2) (G0 (G9 J5 (pv 4) G2 (fun _ _=>rfl)) G4))) (R9 (G0 (pv 2) (G0 (pv 3) G4))) rfl)) R8)))
   (G5 (R4 (pv 1))))),?_⟩
  intro d gd
  have s1:G6 H (upd H d (.dT [])):=(G6.refl H).new gd
  refine⟨_,rfl,a,ps,rfl,s1.partsF hpf,hfit,fun p vs H1 s2 hp hvs=>?_⟩
  have s12:=s1.trans s2
  have hd1:H1 d=some (.dT []):=s2 _ _ G1
  have hvl:vs.length=(G7 ps).length:=Paired.length hvs
  refine⟨p,rfl,⟨_,SqT.of hp⟩,E6 (K:=K) (a:=p) (xs:=vs) (fun i σ H2=>∃(kvs:List (List Key×V))(v2 v3 v4:Option V),σ=[some (.ref a),some (.ref d),v2,v3,v4]/\G6 H H2/\H2 p=some (.tup vs)/\J9 H1 H2/\H2 d=some (.dT kvs)/\Paired (a3i H2) kvs (R5 ((G7 ps).take i)))
   ⟨[],none,none,none,rfl,s12,hp,J9.refl H1,hd1,by rw[List.take_zero];exact .nil⟩ (fun i σ H2 _⟨_,_,_,_,_,_,h,_⟩=>SqT.of h) ?_ ?_⟩
  ·rintro i y σ H2 hy ⟨kvs,v2,v3,v4,rfl,s3,hp2,T2,hd2,hk⟩
   obtain⟨⟨n,j,rw⟩,hx,t,r,ey,ht,hra⟩:=Paired.get? hvs hy
   subst ey
   have hra2:=hra.mono T2
   have htk:R5 ((G7 ps).take (i+1))=R5 ((G7 ps).take i)++R5 [(n,j,rw)]:=by
    rw[J2 hx,M9]
   have hkl:kvs.length<=960:=by
    rw[Paired.length hk]
    have h2:=a1Y ((G7 ps).take i)
    rw[List.length_take]at h2
    omega
   refine⟨t,_,rfl,SqT.of (T2 _ _ ht),rfl,_,_,rfl,_,_,rfl,_,_,rfl,rfl,?_⟩
   rcases a4N hra2 with⟨o,rest,hkd,ho,hrt⟩ | ⟨hkd,ho⟩
   ·have z0:atI (V.str (R0 rw)::V.str o::rest) 0=some (.str (R0 rw)):=U3 (j:=0) rfl
    have z1:atI (V.str (R0 rw)::V.str o::rest) 1=some (.str o):=U3 (j:=1) rfl
    refine⟨_,rfl,r,_,_,_,rfl,rfl,SqT.of hrt,z0,Z9,fun c gc=>?_⟩
    have s4:G6 H2 (upd H2 c (.tup [.str "set",.str "take"])):=(G6.refl H2).new gc
    refine⟨c,_,rfl,.inr (SqT.of G1),rfl,rfl,_,rfl,?_⟩
    rw[if_neg (by decide),b3K,decide_eq_true hkd]
    refine B9 ?_
    refine⟨_,rfl,_,rfl,Z9,fun e ge=>?_⟩
    have s5:=s4.new (o:= .tup [.str n,.int (j:Int)]) ge
    refine⟨_,rfl,_,rfl,_,rfl,r,_,_,_,rfl,rfl,SqT.of (s5 _ _ hrt),z1,Z9,fun g gg=>?_⟩
    have s6:=s5.new (o:= .tup [.str n,.str o]) gg
    have hd6:=s6 _ _ hd2
    have hg6:upd (upd (upd H2 c (.tup [.str "set",.str "take"])) e (.tup [.str n,.int (j:Int)])) g (.tup [.str n,.str o]) g=some (.tup ((U0 (n,o)).map kV)):=G1
    refine⟨d,_,rfl,a0C.t (k:=U0 (n,o)) hd6 hg6 (szK (by omega)),?_⟩
    have h3:R5 [(n,j,rw)]=[((n,o),(n,j))]:=by simp[R5,ho]
    have hnew:U0 (n,o)∉kvs.map (·.1):=a2U (fun _ _ h=>h.1) hk (fun z=>by
     have h1:=a1R hnet.mkNodup (b0h (G7 ps) (i+1))
     rw[htk,h3,List.map_append]at h1
     exact(List.nodup_append.mp h1).2.2 _ z _ (List.mem_singleton.mpr rfl) rfl)
    rw[M7 hnew]
    have T6:=s6.tups.trans (J9.dT (kvs':=kvs++[(U0 (n,o),.ref e)]) hd6)
    refine⟨kvs++[(U0 (n,o),.ref e)],_,_,_,rfl,(s3.trans s6).put gd,T6 _ _ hp2,T2.trans T6,G1,?_⟩
    rw[htk,h3]
    refine Paired.snoc (Paired.mapP hk fun _ _ z=>z.mono T6) ⟨rfl,e,rfl,J9.dT (kvs':=kvs++[(U0 (n,o),.ref e)]) hd6 _ _ (U4 G1 gg)⟩
   ·obtain⟨x1,rest,hrt⟩:=hra2.kind
    have z0:atI (V.str (R0 rw)::x1::rest) 0=some (.str (R0 rw)):=U3 (j:=0) rfl
    refine⟨_,rfl,r,_,_,_,rfl,rfl,SqT.of hrt,z0,Z9,fun c gc=>?_⟩
    have s4:G6 H2 (upd H2 c (.tup [.str "set",.str "take"])):=(G6.refl H2).new gc
    refine⟨c,_,rfl,.inr (SqT.of G1),rfl,rfl,_,rfl,?_⟩
    rw[if_neg (by decide),b3K,decide_eq_false hkd]
    refine F6 ?_
    have h3:R5 [(n,j,rw)]=[]:=by simp[R5,ho]
    exact⟨kvs,_,_,_,rfl,s3.trans s4,s4 _ _ hp2,T2.trans s4.tups,s4 _ _ hd2,by rw[htk,h3,List.append_nil];exact Paired.mapP hk fun _ _ z=>z.mono s4.tups⟩
  ·rintro σ H2 ⟨kvs,v2,v3,v4,rfl,s3,hp2,T2,hd2,hk⟩
   rw[hvl,List.take_length]at hk
   exact⟨_,rfl,q d kvs H2 s3 gd hd2 hk⟩
theorem a7A{H:Hp}{r:Addr}{rw:Rw}(h:a0y H r rw):(∃o g,F9 rw=some (o,g)/\H r=some (.tup [.str "give",.str o,.str g]))\/(¬R0 rw="give"/\F9 rw=none):=by
 cases rw with
 | give o g=>exact .inl ⟨o,g,rfl,h⟩
 | _=>exact .inr ⟨by simp only[R0];decide +kernel,rfl⟩
theorem a6s{H:Hp}{r:Addr}{rw:Rw}(h:a0y H r rw):(∃m ps t,rw= .bring m ps/\H r=some (.tup [.str "bring",.str m,.ref t])/\a1p H t ps)\/(¬R0 rw="bring"/\F4 rw=[]):=by
 cases rw with
 | bring m ps=>obtain⟨t,h1,h2⟩:=h;exact .inl ⟨m,ps,t,rfl,h1,h2⟩
 | _=>exact .inr ⟨by simp only[R0];decide +kernel,rfl⟩
noncomputable def a7k:Sp:=fun vs H Q _=>∃(a:Addr)(ps:List Pt),vs=[.ref a]/\F3 H a ps/\a0c ps/\M3 (G7 ps)/\∀(d:Addr)(kvs:List (List Key×V))(H':Hp),G6 H H'->H' d=some (.dT kvs)->Paired b4h kvs (W6 (G7 ps))->Q (.ref d) H'
theorem a5H(T:Txt K mg):L2.Cl P w K mg base 2 "given_owns" ["parts"] a7k:=by
 have C_placed_rows:=a2K (P:=P) (w:=w) (base:=base) T
 refine Cl.of T.d_given_owns M5 (fun vs H Q E h=>?_) (fun _ _ _ _ _ _ us hl=>by obtain⟨a,rfl⟩:=a2V hl;rfl) (fun fa cdv A outer s H vs Q E hr h=>?_)
 ·obtain⟨a,ps,rfl,_⟩:=h
  rfl
 ·obtain⟨a,ps,rfl,hpf,hfit,hnet,q⟩:=h
  have hu:=D4 hr
  have hpl:=hnet.len
  refine⟨_,(G3 (I9 (i:=1) M5.nd rfl (Or.inl rfl) M4)
   (G3 (Y0 PassesOwn.never rfl (F1 (U9 C_placed_rows hr (by rfl) (G0 (pv 0) G4))) (E2 rfl (J0 (I0 (i:=2) M5.nd rfl (Or.inl rfl)) (J0 (I0 (i:=3) M5.nd rfl (Or.inl rfl)) (J0 (I0 (i:=4) M5.nd rfl (Or.inl rfl)) Y1))))
    (G5 (U8 (J7 Z8 (G9 J5 (pv 4) G2 (fun _ _=>rfl)) R6 (R7 _))
     (G5 (E5 hu (pv 1) (R9 (G0 (pv 2) (G0 (G9 J5 (pv 4) G2 (fun _ _=>rfl)) G4))) (G9 J5 (pv 4) G2 (fun _ _=>rfl)) rfl)) R8)))
   (G5 (R4 (pv 1))))),?_⟩
  intro d gd
  have s1:G6 H (upd H d (.dT [])):=(G6.refl H).new gd
  refine⟨_,rfl,a,ps,rfl,s1.partsF hpf,hfit,fun p vs H1 s2 hp hvs=>?_⟩
  have s12:=s1.trans s2
  have hd1:H1 d=some (.dT []):=s2 _ _ G1
  have hvl:vs.length=(G7 ps).length:=Paired.length hvs
  refine⟨p,rfl,⟨_,SqT.of hp⟩,E6 (K:=K) (a:=p) (xs:=vs) (fun i σ H2=>∃(kvs:List (List Key×V))(v2 v3 v4:Option V),σ=[some (.ref a),some (.ref d),v2,v3,v4]/\G6 H H2/\H2 p=some (.tup vs)/\J9 H1 H2/\H2 d=some (.dT kvs)/\Paired b4h kvs (W6 ((G7 ps).take i)))
   ⟨[],none,none,none,rfl,s12,hp,J9.refl H1,hd1,by rw[List.take_zero];exact .nil⟩ (fun i σ H2 _⟨_,_,_,_,_,_,h,_⟩=>SqT.of h) ?_ ?_⟩
  ·rintro i y σ H2 hy ⟨kvs,v2,v3,v4,rfl,s3,hp2,T2,hd2,hk⟩
   obtain⟨⟨n,j,rw⟩,hx,t,r,ey,ht,hra⟩:=Paired.get? hvs hy
   subst ey
   have hra2:=hra.mono T2
   have htk:W6 ((G7 ps).take (i+1))=W6 ((G7 ps).take i)++W6 [(n,j,rw)]:=by
    rw[J2 hx,a1O]
   have hkl:kvs.length<=960:=by
    rw[Paired.length hk]
    have h2:=a9i ((G7 ps).take i)
    rw[List.length_take]at h2
    omega
   refine⟨t,_,rfl,SqT.of (T2 _ _ ht),rfl,_,_,rfl,_,_,rfl,_,_,rfl,rfl,?_⟩
   rcases a7A hra2 with⟨o,g,ho,hrt⟩ | ⟨hkd,ho⟩
   ·refine⟨_,rfl,r,_,_,_,rfl,rfl,SqT.of hrt,rfl,rfl,_,rfl,D1 ?_⟩
    refine⟨_,rfl,r,_,_,_,rfl,rfl,SqT.of hrt,rfl,_,rfl,_,rfl,_,rfl,r,_,_,_,rfl,rfl,SqT.of hrt,rfl,Z9,fun e ge=>?_⟩
    have s6:G6 H2 (upd H2 e (.tup [.str n,.str g])):=(G6.refl H2).new ge
    have hd6:=s6 _ _ hd2
    have hg6:upd H2 e (.tup [.str n,.str g]) e=some (.tup ((U0 (n,g)).map kV)):=G1
    refine⟨d,_,rfl,a0C.t (k:=U0 (n,g)) hd6 hg6 (szK (by omega)),?_⟩
    have h3:W6 [(n,j,rw)]=[((n,g),o)]:=by simp[W6,ho]
    have hnew:U0 (n,g)∉kvs.map (·.1):=a2U (fun _ _ h=>h.1) hk (fun z=>by
     have h1:=a1R hnet.gk (b0f (G7 ps) (i+1))
     rw[htk,h3,List.map_append]at h1
     exact(List.nodup_append.mp h1).2.2 _ z _ (List.mem_singleton.mpr rfl) rfl)
    rw[M7 hnew]
    have T6:=s6.tups.trans (J9.dT (kvs':=kvs++[(U0 (n,g),.str o)]) hd6)
    refine⟨kvs++[(U0 (n,g),.str o)],_,_,_,rfl,(s3.trans s6).put gd,T6 _ _ hp2,T2.trans T6,G1,?_⟩
    rw[htk,h3]
    exact Paired.snoc hk ⟨rfl,rfl⟩
   ·obtain⟨x1,rest,hrt⟩:=hra2.kind
    have z0:atI (V.str (R0 rw)::x1::rest) 0=some (.str (R0 rw)):=U3 (j:=0) rfl
    refine⟨_,rfl,r,_,_,_,rfl,rfl,SqT.of hrt,z0,rfl,_,rfl,W3 hkd ?_⟩
    have h3:W6 [(n,j,rw)]=[]:=by simp[W6,ho]
    exact⟨kvs,_,_,_,rfl,s3,hp2,T2,hd2,by rw[htk,h3,List.append_nil];exact hk⟩
  ·rintro σ H2 ⟨kvs,v2,v3,v4,rfl,s3,hp2,T2,hd2,hk⟩
   rw[hvl,List.take_length]at hk
   exact⟨_,rfl,q d kvs H2 s3 hd2 hk⟩
noncomputable def llG (G:List (Kk×Str)) (bs:List (Kk×Kk)):List (Kk×Kk):=bs.map fun x=>(x.1,(x.2.1,a4G G x.2))
theorem a9k(G:List (Kk×Str))(a b:List (Kk×Kk)):llG G (a++b)=llG G a++llG G b:=by unfold llG;rw[List.map_append]
theorem a7n(G:List (Kk×Str))(bs:List (Kk×Kk)):(llG G bs).map (·.1)=bs.map (·.1):=by unfold llG;rw[List.map_map];rfl
noncomputable def a1i (n m:Str) (prs:List (Str×Str)):List (Kk×Kk):=prs.map fun q=>((n,q.2),(m,q.1))
theorem a4J(n:Str)(j:Nat)(m:Str)(prs:List (Str×Str)):W8 [(n,j,.bring m prs)]=a1i n m prs:=by
 unfold W8 a1i F4
 simp
noncomputable def b3D:Sp:=fun vs H Q _=>∃(a:Addr)(ps:List Pt),vs=[.ref a]/\F3 H a ps/\a0c ps/\M3 (G7 ps)/\∀(d:Addr)(kvs:List (List Key×V))(H':Hp),G6 H H'->H d=none->H' d=some (.dT kvs)->Paired (a2v H') kvs (O3 (G7 ps))->Q (.ref d) H'
theorem b1C(T:Txt K mg):L2.Cl P w K mg base 3 "links" ["parts"] b3D:=by
 have C_placed_rows:=a2K (P:=P) (w:=w) (base:=base) T
 have C_given_owns:=a5H (P:=P) (w:=w) (base:=base) T
 refine Cl.of T.d_links a0F (fun vs H Q E h=>?_) (fun _ _ _ _ _ _ us hl=>by obtain⟨a,rfl⟩:=a2V hl;rfl) (fun fa cdv A outer s H vs Q E hr h=>?_)
 ·obtain⟨a,ps,rfl,_⟩:=h
  rfl
 ·obtain⟨a,ps,rfl,hpf,hfit,hnet,q⟩:=h
  have hu:=D4 hr
  have hpl:=hnet.len
  refine⟨_,(G3 (I9 (i:=1) a0F.nd rfl (Or.inl rfl) (U9 C_given_owns hr (by rfl) (G0 (pv 0) G4)))
   (G3 (I9 (i:=2) a0F.nd rfl (Or.inl rfl) M4)
   (G3 (Y0 PassesOwn.never rfl (F1 (U9 C_placed_rows hr (by rfl) (G0 (pv 0) G4))) (E2 rfl (J0 (I0 (i:=3) a0F.nd rfl (Or.inl rfl)) (J0 (I0 (i:=4) a0F.nd rfl (Or.inl rfl)) (J0 (I0 (i:=5) a0F.nd rfl (Or.inl rfl)) Y1))))
    (G5 (U8 (J7 Z8 (G9 J5 (pv 5) G2 (fun _ _=>rfl)) R6 (R7 _))
     (G5 (Y0 PassesOwn.never rfl (F1 (G9 J5 (pv 5) G2 (fun _ _=>rfl))) (E2 rfl (J0 (I0 (i:=6) a0F.nd rfl (Or.inl rfl)) (J0 (I0 (i:=7) a0F.nd rfl (Or.inl rfl)) Y1)))
      (G5 (E5 hu (pv 2) (R9 (G0 (pv 3) (G0 (pv 7) G4))) (R9 (G0 (G9 J5 (pv 5) G2 (fun _ _=>rfl)) (G0 (Z0 hu (pv 1) (R9 (G0 (G9 J5 (pv 5) G2 (fun _ _=>rfl)) (G0 (pv 6) G4))) (fun _ _=>rfl)) G4))) rfl)))) R8)))
   (G5 (R4 (pv 2)))))),?_⟩
  refine⟨_,rfl,a,ps,rfl,hpf,hfit,hnet,fun ow gkv H1 s1 how hg=>?_⟩
  intro d gd
  have s2:G6 H1 (upd H1 d (.dT [])):=(G6.refl H1).new gd
  refine⟨_,rfl,a,ps,rfl,(s1.trans s2).partsF hpf,hfit,fun p vs H3 s3 hp hvs=>?_⟩
  have s03:=(s1.trans s2).trans s3
  have gdH:H d=none:=s1.free gd
  have hd3:H3 d=some (.dT []):=s3 _ _ G1
  have how3:H3 ow=some (.dT gkv):=s3 _ _ (s2 _ _ how)
  have hod:ow≠d:=fun z=>by rw[z,gd]at how;cases how
  have hvl:vs.length=(G7 ps).length:=Paired.length hvs
  have hG:=hnet.gk
  refine⟨p,rfl,⟨_,SqT.of hp⟩,E6 (K:=K) (a:=p) (xs:=vs) (fun i σ H2=>∃(kvs:List (List Key×V))(v3 v4 v5 v6 v7:Option V),σ=[some (.ref a),some (.ref ow),some (.ref d),v3,v4,v5,v6,v7]/\G6 H H2/\H2 p=some (.tup vs)/\J9 H3 H2/\H2 ow=some (.dT gkv)/\H2 d=some (.dT kvs)/\Paired (a2v H2) kvs (llG (W6 (G7 ps)) (W8 ((G7 ps).take i))))
   ⟨[],none,none,none,none,none,rfl,s03,hp,J9.refl H3,how3,hd3,by rw[List.take_zero];exact .nil⟩ (fun i σ H2 _⟨_,_,_,_,_,_,_,_,h,_⟩=>SqT.of h) ?_ ?_⟩
  ·rintro i y σ H2 hy ⟨kvs,v3,v4,v5,v6,v7,rfl,s4,hp2,T2,how2,hd2,hk⟩
   obtain⟨⟨n,jj,rw⟩,hx,t,r,ey,ht,hra⟩:=Paired.get? hvs hy
   subst ey
   have hra2:=hra.mono T2
   have hxm:=List.mem_of_getElem? hx
   have htk:W8 ((G7 ps).take (i+1))=W8 ((G7 ps).take i)++W8 [(n,jj,rw)]:=by
    rw[J2 hx,a2J]
   have hbl:(W8 ((G7 ps).take i)).length<=5760:=by
    have h1:=a2E (pls:=(G7 ps).take i) fun x hx=>hnet.brs x (List.mem_of_mem_take hx)
    rw[List.length_take]at h1
    omega
   refine⟨t,_,rfl,SqT.of (T2 _ _ ht),rfl,_,_,rfl,_,_,rfl,_,_,rfl,rfl,?_⟩
   rcases a6s hra2 with⟨m,prs,t',e,hrt,⟨vs',ht',hprs⟩,hp6⟩ | ⟨hkd,ho⟩
   ·subst e
    have hvl':vs'.length=prs.length:=Paired.length hprs
    refine⟨_,rfl,r,_,_,_,rfl,rfl,SqT.of hrt,rfl,rfl,_,rfl,D1 ?_⟩
    have hnd:((W8 ((G7 ps).take i)).map (·.1)++(a1i n m prs).map (·.1)).Nodup:=by
     have h1:=hnet.keys
     rw[b0l (G7 ps) (i+1),htk,a4J,List.map_append,List.map_append,<-List.append_assoc]at h1
     have h2:=(List.nodup_append.mp h1).1
     exact(List.nodup_append.mp h2).2.1
    refine⟨_,rfl,r,_,_,_,rfl,rfl,SqT.of hrt,rfl,t',rfl,⟨_,SqT.of ht'⟩,E6 (K:=K) (a:=t') (xs:=vs') (fun j σ H4=>∃(kvs:List (List Key×V))(v6 v7:Option V),σ=[some (.ref a),some (.ref ow),some (.ref d),some (.str n),some (.int (jj:Int)),some (.ref r),v6,v7]/\G6 H H4/\J9 H2 H4/\H4 ow=some (.dT gkv)/\H4 d=some (.dT kvs)/\Paired (a2v H4) kvs (llG (W6 (G7 ps)) (W8 ((G7 ps).take i)++a1i n m (prs.take j))))
     ⟨kvs,_,_,rfl,s4,J9.refl H2,how2,hd2,by rw[List.take_zero];show Paired _ kvs (llG _ (W8 ((G7 ps).take i)++[]));rw[List.append_nil];exact hk⟩ (fun j σ H4 _⟨_,_,_,_,_,TT,_⟩=>SqT.of (TT _ _ ht')) ?_ ?_⟩
    ·rintro j y σ H4 hy4 ⟨kv4,w6,w7,rfl,s5,T4,how4,hd4,hk4⟩
     obtain⟨qq,hq,c,ec,hc,_,_⟩:=Paired.get? hprs hy4
     subst ec
     have hj:j < prs.length:=(List.getElem?_eq_some_iff.mp hq).1
     have hrt4:=T4 _ _ hrt
     have htk4:a1i n m (prs.take (j+1))=a1i n m (prs.take j)++[((n,qq.2),(m,qq.1))]:=by
      rw[J2 hq]
      unfold a1i
      rw[List.map_append]
      rfl
     have hkl:kv4.length<=6000:=by
      rw[Paired.length hk4]
      unfold llG
      rw[List.length_map,List.length_append]
      have:(a1i n m (prs.take j)).length=j:=by unfold a1i;rw[List.length_map,List.length_take];omega
      omega
     have hxb:((n,qq.2),(m,qq.1))∈W8 (G7 ps):=by
      unfold W8
      refine List.mem_flatMap.mpr ⟨_,hxm,?_⟩
      exact List.mem_map.mpr ⟨(m,qq),List.mem_map.mpr ⟨qq,List.mem_of_getElem? hq,rfl⟩,rfl⟩
     obtain⟨o',ho'⟩:=hnet.gv _ hxb
     have hgg:a4G (W6 (G7 ps)) (m,qq.1)=o':=a3v hG ho'
     obtain⟨kv',⟨_,hv1⟩,hv2⟩:=a3n (F:=b4h) (fun _ _ h=>h.1) hg hG ho'
     refine⟨c,_,rfl,SqT.of (T4 _ _ hc),rfl,_,_,rfl,_,_,rfl,rfl,?_⟩
     refine⟨_,rfl,r,_,_,_,rfl,rfl,SqT.of hrt4,rfl,_,rfl,_,rfl,r,_,_,_,rfl,rfl,SqT.of hrt4,rfl,_,rfl,Z9,fun e ge=>?_⟩
     have s6:G6 H4 (upd H4 e (.tup [.str m,.str qq.1])):=(G6.refl H4).new ge
     have hget:F5 (upd H4 e (.tup [.str m,.str qq.1])) ow (.ref e) (some (.str o')):=by
      have h1:=F5.t (k:=U0 (m,qq.1)) (s6 _ _ how4) (show upd H4 e (.tup [.str m,.str qq.1]) e=some (.tup ((U0 (m,qq.1)).map kV))from G1)
      rw[hv2,hv1]at h1
      exact h1
     refine⟨ow,_,rfl,hget,Z9,fun g gg=>?_⟩
     have s7:=s6.new (o:= .tup [.str m,.str o']) gg
     refine⟨_,rfl,_,rfl,_,rfl,Z9,fun b gb=>?_⟩
     have s8:=s7.new (o:= .tup [.str n,.str qq.2]) gb
     have hd8:=s8 _ _ hd4
     have hb8:upd (upd (upd H4 e (.tup [.str m,.str qq.1])) g (.tup [.str m,.str o'])) b (.tup [.str n,.str qq.2]) b=some (.tup ((U0 (n,qq.2)).map kV)):=G1
     refine⟨d,_,rfl,a0C.t (k:=U0 (n,qq.2)) hd8 hb8 (szK (by omega)),?_⟩
     have hnew:U0 (n,qq.2)∉kv4.map (·.1):=a2U (F:=a2v H4) (fun _ _ h=>h.1) hk4 (fun z=>by
      rw[a7n,List.map_append]at z
      have hsub:((W8 ((G7 ps).take i)).map (·.1)++(a1i n m (prs.take (j+1))).map (·.1)).Sublist ((W8 ((G7 ps).take i)).map (·.1)++(a1i n m prs).map (·.1)):=by
       refine List.Sublist.append_left ?_ _
       unfold a1i
       exact((List.take_sublist _ _).map _).map _
      have h1:=hsub.nodup hnd
      rw[htk4,List.map_append,<-List.append_assoc]at h1
      exact(List.nodup_append.mp h1).2.2 _ z _ (List.mem_singleton.mpr rfl) rfl)
     rw[M7 hnew]
     have TD:=J9.dT (kvs':=kv4++[(U0 (n,qq.2),.ref g)]) hd8
     have T8:=s8.tups.trans TD
     refine⟨kv4++[(U0 (n,qq.2),.ref g)],_,_,rfl,(s5.trans s8).put gdH,T4.trans T8,by rw[G8 hod];exact s8 _ _ how4,G1,?_⟩
     rw[htk4,<-List.append_assoc,a9k]
     refine Paired.snoc (Paired.mapP hk4 fun _ _ z=>z.mono T8) ⟨rfl,g,rfl,?_⟩
     show _=some (HO.tup [V.str m,V.str (a4G (W6 (G7 ps)) (m,qq.1))])
     rw[hgg]
     exact TD _ _ (U4 G1 gb)
    ·rintro σ H4 ⟨kv4,w6,w7,rfl,s5,T4,how4,hd4,hk4⟩
     rw[hvl',List.take_length]at hk4
     refine⟨kv4,_,_,_,_,_,rfl,s5,T4 _ _ hp2,T2.trans T4,how4,hd4,?_⟩
     rw[htk,a4J]
     exact hk4
   ·obtain⟨x1,rest,hrt⟩:=hra2.kind
    have z0:atI (V.str (R0 rw)::x1::rest) 0=some (.str (R0 rw)):=U3 (j:=0) rfl
    refine⟨_,rfl,r,_,_,_,rfl,rfl,SqT.of hrt,z0,rfl,_,rfl,W3 hkd ?_⟩
    have h3:W8 [(n,jj,rw)]=[]:=by unfold W8;simp[ho]
    exact⟨kvs,_,_,_,_,_,rfl,s4,hp2,T2,how2,hd2,by rw[htk,h3,List.append_nil];exact hk⟩
  ·rintro σ H2 ⟨kvs,v3,v4,v5,v6,v7,rfl,s4,hp2,T2,how2,hd2,hk⟩
   rw[hvl,List.take_length]at hk
   exact⟨_,rfl,q d kvs H2 s4 gdH hd2 hk⟩
structure FI(mls:List (Kk×(Str×Nat)))(ls:List (Kk×Kk))(H:Hp)(kvs:List (List Key×V)):Prop where
 nd:(kvs.map (·.1)).Nodup
 sub:∀k∈kvs.map (·.1),k∈(mls.map (·.1)++ls.map (·.1)).map U0
 val:∀x v,Y6 kvs (U0 x)=some v->∃t p,v= .ref t/\H t=some (.tup [.str p.1,.int ((p.2:Nat):Int)])/\Mk mls ls x p
 has:∀x∈mls.map (·.1),(Y6 kvs (U0 x)).isSome=true
theorem a9L{κ:Type}[DecidableEq κ]{kvs:List (κ×V)}{k:κ}{v:V}(h:(kvs.map (·.1)).Nodup):((O1 kvs k v).map (·.1)).Nodup/\∀x∈(O1 kvs k v).map (·.1),x∈kvs.map (·.1)\/x=k:=by
 by_cases hk:k∈kvs.map (·.1)
 ·have e:(O1 kvs k v).map (·.1)=kvs.map (·.1):=by
   unfold O1
   rw[if_pos]
   ·rw[List.map_map]
    refine List.map_congr_left fun x _=>?_
    show(if x.1=k then(x.1,v)else x).1=x.1
    split<;>rfl
   ·obtain⟨p,hp,e⟩:=List.mem_map.mp hk
    exact List.any_eq_true.mpr ⟨p,hp,decide_eq_true e⟩
  rw[e]
  exact⟨h,fun x hx=> .inl hx⟩
 ·rw[M7 hk,List.map_append]
  refine⟨List.nodup_append.mpr ⟨h,by simp,fun a ha b hb z=>hk (by have e:b=k:=List.mem_singleton.mp hb;rw[<-e,<-z];exact ha)⟩,fun x hx=>?_⟩
  rcases List.mem_append.mp hx with z | z
  ·exact .inl z
  ·exact .inr (List.mem_singleton.mp z)
theorem FI.len{mls:List (Kk×(Str×Nat))}{ls:List (Kk×Kk)}{H:Hp}{kvs:List (List Key×V)}(h:FI mls ls H kvs):kvs.length<=mls.length+ls.length:=by
 have h1:=B1 _ _ h.nd h.sub
 rw[List.length_map,List.length_map,List.length_append,List.length_map,List.length_map]at h1
 exact h1
theorem FI.mono{mls:List (Kk×(Str×Nat))}{ls:List (Kk×Kk)}{H H':Hp}{kvs:List (List Key×V)}(h:FI mls ls H kvs)(s:J9 H H'):FI mls ls H' kvs:=⟨h.nd,h.sub,fun x v e=>by
 obtain⟨t,p,e1,e2,e3⟩:=h.val x v e
 exact⟨t,p,e1,s _ _ e2,e3⟩,h.has⟩
theorem FI.put{mls:List (Kk×(Str×Nat))}{ls:List (Kk×Kk)}{H:Hp}{kvs:List (List Key×V)}(h:FI mls ls H kvs){x:Kk}{t:Addr}{p:Str×Nat}(hx:x∈mls.map (·.1)++ls.map (·.1))(ht:H t=some (.tup [.str p.1,.int ((p.2:Nat):Int)]))(hm:Mk mls ls x p):FI mls ls H (O1 kvs (U0 x) (.ref t)):=by
 obtain⟨k1,k2⟩:=a9L (v:=V.ref t) (k:=U0 x) h.nd
 refine⟨k1,fun k hk=>?_,fun y v e=>?_,fun y hy=>?_⟩
 ·rcases k2 k hk with z | z
  ·exact h.sub k z
  ·rw[z];exact List.mem_map_of_mem hx
 ·rw[O9]at e
  by_cases z:U0 y=U0 x
  ·rw[if_pos z]at e
   rw[a0B z]
   exact⟨t,p,(Option.some.inj e).symm,ht,hm⟩
  ·rw[if_neg z]at e
   exact h.val y v e
 ·rw[O9]
  by_cases z:U0 y=U0 x
  ·rw[if_pos z];rfl
  ·rw[if_neg z];exact h.has y hy
noncomputable def a7z (H:Hp) (v:V) (k:Str×Str):Prop:=∃b,v= .ref b/\H b=some (.tup [.str k.1,.str k.2])
theorem a7z.mono{H H':Hp}(s:J9 H H'){v:V}{k:Kk}(h:a7z H v k):a7z H' v k:=by
 obtain⟨b,e,h⟩:=h
 exact⟨b,e,s _ _ h⟩
noncomputable def muM (r:Kk->Nat) (i:Nat) (σ:L2.St) (H:Hp):Nat:=match σ[i]? with
 | some (some (V.ref b))=>match H b with
  | some (HO.tup [V.str n,V.str o])=>r (n,o)
  | _=>0
 | _=>0
noncomputable def a7I:Sp:=fun vs H Q _=>∃(a:Addr)(ps:List Pt),vs=[.ref a]/\F3 H a ps/\a0c ps/\M3 (G7 ps)/\∀(d:Addr)(kvs:List (List Key×V))(H':Hp),G6 H H'->H d=none->H' d=some (.dT kvs)->FI (R5 (G7 ps)) (O3 (G7 ps)) H' kvs->(∀x∈(O3 (G7 ps)).map (·.1),(Y6 kvs (U0 x)).isSome=true)->Q (.ref d) H'
theorem J9.frz{H:Hp}{l:Addr}{o:Obj}{u:HO}{kvs:List (List Key×V)}(h:H l=some (.dT kvs)):J9 H (upd H l (.frz o u)):=fun b zs q=>by
 rw[G8 (a7u q h (by intro z;cases z))]
 exact q
theorem b4d{pls:List Pl}{H:Hp}{kvs:List (List Key×V)}(hnet:M3 pls)(h:Paired (a3i H) kvs (R5 pls)):FI (R5 pls) (O3 pls) H kvs:=by
 have hk:=a6N (F:=a3i H) (fun _ _ h=>h.1) h
 refine⟨?_,fun k hm=>?_,fun x v e=>?_,fun x hx=>?_⟩
 ·rw[hk,List.nodup_iff_pairwise_ne,List.pairwise_map]
  have:=hnet.mkNodup
  rw[List.nodup_iff_pairwise_ne]at this
  exact this.imp fun hne z=>hne (a0B z)
 ·rw[hk]at hm
  rw[List.map_append]
  exact List.mem_append_left _ hm
 ·by_cases hx:x∈(R5 pls).map (·.1)
  ·obtain⟨y,hy,ey⟩:=List.mem_map.mp hx
   obtain⟨kv,⟨_,t,e1,e2⟩,e3⟩:=a3n (F:=a3i H) (fun _ _ h=>h.1) h hnet.mkNodup hy
   rw[ey,e]at e3
   refine⟨t,y.2,(Option.some.inj e3).trans e1,e2,.base ?_⟩
   rw[<-ey]
   exact hy
  ·rw[a5k (F:=a3i H) (fun _ _ h=>h.1) h hx]at e
   cases e
 ·obtain⟨y,hy,ey⟩:=List.mem_map.mp hx
  obtain⟨kv,_,e3⟩:=a3n (F:=a3i H) (fun _ _ h=>h.1) h hnet.mkNodup hy
  rw[<-ey,e3]
  rfl
theorem b0j(T:Txt K mg):L2.Cl P w K mg base 4 "makers" ["parts"] a7I:=by
 have C_made:=b3H (P:=P) (w:=w) (base:=base) T
 have C_links:=b1C (P:=P) (w:=w) (base:=base) T
 refine Cl.of T.d_makers a0h (fun vs H Q E h=>?_) (fun _ _ _ _ _ _ us hl=>by obtain⟨a,rfl⟩:=a2V hl;rfl) (fun fa cdv A outer s H vs Q E hr h=>?_)
 ·obtain⟨a,ps,rfl,_⟩:=h
  rfl
 ·obtain⟨a,ps,rfl,hpf,hfit,hnet,q⟩:=h
  have hu:=D4 hr
  have hpl:=hnet.len
  obtain⟨r,hrk⟩:=hnet.rk
  have hml:=a1Y (G7 ps)
  have hll:(O3 (G7 ps)).length<=5760:=by
   have h1:=a2E hnet.brs
   unfold O3
   rw[List.length_map]
   omega
  have htgt:=fun{x:Kk×Kk}(hx:x∈O3 (G7 ps))=>hnet.tgt hx
  have hlkn:=hnet.lkNodup
  refine⟨_,(G3 (I9 (i:=1) a0h.nd rfl (Or.inl rfl) (U9 C_made hr (by rfl) (G0 (pv 0) G4)))
   (G3 (I9 (i:=2) a0h.nd rfl (Or.inl rfl) (U9 C_links hr (by rfl) (G0 (pv 0) G4)))
   (G3 (Y0 PassesOwn.never rfl (a5o (pv 2)) (I0 (i:=3) a0h.nd rfl (Or.inl rfl))
    (G3 (I9 (i:=4) a0h.nd rfl (Or.inl rfl) (Y5 G4))
    (G3 (I9 (i:=5) a0h.nd rfl (Or.inl rfl) (pv 3))
    (G3 (a1c PassesOwn.never (a2m (a4e hu (pv 5) (pv 1)))
     (G3 (Z1 (D7 PySem.F.plainAttrs_list PySem.F.slot_list_append PySem.F.type_list_append Z5 (pv 4) (G0 (pv 5) G4)))
     (G5 (I9 (i:=5) a0h.nd rfl (Or.inl rfl) (Z0 hu (pv 2) (pv 5) (fun _ _=>rfl))))))
    (G5 (Y0 PassesOwn.never rfl (a1T (pv 4)) (I0 (i:=6) a0h.nd rfl (Or.inl rfl))
     (G5 (E5 hu (pv 1) (pv 6) (Z0 hu (pv 1) (pv 5) (fun _ _=>rfl)) rfl))))))))
   (G5 (R4 (pv 1)))))),?_⟩
  refine⟨_,rfl,a,ps,rfl,hpf,hfit,hnet,fun f mkv H1 s1 gf hf1 hmk=>?_⟩
  refine⟨_,rfl,a,ps,rfl,s1.partsF hpf,hfit,hnet,fun on lkv H2 s2 gon hon hlk=>?_⟩
  have hfo:f≠on:=fun z=>by rw[z,gon]at hf1;cases hf1
  have gonH:H on=none:=s1.free gon
  have s02:=s1.trans s2
  have fi2:FI (R5 (G7 ps)) (O3 (G7 ps)) H2 mkv:=(b4d hnet hmk).mono s2.tups
  generalize R5 (G7 ps)=mls at*
  generalize O3 (G7 ps)=ls at*
  have hlkl:lkv.length=ls.length:=Paired.length hlk
  refine⟨_,rfl,on,lkv,rfl,hon,fun ob vs hvs=>?_⟩
  have hvl:vs.length=lkv.length:=Paired.length hvs
  have T3:J9 H2 (upd H2 on (.frz ob (.dT lkv))):=J9.frz hon
  have s3:G6 H (upd H2 on (.frz ob (.dT lkv))):=s02.put gonH
  have hf3:upd H2 on (.frz ob (.dT lkv)) f=some (.dT mkv):=by rw[G8 hfo];exact s2 _ _ hf1
  have hon3:upd H2 on (.frz ob (.dT lkv)) on=some (.frz ob (.dT lkv)):=G1
  have fi3:=fi2.mono T3
  have hlk3:Paired (a2v (upd H2 on (.frz ob (.dT lkv)))) lkv ls:=Paired.mapP hlk fun _ _ z=>z.mono T3
  have hvs3:Paired (a2X (upd H2 on (.frz ob (.dT lkv)))) vs lkv:=Paired.mapP hvs fun _ _⟨b,e,hb⟩=>⟨b,e,T3 _ _ hb⟩
  generalize upd H2 on (.frz ob (.dT lkv))=H3 at T3 s3 hf3 hon3 fi3 hlk3 hvs3⊢
  refine a7o (d:=on) (o:=ob) (u:= .dT lkv) (ks:=vs) (fun i σ H4=>∃(kvs:List (List Key×V))(v3 v4 v5 v6:Option V),σ=[some (.ref a),some (.ref f),some (.ref on),v3,v4,v5,v6]/\G6 H H4/\H4 on=some (.frz ob (.dT lkv))/\J9 H3 H4/\H4 f=some (.dT kvs)/\FI mls ls H4 kvs/\∀j x,j < i->ls[j]?=some x->(Y6 kvs (U0 x.1)).isSome=true)
   ⟨mkv,none,none,none,none,rfl,s3,hon3,J9.refl H3,hf3,fi3,fun j x hj=>by omega⟩ (fun i σ H4 _⟨_,_,_,_,_,_,_,h,_⟩=>h) ?_ ?_
  ·rintro i y σ H4 hy ⟨kvs,v3,v4,v5,v6,rfl,s4,hon4,T4,hf4,fi4,hdone⟩
   obtain⟨kv0,hkv0,b0',eb0,hb0⟩:=Paired.get? hvs3 hy
   subst eb0
   obtain⟨x0,hx0,hx0k,_⟩:=Paired.get? hlk3 hkv0
   have hx0m:x0∈ls:=List.mem_of_getElem? hx0
   have hb04:H4 b0'=some (.tup [.str x0.1.1,.str x0.1.2]):=by
    have:=T4 _ _ hb0
    rw[hx0k]at this
    exact this
   refine⟨a0E,fun wy gwy=>?_⟩
   have s5:G6 H4 (upd H4 wy (.lst [])):=(G6.refl H4).new gwy
   have gwyH:H wy=none:=s4.free gwy
   have hfw:f≠wy:=fun z=>by rw[z,gwy]at hf4;cases hf4
   have how:on≠wy:=fun z=>by rw[z,gwy]at hon4;cases hon4
   refine⟨_,rfl,?_⟩
   apply a3M
   ·with_reducible_and_instances rfl
   refine a1J (fun σ H5=>∃(x:Kk)(b:Addr)(xs:List Kk)(ws:List V)(v3 v6:Option V),σ=[some (.ref a),some (.ref f),some (.ref on),v3,some (.ref wy),some (.ref b),v6]/\G6 H H5/\H5 on=some (.frz ob (.dT lkv))/\J9 H3 H5/\H5 f=some (.dT kvs)/\FI mls ls H5 kvs/\H5 b=some (.tup [.str x.1,.str x.2])/\(x∈mls.map (·.1)\/x∈ls.map (·.1))/\H5 wy=some (.lst ws)/\Paired (a7z H5) ws xs/\(∀y∈xs,y∈ls.map (·.1)/\r x < r y/\∀p,Mk mls ls x p->Mk mls ls y p)/\xs.Nodup/\(x=x0.1\/x0.1∈xs)) (fun σ H5=>muM r 5 σ H5)
    ⟨x0.1,b0',[],[],_,_,rfl,s4.trans s5,s5 _ _ hon4,T4.trans s5.tups,s5 _ _ hf4,fi4.mono s5.tups,s5 _ _ hb04,.inr (List.mem_map_of_mem (f:=(·.1)) hx0m),G1,.nil,fun y hy=>by simp at hy,by simp,.inl rfl⟩ ?_ ?_
   ·rintro σ H5 ⟨x,b,xs,ws,w3,w6,rfl,s6,hon5,T5,hf5,fi5,hb5,hxk,hwy5,hws,hxs,hxn,hst⟩
    refine⟨_,rfl,_,rfl,f,_,rfl,F5.t (k:=U0 x) hf5 hb5,_,rfl,?_⟩
    cases e:Y6 kvs (U0 x)with
    | none=>
     refine B9 ?_
     have hxl:x∈ls.map (·.1):=by
      rcases hxk with z | z
      ·have:=fi5.has x z
       rw[e]at this
       cases this
      ·exact z
     obtain⟨yx,hyx,eyx⟩:=List.mem_map.mp hxl
     obtain⟨kvx,⟨_,t',e1,e2⟩,e3⟩:=a3n (F:=a2v H3) (fun _ _ h=>h.1) hlk3 hlkn hyx
     rw[eyx]at e3
     have hyx':(x,yx.2)∈ls:=by rw[<-eyx];exact hyx
     have hlt:r yx.2 < r x:=hrk _ hyx'
     have hwl:ws.length<=6720:=by
      rw[Paired.length hws]
      have h1:=B1 xs (ls.map (·.1)) hxn fun y hy=>(hxs y hy).1
      rw[List.length_map]at h1
      omega
     refine⟨_,rfl,.inl ⟨rfl,_,SqL.of hwy5⟩,_,rfl,wy,_,_,rfl,rfl,hwy5,szK (by omega),?_⟩
     have T6:J9 H5 (upd H5 wy (.lst (ws++[.ref b]))):=J9.lst hwy5
     have hon6:upd H5 wy (.lst (ws++[.ref b])) on=some (.frz ob (.dT lkv)):=by rw[G8 how];exact hon5
     have hb6:=T6 _ _ hb5
     have hget:F5 (upd H5 wy (.lst (ws++[.ref b]))) on (.ref b) (some (.ref t')):= .inr ⟨lkv,U0 x,b,.inr ⟨ob,hon6⟩,rfl,hb6,by rw[e3,e1]⟩
     refine⟨_,rfl,_,rfl,on,_,rfl,hget,?_⟩
     have ht6:=T6 _ _ (T5 _ _ e2)
     refine⟨⟨yx.2,t',xs++[x],ws++[.ref b],_,_,rfl,s6.put gwyH,hon6,T5.trans T6,by rw[G8 hfw];exact hf5,fi5.mono T6,ht6,htgt hyx,G1,Paired.snoc (Paired.mapP hws fun _ _ z=>z.mono T6) ⟨b,rfl,hb6⟩,fun y hy=>?_,?_,?_⟩,?_⟩
     ·rcases List.mem_append.mp hy with z | z
      ·obtain⟨h1,h2,h3⟩:=hxs y z
       exact⟨h1,by omega,fun p hp=>h3 p (.step hyx' hp)⟩
      ·rw[List.mem_singleton.mp z]
       exact⟨hxl,hlt,fun p hp=> .step hyx' hp⟩
     ·refine List.nodup_append.mpr ⟨hxn,by simp,fun y hy z hz w=>?_⟩
      rw[List.mem_singleton.mp hz]at w
      have:=(hxs y hy).2.1
      rw[w]at this
      omega
     ·rcases hst with z | z
      ·rw[<-z];exact .inr (List.mem_append_right _ List.mem_cons_self)
      ·exact .inr (List.mem_append_left _ z)
     ·show muM r 5 [some (V.ref a),some (.ref f),some (.ref on),w3,some (.ref wy),some (.ref t'),w6] _ < muM r 5 [some (V.ref a),some (.ref f),some (.ref on),w3,some (.ref wy),some (.ref b),w6] H5
      have m1:muM r 5 [some (V.ref a),some (.ref f),some (.ref on),w3,some (.ref wy),some (.ref t'),w6] (upd H5 wy (.lst (ws++[.ref b])))=r yx.2:=by
       unfold muM
       simp only[List.getElem?_cons_succ,List.getElem?_cons_zero]
       rw[ht6]
      have m2:muM r 5 [some (V.ref a),some (.ref f),some (.ref on),w3,some (.ref wy),some (.ref b),w6] H5=r x:=by
       unfold muM
       simp only[List.getElem?_cons_succ,List.getElem?_cons_zero]
       rw[hb5]
      rw[m1,m2]
      exact hlt
    | some v=>
     refine F6 ?_
     obtain⟨t,p,ev,ht,hmk'⟩:=fi5.val x v e
     subst ev
     refine⟨_,rfl,wy,rfl,⟨_,SqL.of hwy5⟩,a2k (K:=K) (a:=wy) (xs:=ws) (fun j σ H6=>∃(kv:List (List Key×V))(v6:Option V),σ=[some (.ref a),some (.ref f),some (.ref on),w3,some (.ref wy),some (.ref b),v6]/\G6 H H6/\H6 on=some (.frz ob (.dT lkv))/\J9 H5 H6/\H6 f=some (.dT kv)/\H6 wy=some (.lst ws)/\FI mls ls H6 kv/\Y6 kv (U0 x)=some (.ref t)/\(∀y,(Y6 kvs (U0 y)).isSome=true->(Y6 kv (U0 y)).isSome=true)/\∀y∈xs.take j,(Y6 kv (U0 y)).isSome=true)
      ⟨kvs,_,rfl,s6,hon5,J9.refl H5,hf5,hwy5,fi5,e,fun y hy=>hy,fun y hy=>by simp at hy⟩ (fun j σ H6 _⟨_,_,_,_,_,_,_,h,_⟩=>SqL.of h) ?_ ?_⟩
     ·rintro j y σ H6 hy6 ⟨kv,u6,rfl,s7,hon6,T6,hf6,hwy6,fi6,hvx,hup,htk⟩
      obtain⟨z,hz,bz,ez,hbz⟩:=Paired.get? hws hy6
      subst ez
      have hzm:=List.mem_of_getElem? hz
      obtain⟨hz1,_,hz3⟩:=hxs z hzm
      have hkl:=fi6.len
      have hget:F5 H6 f (.ref b) (some (.ref t)):=by
       have h1:=F5.t (k:=U0 x) hf6 (T6 _ _ hb5)
       rw[hvx]at h1
       exact h1
      refine⟨_,rfl,_,rfl,f,_,rfl,hget,_,rfl,_,rfl,f,_,rfl,a0C.t (k:=U0 z) hf6 (T6 _ _ hbz) (szK (by omega)),?_⟩
      have T7:=J9.dT (kvs':=O1 kv (U0 z) (.ref t)) hf6
      refine⟨O1 kv (U0 z) (.ref t),_,rfl,s7.put gf,by rw[G8 hfo.symm];exact hon6,T6.trans T7,G1,by rw[G8 hfw.symm];exact hwy6,(fi6.put (List.mem_append_right _ hz1) (T6 _ _ ht) (hz3 p hmk')).mono T7,?_,fun y hy=>?_,fun y hy=>?_⟩
      ·rw[O9]
       split
       ·rfl
       ·exact hvx
      ·rw[O9]
       split
       ·rfl
       ·exact hup y hy
      ·rw[J2 hz]at hy
       rw[O9]
       rcases List.mem_append.mp hy with w | w
       ·split
        ·rfl
        ·exact htk y w
       ·rw[List.mem_singleton.mp w,if_pos rfl]
        rfl
     ·rintro σ H6 ⟨kv,u6,rfl,s7,hon6,T6,hf6,hwy6,fi6,hvx,hup,htk⟩
      rw[Paired.length hws,List.take_length]at htk
      refine⟨kv,_,_,_,_,rfl,s7,hon6,T5.trans T6,hf6,fi6,fun j y hj hy'=>?_⟩
      by_cases hji:j=i
      ·subst hji
       rw[hx0]at hy'
       cases hy'
       rcases hst with z | z
       ·rw[<-z,hvx];rfl
       ·exact htk _ z
      ·exact hup _ (hdone j y (by omega) hy')
   ·rintro σ H5 Q1 Q2 hQ ⟨v,e,v2,e2,a2,o,e7,hg,c,e8,hq⟩
    exact⟨v,e,v2,e2,a2,o,e7,hg,c,e8,hQ _ _ hq⟩
  ·rintro σ H4 ⟨kvs,v3,v4,v5,v6,rfl,s4,hon4,T4,hf4,fi4,hdone⟩
   refine⟨_,rfl,q f kvs H4 s4 gf hf4 fi4 fun x hx=>?_⟩
   obtain⟨y,hy,ey⟩:=List.mem_map.mp hx
   obtain⟨j,hj⟩:=List.getElem?_of_mem hy
   have hjl:=(List.getElem?_eq_some_iff.mp hj).1
   rw[<-ey]
   exact hdone j y (by omega) hj
noncomputable def nt (j:Nat):Str:=Str.ofString (toString (j:Int))
theorem b4k{i j:Nat}(hi:i < 100000)(hj:j < 100000)(h:nt i=nt j):i=j:=by
 have b:∀n:Nat,n < 100000->((n:Int)) < 10 ^ 60:=fun n hn=>Int.lt_of_lt_of_le (show(n:Int) < 100000 by omega) (by decide)
 obtain⟨h1,_⟩:=a3y (n:=(i:Int)) (by omega) (b i hi)
 obtain⟨h2,_⟩:=a3y (n:=(j:Int)) (by omega) (b j hj)
 have h3:(Nat.toDigits 10 (i:Int).toNat).map Char.toNat=(Nat.toDigits 10 (j:Int).toNat).map Char.toNat:=by
  rw[<-h1,<-h2]
  exact congrArg (fun x:Str=>x.cps.toList) h
 have h4:Nat.toDigits 10 (i:Int).toNat=Nat.toDigits 10 (j:Int).toNat:=by
  refine List.map_inj_right (fun a b e=>?_) |>.mp h3
  exact Char.toNat_inj.mp e
 have h5:=congrArg (fun l=>Nat.ofDigitChars 10 l 0) h4
 simp only[Nat.ofDigitChars_ten_toDigits,Int.toNat_natCast]at h5
 exact h5
theorem b2o(j:Nat)(hj:j < 100000):1<=(nt j).length/\(nt j).length<=60:=by
 obtain⟨h1,h2⟩:=a3y (n:=(j:Int)) (by omega) (Int.lt_of_lt_of_le (show(j:Int) < 100000 by omega) (by decide))
 have e:(nt j).length=(Nat.toDigits 10 (j:Int).toNat).length:=by
  have:=congrArg List.length h1
  rw[List.length_map,Array.length_toList]at this
  exact this
 rw[e]
 refine⟨?_,h2⟩
 have:Nat.toDigits 10 (j:Int).toNat≠[]:=Nat.toDigits_ne_nil
 exact List.length_pos_iff.mpr this
noncomputable def muN (σ:L2.St):Nat:=match σ[2]? with
 | some (some (V.int n))=>(6000 - n).toNat
 | _=>0
noncomputable def a8N:Sp:=fun vs H Q _=>∃(own:Str)(d:Addr)(kvs:List (Key×V)),vs=[.str own,.ref d]/\H d=some (.dK kvs)/\kvs.length<=5000/\own.length<=100/\∀k:Nat,2<=k->k<=5010->Y6 kvs (Sum.inr (own++nt k))=none->(∀j,2<=j->j < k->(Y6 kvs (Sum.inr (own++nt j))).isSome=true)->Q (.str (own++nt k)) H
theorem few{own:Str}{kvs:List (Key×V)}{n:Nat}(hn:n<=6000)(h:∀j,2<=j->j < n->(Y6 kvs (Sum.inr (own++nt j))).isSome=true):n<=kvs.length+2:=by
 have h1:=B1 ((List.range (n - 2)).map fun i=>(Sum.inr (own++nt (i+2)):Key)) (kvs.map (·.1)) ?_ ?_
 ·rw[List.length_map,List.length_map,List.length_range]at h1
  omega
 ·rw[List.nodup_iff_pairwise_ne,List.pairwise_map]
  refine List.Pairwise.imp_of_mem (fun{i j}hi hj hne z=>hne ?_) List.nodup_range
  have h1:=List.mem_range.mp hi
  have h2:=List.mem_range.mp hj
  have:=b4k (by omega) (by omega) (a2w (Sum.inr.inj z))
  omega
 ·intro x hx
  obtain⟨i,hi,rfl⟩:=List.mem_map.mp hx
  have h2:=List.mem_range.mp hi
  have h3:=h (i+2) (by omega) (by omega)
  cases e:Y6 kvs (Sum.inr (own++nt (i+2)))with
  | none=>rw[e]at h3;cases h3
  | some v=>exact a9g e
theorem a7s(T:Txt K mg):L2.Cl P w K mg base 1 "numbered" ["own","used"] a8N:=by
 refine Cl.of T.d_numbered a2B (fun vs H Q E h=>?_) (fun _ _ _ _ _ _ us hl=>by obtain⟨a,b,rfl⟩:=a3F hl;rfl) (fun fa cdv A outer s H vs Q E hr h=>?_)
 ·obtain⟨own,d,kvs,rfl,_⟩:=h
  rfl
 ·obtain⟨own,d,kvs,rfl,hd,hkl,hol,q⟩:=h
  have hu:=D4 hr
  refine⟨_,(G3 (I9 (i:=2) a2B.nd rfl (Or.inl rfl) G2)
   (G3 (a1c PassesOwn.never (a2m (a8G hu (J1 B2 (pv 0) (U6 a0P (by rfl) T.n_str boot_str (G0 (pv 2) G4))) (pv 1)))
    (G5 (b5c (i:=2) a2B.nd rfl (Or.inl rfl) G2 b4K)))
   (G5 (R4 (J1 B2 (pv 0) (U6 a0P (by rfl) T.n_str boot_str (G0 (pv 2) G4))))))),?_⟩
  have hlog:∀n:Nat,n<=6000->((n:Int)).natAbs.log2 < 1920:=fun n hn=>by
   have h1:((n:Int)).natAbs=n:=Int.natAbs_natCast n
   rw[h1]
   by_cases hz:n=0
   ·subst hz;decide
   ·have:n < 2 ^ 13:=by omega
    have:=(Nat.log2_lt hz).mpr this
    omega
  have hsz:∀n:Nat,n<=6000->own.length+(nt n).length<=sizeLine:=fun n hn=>by
   have:=(b2o n (by omega)).2
   exact Nat.le_of_lt (J6 (by omega))
  refine a1J (fun σ H2=>∃n:Nat,σ=[some (.str own),some (.ref d),some (.int (n:Int))]/\H2=H/\2<=n/\n<=5010/\∀j,2<=j->j < n->(Y6 kvs (Sum.inr (own++nt j))).isSome=true) (fun σ _=>muN σ) ⟨2,rfl,rfl,by omega,by omega,fun j h1 h2=>by omega⟩ ?_ ?_
  ·rintro σ H2 ⟨n,rfl,rfl,hn2,hn5,hall⟩
   refine⟨_,rfl,_,rfl,_,rfl,hlog n (by omega),_,_,rfl,rfl,hsz n (by omega),_,rfl,d,_,rfl,F5.k (k:=Sum.inr (own++nt n)) hd,_,rfl,?_⟩
   cases e:Y6 kvs (Sum.inr (own++nt n))with
   | none=>
    refine F6 ?_
    refine⟨_,rfl,_,rfl,_,rfl,hlog n (by omega),_,_,rfl,rfl,hsz n (by omega),?_⟩
    exact q n hn2 hn5 e hall
   | some v=>
    refine B9 ?_
    have hall':∀j,2<=j->j < n+1->(Y6 kvs (Sum.inr (own++nt j))).isSome=true:=fun j h1 h2=>by
     by_cases hj:j=n
     ·subst hj;rw[e];rfl
     ·exact hall j h1 (by omega)
    have hf:=few (n:=n+1) (by omega) hall'
    refine⟨_,rfl,_,_,rfl,rfl,?_⟩
    refine⟨⟨n+1,?_,rfl,by omega,by omega,hall'⟩,?_⟩
    ·show [some (V.str own),some (.ref d),some (.int ((n:Int)+1))]=_
     rw[show((n:Int)+1)=((n+1:Nat):Int)by omega]
    ·show muN [some (V.str own),some (.ref d),some (.int ((n:Int)+1))] < muN [some (V.str own),some (.ref d),some (.int (n:Int))]
     simp only[muN,List.getElem?_cons_succ,List.getElem?_cons_zero]
     omega
  ·rintro σ H2 Q1 Q2 hQ ⟨v,e,v2,e2,i,e3,hl,a,b,e4,e5,hl2,v3,e6,a2,o,e7,hg,c,e8,hq⟩
   exact⟨v,e,v2,e2,i,e3,hl,a,b,e4,e5,hl2,v3,e6,a2,o,e7,hg,c,e8,hQ _ _ hq⟩
noncomputable abbrev Tr:=Str×Str×Str
noncomputable def W4 (ts:List Tr):List Str:=ts.map (·.2.2)
noncomputable def a4H (mdl:List Str) (ts:List Tr):Prop:=∀(i:Nat)(t:Tr),ts[i]?=some t->(t.2.1∉W4 (ts.take i)->t.2.2=t.2.1)/\(t.2.1∈W4 (ts.take i)->∃k,2<=k/\k<=5010/\t.2.2=t.2.1++nt k/\t.2.2∉W4 (ts.take i)/\t.2.2∉mdl/\∀j,2<=j->j < k->(t.2.1++nt j∈W4 (ts.take i)\/t.2.1++nt j∈mdl))
theorem a4H.snoc{mdl:List Str}{ts:List Tr}{t:Tr}(h:a4H mdl ts)(h1:t.2.1∉W4 ts->t.2.2=t.2.1)(h2:t.2.1∈W4 ts->∃k,2<=k/\k<=5010/\t.2.2=t.2.1++nt k/\t.2.2∉W4 ts/\t.2.2∉mdl/\∀j,2<=j->j < k->(t.2.1++nt j∈W4 ts\/t.2.1++nt j∈mdl)):a4H mdl (ts++[t]):=fun i t' e=>by
 by_cases hi:i < ts.length
 ·rw[List.getElem?_append_left hi]at e
  rw[List.take_append_of_le_length (Nat.le_of_lt hi)]
  exact h i t' e
 ·rw[List.getElem?_append_right (by omega)]at e
  have h0:i - ts.length=0:=by
   have:=(List.getElem?_eq_some_iff.mp e).1
   simp only[List.length_singleton]at this
   omega
  rw[h0]at e
  simp only[List.getElem?_cons_zero,Option.some.injEq]at e
  subst e
  have hi':i=ts.length:=by omega
  subst hi'
  rw[List.take_left']
  ·exact⟨h1,h2⟩
  ·rfl
theorem b3X{H:Hp}:∀{vs:List V}{kvs:List (List Key×V)}{ks:List (Str×Str)},Paired (a2X H) vs kvs->kvs.map (·.1)=ks.map U0->Paired (a7z H) vs ks
 | _,_,[],.nil,_=> .nil
 | _,_,_::_,.nil,h=>by simp at h
 | _,_,[],.cons _ _,h=>by simp at h
 | _,_,k::ks,.cons (a:=v) (b:=kv) ⟨b,e,hb⟩ hr,h=>by
  simp only[List.map_cons,List.cons.injEq]at h
  refine .cons ⟨b,e,?_⟩ (b3X hr h.2)
  rw[hb,h.1]
  rfl
noncomputable def b2v (H:Hp) (v:V) (t:Tr):Prop:=∃c,v= .ref c/\H c=some (.tup [.str t.1,.str t.2.1,.str t.2.2])
theorem b2v.mono{H H':Hp}(s:J9 H H'){v:V}{t:Tr}(h:b2v H v t):b2v H' v t:=by
 obtain⟨c,e,h⟩:=h
 exact⟨c,e,s _ _ h⟩
noncomputable def b5U:Sp:=fun vs H Q _=>∃(a:Addr)(ps:List Pt),vs=[.ref a]/\F3 H a ps/\a0c ps/\(W1 (G7 ps)).Nodup/\(∀k∈W1 (G7 ps),k.2.length<=100)/\∀(p:Addr)(vs:List V)(ts:List Tr)(H':Hp),G6 H H'->H' p=some (.tup vs)->Paired (b2v H') vs ts->ts.map (fun t=>(t.1,t.2.1))=W1 (G7 ps)->a4H ((W1 (G7 ps)).map (·.2)) ts->Q (.ref p) H'
theorem a5r(kvs:List (Key×V))(k:Key)(v:V):(O1 kvs k v).length<=kvs.length+1:=by
 unfold O1
 split
 ·rw[List.length_map];omega
 ·rw[List.length_append];simp
theorem b4J(T:Txt K mg):L2.Cl P w K mg base 3 "new_names" ["parts"] b5U:=by
 have C_made:=b2q (P:=P) (w:=w) (base:=base) T
 have C_numbered:=a7s (P:=P) (w:=w) (base:=base) T
 refine Cl.of T.d_new_names E3 (fun vs H Q E h=>?_) (fun _ _ _ _ _ _ us hl=>by obtain⟨a,rfl⟩:=a2V hl;rfl) (fun fa cdv A outer s H vs Q E hr h=>?_)
 ·obtain⟨a,ps,rfl,_⟩:=h
  rfl
 ·obtain⟨a,ps,rfl,hpf,hfit,hnd,hlen,q⟩:=h
  have hu:=D4 hr
  refine⟨_,(G3 (I9 (i:=1) E3.nd rfl (Or.inl rfl) (U6 (a8I rfl) (by rfl) T.n_list boot_list (G0 (U9 C_made hr (by rfl) (G0 (pv 0) G4)) G4)))
   (G3 (I9 (i:=2) E3.nd rfl (Or.inl rfl) a2z)
   (G3 (Y0 PassesOwn.never rfl (a1T (pv 1)) (E2 rfl (J0 (I0 (i:=3) E3.nd rfl (Or.inl rfl)) (J0 (I0 (i:=4) E3.nd rfl (Or.inl rfl)) Y1)))
    (G5 (E5 hu (pv 2) (pv 4) a0O rfl)))
   (G3 (I9 (i:=5) E3.nd rfl (Or.inl rfl) (Y5 G4))
   (G3 (Y0 PassesOwn.never rfl (a1T (pv 1)) (E2 rfl (J0 (I0 (i:=3) E3.nd rfl (Or.inl rfl)) (J0 (I0 (i:=4) E3.nd rfl (Or.inl rfl)) Y1)))
    (G3 (I9 (i:=6) E3.nd rfl (Or.inl rfl) (b1p (a0s (Z0 hu (pv 2) (pv 4) (fun _ _=>rfl))) (U9 C_numbered hr (by rfl) (G0 (pv 4) (G0 (pv 2) G4))) (pv 4)))
    (G3 (E5 hu (pv 2) (pv 6) a0O rfl)
    (G5 (Z1 (D7 PySem.F.plainAttrs_list PySem.F.slot_list_append PySem.F.type_list_append Z5 (pv 5) (G0 (R9 (G0 (pv 3) (G0 (pv 4) (G0 (pv 6) G4)))) G4)))))))
   (G5 (R4 (U6 Y2 (by rfl) T.n_tuple boot_tuple (G0 (pv 5) G4))))))))),?_⟩
  refine⟨_,rfl,a,ps,rfl,hpf,hfit,hnd,fun d kvs H1 s1 hd hk=>?_⟩
  refine⟨d,kvs,rfl,.inl hd,fun l vs gl hvs=>?_⟩
  have how:=b3X hvs hk
  have hks:(W1 (G7 ps)).length<=960:=by
   have h0:(W1 (G7 ps)).length<=(G7 ps).length:=List.length_filterMap_le _ _
   have h1:=a0V hfit.rows
   have:=hfit.hi
   omega
  generalize W1 (G7 ps)=ks at how hks hlen q hnd
  have hvl:vs.length=ks.length:=Paired.length how
  have s2:G6 H1 (upd H1 l (.lst vs)):=(G6.refl H1).new gl
  have hl2:upd H1 l (.lst vs) l=some (.lst vs):=G1
  have how2:Paired (a7z (upd H1 l (.lst vs))) vs ks:=Paired.mapP how fun _ _⟨b,e,hb⟩=>⟨b,e,s2 _ _ hb⟩
  have s02:=s1.trans s2
  generalize upd H1 l (.lst vs)=H2 at s2 hl2 how2 s02⊢
  intro u gu
  have s3:G6 H2 (upd H2 u (.dK [])):=(G6.refl H2).new gu
  refine⟨_,rfl,l,rfl,⟨_,SqL.of (s3 _ _ hl2)⟩,a2k (K:=K) (a:=l) (xs:=vs) (fun i σ H3=>∃(kv:List (Key×V))(v3 v4:Option V),σ=[some (.ref a),some (.ref l),some (.ref u),v3,v4,none,none]/\G6 H2 H3/\H3 u=some (.dK kv)/\kv.length<=i/\∀x,Y6 kv (Sum.inr x)=if x∈(ks.take i).map (·.2)then some (.bl false)else none)
   ⟨[],none,none,rfl,s3,G1,by simp,fun x=>by simp[b2u]⟩ (fun i σ H3 _⟨_,_,_,_,s4,_⟩=>SqL.of (s4 _ _ hl2)) ?_ ?_⟩
  ·rintro i y σ H3 hy ⟨kv,v3,v4,rfl,s4,hu4,hkl,hval⟩
   obtain⟨k,hki,b,ey,hb⟩:=Paired.get? how2 hy
   subst ey
   have hi:i < ks.length:=(List.getElem?_eq_some_iff.mp hki).1
   refine⟨b,_,rfl,SqT.of (s4 _ _ hb),rfl,_,_,rfl,_,_,rfl,rfl,?_⟩
   refine⟨_,rfl,_,rfl,u,_,rfl,a0C.k (k:=Sum.inr k.2) hu4 (J6 (by omega)),?_⟩
   refine⟨_,_,_,rfl,s4.put gu,G1,?_,fun x=>?_⟩
   ·have:=a5r kv (Sum.inr k.2) (.bl false)
    omega
   ·rw[O9,hval x,J2 hki,List.map_append]
    by_cases hx:x=k.2
    ·subst hx
     rw[if_pos rfl,if_pos (by simp)]
    ·rw[if_neg (fun z=>hx (Sum.inr.inj z))]
     by_cases hm:x∈(ks.take i).map (·.2)
     ·rw[if_pos hm,if_pos (List.mem_append_left _ hm)]
     ·rw[if_neg hm,if_neg]
      intro z
      rcases List.mem_append.mp z with z | z
      ·exact hm z
      ·exact hx (by simpa using z)
  ·rintro σ H3 ⟨kv,v3,v4,rfl,s4,hu4,hkl,hval⟩
   rw[hvl,List.take_length]at hval
   refine⟨a0E,fun f gf=>?_⟩
   have s5:G6 H2 (upd H3 f (.lst [])):=s4.new gf
   have hfu:u≠f:=fun z=>by rw[z,gf]at hu4;cases hu4
   have gf2:H2 f=none:=s4.free gf
   refine⟨_,rfl,l,rfl,⟨_,SqL.of (s5 _ _ hl2)⟩,a2k (K:=K) (a:=l) (xs:=vs) (fun i σ H4=>∃(kv:List (Key×V))(ts:List Tr)(us:List V)(v3 v4 v6:Option V),σ=[some (.ref a),some (.ref l),some (.ref u),v3,v4,some (.ref f),v6]/\G6 H2 H4/\H4 u=some (.dK kv)/\kv.length<=ks.length+i/\(∀x,Y6 kv (Sum.inr x)=if x∈W4 ts then some (.bl true)else if x∈ks.map (·.2)then some (.bl false)else none)/\H4 f=some (.lst us)/\Paired (b2v H4) us ts/\ts.map (fun t=>(t.1,t.2.1))=ks.take i/\a4H (ks.map (·.2)) ts)
    ⟨kv,[],[],_,_,none,rfl,s5,U4 hu4 gf,by omega,fun x=>by rw[hval x];simp[W4],G1,.nil,rfl,fun i t e=>by simp at e⟩ (fun i σ H4 _⟨_,_,_,_,_,_,_,s6,_⟩=>SqL.of (s6 _ _ hl2)) ?_ ?_⟩
   ·rintro i y σ H4 hy ⟨kv4,ts,us,w3,w4,w6,rfl,s6,hu6,hkl6,hval6,hf6,hus,hts,hnn⟩
    obtain⟨k,hki,b,ey,hb⟩:=Paired.get? how2 hy
    subst ey
    have hi:i < ks.length:=(List.getElem?_eq_some_iff.mp hki).1
    have hkm:=List.mem_of_getElem? hki
    have hkmd:k.2∈ks.map (·.2):=List.mem_map_of_mem (f:=(·.2)) hkm
    have htl:ts.length=i:=by
     have:=congrArg List.length hts
     rw[List.length_map,List.length_take]at this
     omega
    have hul:us.length=i:=by rw[Paired.length hus,htl]
    refine⟨b,_,rfl,SqT.of (s6 _ _ hb),rfl,_,_,rfl,_,_,rfl,rfl,?_⟩
    have hget:=F5.k (k:=Sum.inr k.2) hu6
    rw[hval6 k.2]at hget
    by_cases hm:k.2∈W4 ts
    ·rw[if_pos hm]at hget
     refine⟨_,rfl,_,rfl,u,_,rfl,hget,_,rfl,B9 ?_⟩
     refine⟨_,rfl,_,rfl,k.2,u,kv4,rfl,hu6,by omega,hlen k hkm,fun kk h2k h5k hnone hall=>?_⟩
     have c1:k.2∉W4 ts->k.2++nt kk=k.2:=fun z=>absurd hm z
     have c2:k.2∈W4 ts->∃k',2<=k'/\k'<=5010/\k.2++nt kk=k.2++nt k'/\k.2++nt kk∉W4 ts/\k.2++nt kk∉ks.map (·.2)/\∀j,2<=j->j < k'->(k.2++nt j∈W4 ts\/k.2++nt j∈ks.map (·.2)):=fun _=>by
      rw[hval6]at hnone
      refine⟨kk,h2k,h5k,rfl,fun z=>?_,fun z=>?_,fun j hj1 hj2=>?_⟩
      ·rw[if_pos z]at hnone;cases hnone
      ·by_cases y:k.2++nt kk∈W4 ts
       ·rw[if_pos y]at hnone;cases hnone
       ·rw[if_neg y,if_pos z]at hnone;cases hnone
      ·have h3:=hall j hj1 hj2
       rw[hval6]at h3
       by_cases y:k.2++nt j∈W4 ts
       ·exact .inl y
       ·rw[if_neg y]at h3
        by_cases z:k.2++nt j∈ks.map (·.2)
        ·exact .inr z
        ·rw[if_neg z]at h3;cases h3
     refine⟨_,rfl,_,rfl,u,_,rfl,a0C.k (k:=Sum.inr (k.2++nt kk)) hu6 ((by have:sizeLine=16777216:=sizeLine_eq;omega)),?_⟩
     have s7:G6 H2 (upd H4 u (.dK (O1 kv4 (Sum.inr (k.2++nt kk)) (.bl true)))):=s6.put gu
     have T7:J9 H4 (upd H4 u (.dK (O1 kv4 (Sum.inr (k.2++nt kk)) (.bl true)))):=J9.dK hu6
     have hf7:upd H4 u (.dK (O1 kv4 (Sum.inr (k.2++nt kk)) (.bl true))) f=some (.lst us):=by rw[G8 hfu.symm];exact hf6
     have hu7:upd H4 u (.dK (O1 kv4 (Sum.inr (k.2++nt kk)) (.bl true))) u=some (.dK (O1 kv4 (Sum.inr (k.2++nt kk)) (.bl true))):=G1
     generalize upd H4 u (.dK (O1 kv4 (Sum.inr (k.2++nt kk)) (.bl true)))=H7 at s7 T7 hf7 hu7⊢
     refine⟨_,rfl,.inl ⟨rfl,_,SqL.of hf7⟩,_,rfl,_,rfl,_,rfl,a0n,fun c gc=>?_⟩
     have s8:G6 H7 (upd H7 c (.tup [.str k.1,.str k.2,.str (k.2++nt kk)])):=(G6.refl H7).new gc
     refine⟨f,_,_,rfl,rfl,s8 _ _ hf7,J6 (by omega),?_⟩
     have T9:=s8.tups.trans (J9.lst (ys:=us++[.ref c]) (s8 _ _ hf7))
     have hcf:c≠f:=fun z=>by rw[z,hf7]at gc;cases gc
     refine⟨O1 kv4 (Sum.inr (k.2++nt kk)) (.bl true),ts++[(k.1,k.2,(k.2++nt kk))],us++[.ref c],_,_,_,rfl,(s7.trans s8).put gf2,by rw[G8 hfu];exact s8 _ _ hu7,?_,fun x=>?_,G1,Paired.snoc (Paired.mapP hus fun _ _ z=>z.mono (T7.trans T9)) ⟨c,rfl,by rw[G8 hcf,G1]⟩,?_,hnn.snoc c1 c2⟩
     ·have:=a5r kv4 (Sum.inr (k.2++nt kk)) (.bl true)
      omega
     ·rw[O9,hval6 x]
      have e:W4 (ts++[(k.1,k.2,(k.2++nt kk))])=W4 ts++[(k.2++nt kk)]:=by unfold W4;rw[List.map_append];rfl
      rw[e]
      by_cases hx:x=(k.2++nt kk)
      ·rw[if_pos (by rw[hx]),if_pos (by rw[hx];simp)]
      ·rw[if_neg (fun z=>hx (Sum.inr.inj z))]
       by_cases hm2:x∈W4 ts
       ·rw[if_pos hm2,if_pos (List.mem_append_left _ hm2)]
       ·rw[if_neg hm2,if_neg (c:=x∈W4 ts++[(k.2++nt kk)])]
        intro z
        rcases List.mem_append.mp z with z | z
        ·exact hm2 z
        ·exact hx (List.mem_singleton.mp z)
     ·rw[List.map_append,hts,J2 hki]
      rfl
    ·rw[if_neg hm,if_pos hkmd]at hget
     refine⟨_,rfl,_,rfl,u,_,rfl,hget,_,rfl,F6 ?_⟩
     refine⟨_,rfl,?_⟩
     have c1:k.2∉W4 ts->k.2=k.2:=fun _=>rfl
     have c2:k.2∈W4 ts->∃k',2<=k'/\k'<=5010/\k.2=k.2++nt k'/\k.2∉W4 ts/\k.2∉ks.map (·.2)/\∀j,2<=j->j < k'->(k.2++nt j∈W4 ts\/k.2++nt j∈ks.map (·.2)):=fun z=>absurd z hm
     refine⟨_,rfl,_,rfl,u,_,rfl,a0C.k (k:=Sum.inr k.2) hu6 ((by have:sizeLine=16777216:=sizeLine_eq;omega)),?_⟩
     have s7:G6 H2 (upd H4 u (.dK (O1 kv4 (Sum.inr k.2) (.bl true)))):=s6.put gu
     have T7:J9 H4 (upd H4 u (.dK (O1 kv4 (Sum.inr k.2) (.bl true)))):=J9.dK hu6
     have hf7:upd H4 u (.dK (O1 kv4 (Sum.inr k.2) (.bl true))) f=some (.lst us):=by rw[G8 hfu.symm];exact hf6
     have hu7:upd H4 u (.dK (O1 kv4 (Sum.inr k.2) (.bl true))) u=some (.dK (O1 kv4 (Sum.inr k.2) (.bl true))):=G1
     generalize upd H4 u (.dK (O1 kv4 (Sum.inr k.2) (.bl true)))=H7 at s7 T7 hf7 hu7⊢
     refine⟨_,rfl,.inl ⟨rfl,_,SqL.of hf7⟩,_,rfl,_,rfl,_,rfl,a0n,fun c gc=>?_⟩
     have s8:G6 H7 (upd H7 c (.tup [.str k.1,.str k.2,.str k.2])):=(G6.refl H7).new gc
     refine⟨f,_,_,rfl,rfl,s8 _ _ hf7,J6 (by omega),?_⟩
     have T9:=s8.tups.trans (J9.lst (ys:=us++[.ref c]) (s8 _ _ hf7))
     have hcf:c≠f:=fun z=>by rw[z,hf7]at gc;cases gc
     refine⟨O1 kv4 (Sum.inr k.2) (.bl true),ts++[(k.1,k.2,k.2)],us++[.ref c],_,_,_,rfl,(s7.trans s8).put gf2,by rw[G8 hfu];exact s8 _ _ hu7,?_,fun x=>?_,G1,Paired.snoc (Paired.mapP hus fun _ _ z=>z.mono (T7.trans T9)) ⟨c,rfl,by rw[G8 hcf,G1]⟩,?_,hnn.snoc c1 c2⟩
     ·have:=a5r kv4 (Sum.inr k.2) (.bl true)
      omega
     ·rw[O9,hval6 x]
      have e:W4 (ts++[(k.1,k.2,k.2)])=W4 ts++[k.2]:=by unfold W4;rw[List.map_append];rfl
      rw[e]
      by_cases hx:x=k.2
      ·rw[if_pos (by rw[hx]),if_pos (by rw[hx];simp)]
      ·rw[if_neg (fun z=>hx (Sum.inr.inj z))]
       by_cases hm2:x∈W4 ts
       ·rw[if_pos hm2,if_pos (List.mem_append_left _ hm2)]
       ·rw[if_neg hm2,if_neg (c:=x∈W4 ts++[k.2])]
        intro z
        rcases List.mem_append.mp z with z | z
        ·exact hm2 z
        ·exact hx (List.mem_singleton.mp z)
     ·rw[List.map_append,hts,J2 hki]
      rfl
   ·rintro σ H4 ⟨kv4,ts,us,w3,w4,w6,rfl,s6,hu6,hkl6,hval6,hf6,hus,hts,hnn⟩
    rw[hvl,List.take_length]at hts
    refine⟨_,rfl,f,_,rfl,.inl ⟨SqL.of hf6,fun p gp=>?_⟩⟩
    have s7:G6 H4 (upd H4 p (.tup us)):=(G6.refl H4).new gp
    exact q p us ts _ ((s02.trans s6).trans s7) G1 (Paired.mapP hus fun _ _ z=>z.mono s7.tups) hts hnn
noncomputable def b3O:Pr->Option Str
 | .own _ n _=>some n
 | _=>none
theorem b2V{nms owns:List Str}{pr:Pr}{rw:Rw}(h:a2c nms owns pr rw):B3 rw=b3O pr:=by
 cases pr with
 | own k n xs=>
  rcases h with⟨_,e⟩ | ⟨_,ts,e,_⟩
  ·rw[e];rfl
  ·rw[e];rfl
 | bring j ps xs=>obtain⟨nm,_,e⟩:=h;rw[e];rfl
 | give o g xs=>rw[show rw= .give o g from h];rfl
 | ask j xs=>obtain⟨nm,w,_,e,_⟩:=h;rw[e];rfl
 | sum k xs=>
  rcases h with⟨_,ts,e,_⟩ | ⟨_,ts,w,e,_⟩
  ·rw[e];rfl
  ·rw[e];rfl
theorem a7G{nms owns:List Str}:∀{rows:List Pr}{rws:List Rw},Paired (a2c nms owns) rows rws->rws.filterMap B3=rows.filterMap b3O
 | _,_,.nil=>rfl
 | _,_,.cons (a:=p) (b:=r) h t=>by
  have ih:=a7G t
  rw[List.filterMap_cons,List.filterMap_cons,b2V h,ih]
theorem a9y:∀rows:List Pr,(rows.filterMap b3O).Sublist (rows.flatMap a0N)
 | []=>by simp
 | p::r=>by
  have ih:=a9y r
  rw[List.flatMap_cons]
  cases p with
  | own k n xs=>
   show(n::r.filterMap b3O).Sublist ([n]++r.flatMap a0N)
   exact ih.cons_cons n
  | bring j ps xs=>exact ih.trans (List.sublist_append_right _ _)
  | give o g xs=>exact ih
  | ask j xs=>exact ih
  | sum k xs=>exact ih
theorem a6M{b sh:Int}(hb:0<=b){n:Nat}(hn:n<=24):(W9 b sh n).Nodup:=by
 unfold W9
 rw[List.nodup_iff_pairwise_ne,List.pairwise_map]
 refine List.Pairwise.imp_of_mem (fun{i j}hi hj hne h=>hne ?_) List.nodup_range
 have h1:=List.mem_range.mp hi
 have h2:=List.mem_range.mp hj
 have:=a4l hb (by omega) (by omega) (by omega) (by omega) h
 omega
theorem a7R(n:Str)(rs:List Rw):W1 (R1 n rs)=(rs.filterMap B3).map fun o=>(n,o):=by
 have:∀(rs:List Rw)(k:Nat),((rs.zipIdx k).map fun x=>((n,x.2,x.1):Pl)).filterMap (fun x=>(B3 x.2.2).map fun o=>(x.1,o))=(rs.filterMap B3).map fun o=>(n,o):=by
  intro rs
  induction rs with
  | nil=>intro k;rfl
  | cons r t ih=>
   intro k
   rw[List.zipIdx_cons,List.map_cons,List.filterMap_cons,List.filterMap_cons,ih (k+1)]
   cases B3 r with
   | none=>rfl
   | some o=>rfl
 exact this rs 0
theorem a8q(ps:List Pt):W1 (G7 ps)=ps.flatMap fun pt=>(pt.2.filterMap B3).map fun o=>(pt.1,o):=by
 induction ps with
 | nil=>rfl
 | cons pt r ih=>
  have e:G7 (pt::r)=R1 pt.1 pt.2++G7 r:=rfl
  rw[List.flatMap_cons,<-ih,<-a7R,e]
  unfold W1
  rw[List.filterMap_append]
theorem a5c:∀{ps:List Pt},(ps.map (·.1)).Nodup->(∀pt∈ps,(pt.2.filterMap B3).Nodup)->(ps.flatMap fun pt=>(pt.2.filterMap B3).map fun o=>(pt.1,o)).Nodup
 | [],_,_=>by simp
 | pt::r,hn,ho=>by
  rw[List.map_cons,List.nodup_cons]at hn
  rw[List.flatMap_cons]
  refine List.nodup_append.mpr ⟨?_,a5c hn.2 fun p hp=>ho p (List.mem_cons_of_mem _ hp),fun x hx y hy z=>?_⟩
  ·have h1:=ho pt List.mem_cons_self
   rw[List.nodup_iff_pairwise_ne]at h1⊢
   rw[List.pairwise_map]
   exact h1.imp fun hne z=>hne (Prod.mk.inj z).2
  ·obtain⟨o,_,e1⟩:=List.mem_map.mp hx
   obtain⟨p,hp,hy2⟩:=List.mem_flatMap.mp hy
   obtain⟨o2,_,e2⟩:=List.mem_map.mp hy2
   rw[<-e1,<-e2]at z
   have:pt.1=p.1:=(Prod.mk.inj z).1
   exact hn.1 (by rw[this];exact List.mem_map_of_mem (f:=(·.1)) hp)
theorem O8.keys{hs:List Pp}{b0 b1 b2:Int}{ps:List Pt}(d:O8 hs b0 b1 b2 ps):(W1 (G7 ps)).Nodup/\∀k∈W1 (G7 ps),k.2.length<=100:=by
 have part:∀pt∈ps,(pt.2.filterMap B3).Nodup/\∀o∈pt.2.filterMap B3,o.length<=100:=fun pt hpt=>by
  obtain⟨i,hi⟩:=List.getElem?_of_mem hpt
  obtain⟨pp,_,ok,_,h2⟩:=d.at hi
  obtain⟨n,hn,hn23⟩:=ok.n
  rw[a7G h2]
  have hsub:=a9y pp.rows
  have hmn:(pp.rows.flatMap a0N).Nodup:=ok.md.nodup_iff.mpr (by rw[hn];exact a6M d.r0.1 (by omega))
  refine⟨hsub.nodup hmn,fun o ho=>?_⟩
  have h3:=ok.md.mem_iff.mp (hsub.subset ho)
  rw[hn]at h3
  have h4:=(a4o d.r0.1 o h3).word.len
  omega
 rw[a8q]
 refine⟨a5c d.nodup fun pt hpt=>(part pt hpt).1,fun k hk=>?_⟩
 obtain⟨pt,hpt,h1⟩:=List.mem_flatMap.mp hk
 obtain⟨o,ho,e⟩:=List.mem_map.mp h1
 rw[<-e]
 exact(part pt hpt).2 o ho
noncomputable def brL (rs:List Rw):List Str:=rs.flatMap fun r=>(F4 r).map (·.2.2)
noncomputable def a4i (rs:List Rw):List Str:=rs.filterMap B3
theorem a6d{nms owns:List Str}{pr:Pr}{rw:Rw}(h:a2c nms owns pr rw):(a4i [rw]++brL [rw])=a0N pr/\(rw::[]).filterMap F9=([rw]).filterMap F9/\((F9 rw).map (·.2)).toList=a4A pr:=by
 cases pr with
 | own k n xs=>
  rcases h with⟨_,e⟩ | ⟨_,ts,e,_⟩<;>subst e<;>exact⟨rfl,rfl,rfl⟩
 | bring j ps xs=>
  obtain⟨nm,_,e⟩:=h
  subst e
  refine⟨?_,rfl,rfl⟩
  show []++(((ps.map fun q=>((nm,q):Str×Str×Str)).map (·.2.2))++[])=ps.map (·.2)
  rw[List.nil_append,List.append_nil,List.map_map]
  rfl
 | give o g xs=>rw[show rw= .give o g from h];exact⟨rfl,rfl,rfl⟩
 | ask j xs=>obtain⟨nm,w,_,e,_⟩:=h;subst e;exact⟨rfl,rfl,rfl⟩
 | sum k xs=>
  rcases h with⟨_,ts,e,_⟩ | ⟨_,ts,w,e,_⟩<;>subst e<;>exact⟨rfl,rfl,rfl⟩
theorem a3Q{nms owns:List Str}:∀{rows:List Pr}{rws:List Rw},Paired (a2c nms owns) rows rws->(a4i rws++brL rws).Perm (rows.flatMap a0N)
 | _,_,.nil=>List.Perm.refl _
 | _,_,.cons (a:=p) (b:=r) (l₁:=ps) (l₂:=rs) h t=>by
  have ih:=a3Q t
  have h1:=(a6d h).1
  have e1:a4i (r::rs)=a4i [r]++a4i rs:=by unfold a4i;rw[<-List.filterMap_append];rfl
  have e2:brL (r::rs)=brL [r]++brL rs:=by unfold brL;rw[<-List.flatMap_append];rfl
  rw[List.flatMap_cons,<-h1,e1,e2]
  refine List.Perm.trans ?_ (List.Perm.append_left _ ih)
  rw[List.append_assoc,List.append_assoc]
  refine List.Perm.append_left _ ?_
  exact List.perm_append_comm_assoc _ _ _
theorem a6i{nms owns:List Str}:∀{rows:List Pr}{rws:List Rw},Paired (a2c nms owns) rows rws->(rws.filterMap F9).map (·.2)=rows.flatMap a4A
 | _,_,.nil=>rfl
 | _,_,.cons (a:=p) (b:=r) h t=>by
  have ih:=a6i t
  have h1:=(a6d h).2.2
  rw[List.flatMap_cons,<-ih,<-h1,List.filterMap_cons]
  cases F9 r with
  | none=>rfl
  | some q=>rfl
theorem a0p{n:Str}{rs:List Rw}{x:Pl}:x∈R1 n rs↔x.1=n/\rs[x.2.1]?=some x.2.2:=by
 unfold R1
 rw[List.mem_map]
 constructor
 ·rintro⟨y,hy,e⟩
  have h1:=List.mem_zipIdx_iff_getElem?.mp hy
  rw[<-e]
  exact⟨rfl,h1⟩
 ·rintro⟨e1,e2⟩
  exact⟨(x.2.2,x.2.1),List.mem_zipIdx_iff_getElem?.mpr e2,by rw[<-e1]⟩
theorem a0r{ps:List Pt}{x:Pl}:x∈G7 ps↔∃rs,(x.1,rs)∈ps/\rs[x.2.1]?=some x.2.2:=by
 unfold G7
 rw[List.mem_flatMap]
 constructor
 ·rintro⟨pt,h1,h2⟩
  obtain⟨e1,e2⟩:=a0p.mp h2
  exact⟨pt.2,by rw[e1];exact h1,e2⟩
 ·rintro⟨rs,h1,h2⟩
  exact⟨_,h1,a0p.mpr ⟨rfl,h2⟩⟩
theorem a2a{α:Type}(f:Rw->List α)(ps:List Pt):((G7 ps).flatMap fun x=>(f x.2.2).map fun a=>(x.1,a))=ps.flatMap fun pt=>(pt.2.flatMap f).map fun a=>(pt.1,a):=by
 induction ps with
 | nil=>rfl
 | cons pt r ih=>
  have e:G7 (pt::r)=R1 pt.1 pt.2++G7 r:=rfl
  rw[e,List.flatMap_append,ih,List.flatMap_cons]
  congr 1
  have:∀(rs:List Rw)(k:Nat),(((rs.zipIdx k).map fun x=>((pt.1,x.2,x.1):Pl)).flatMap fun x=>(f x.2.2).map fun a=>(x.1,a))=(rs.flatMap f).map fun a=>(pt.1,a):=by
   intro rs
   induction rs with
   | nil=>intro k;rfl
   | cons r t ih=>intro k;rw[List.zipIdx_cons,List.map_cons,List.flatMap_cons,List.flatMap_cons,ih (k+1),List.map_append]
  exact this pt.2 0
theorem a1n{α:Type}{f:Pt->List α}:∀{ps:List Pt},(ps.map (·.1)).Nodup->(∀pt∈ps,(f pt).Nodup)->(ps.flatMap fun pt=>(f pt).map fun a=>(pt.1,a)).Nodup
 | [],_,_=>by simp
 | pt::r,hn,ho=>by
  rw[List.map_cons,List.nodup_cons]at hn
  rw[List.flatMap_cons]
  refine List.nodup_append.mpr ⟨?_,a1n hn.2 fun p hp=>ho p (List.mem_cons_of_mem _ hp),fun x hx y hy z=>?_⟩
  ·have h1:=ho pt List.mem_cons_self
   rw[List.nodup_iff_pairwise_ne]at h1⊢
   rw[List.pairwise_map]
   exact h1.imp fun hne z=>hne (Prod.mk.inj z).2
  ·obtain⟨o,_,e1⟩:=List.mem_map.mp hx
   obtain⟨p,hp,hy2⟩:=List.mem_flatMap.mp hy
   obtain⟨o2,_,e2⟩:=List.mem_map.mp hy2
   rw[<-e1,<-e2]at z
   have:pt.1=p.1:=(Prod.mk.inj z).1
   exact hn.1 (by rw[this];exact List.mem_map_of_mem (f:=(·.1)) hp)
theorem a4Z(ps:List Pt):(R5 (G7 ps)).map (·.1)=ps.flatMap fun pt=>(a4i pt.2).map fun a=>(pt.1,a):=by
 have h:=a2a (fun r=>(B3 r).toList) ps
 have e1:∀rs:List Rw,rs.flatMap (fun r=>(B3 r).toList)=a4i rs:=fun rs=>by
  unfold a4i
  induction rs with
  | nil=>rfl
  | cons r t ih=>
   rw[List.flatMap_cons,List.filterMap_cons,ih]
   cases B3 r<;>rfl
 simp only[e1]at h
 rw[<-h]
 unfold R5
 induction G7 ps with
 | nil=>rfl
 | cons x t ih=>
  rw[List.filterMap_cons,List.flatMap_cons,<-ih]
  cases B3 x.2.2<;>rfl
theorem a8J(ps:List Pt):(W8 (G7 ps)).map (·.1)=ps.flatMap fun pt=>(brL pt.2).map fun a=>(pt.1,a):=by
 have h:=a2a (fun r=>(F4 r).map (·.2.2)) ps
 unfold brL
 rw[<-h]
 unfold W8
 induction G7 ps with
 | nil=>rfl
 | cons x t ih=>
  rw[List.flatMap_cons,List.flatMap_cons,List.map_append,ih,List.map_map,List.map_map]
  rfl
theorem b4r(ps:List Pt):(W6 (G7 ps)).map (·.1)=ps.flatMap fun pt=>((pt.2.filterMap F9).map (·.2)).map fun a=>(pt.1,a):=by
 have h:=a2a (fun r=>((F9 r).map (·.2)).toList) ps
 have e1:∀rs:List Rw,rs.flatMap (fun r=>((F9 r).map (·.2)).toList)=(rs.filterMap F9).map (·.2):=fun rs=>by
  induction rs with
  | nil=>rfl
  | cons r t ih=>
   rw[List.flatMap_cons,List.filterMap_cons,ih]
   cases F9 r<;>rfl
 simp only[e1]at h
 rw[<-h]
 unfold W6
 induction G7 ps with
 | nil=>rfl
 | cons x t ih=>
  rw[List.filterMap_cons,List.flatMap_cons,<-ih]
  cases F9 x.2.2<;>rfl
theorem O8.net{hs:List Pp}{b0 b1 b2:Int}{ps:List Pt}(d:O8 hs b0 b1 b2 ps):M3 (G7 ps):=by
 have hnd:=d.nodup
 have hnm:=d.names
 have part:∀{i:Nat}{pt:Pt},ps[i]?=some pt->∃pp,hs[i]?=some pp/\b4R b0 b1 hs i pp/\pt.1=Y3 b2 (i:Int)/\Paired (a2c (M8 b2 hs.length) pp.owns) pp.rows pt.2:=fun e=>d.at e
 have own:∀{i:Nat}{pt:Pt},ps[i]?=some pt->(a4i pt.2++brL pt.2).Nodup:=fun{i pt}e=>by
  obtain⟨pp,_,ok,_,hf⟩:=part e
  obtain⟨n,hn,hn23⟩:=ok.n
  exact((a3Q hf).trans ok.md).nodup_iff.mpr (by rw[hn];exact a1u d.r0.1 (by omega))
 have idx:∀{i j:Nat}{n:Str}{rs rs':List Rw},ps[i]?=some (n,rs)->ps[j]?=some (n,rs')->i=j:=fun{i j n rs rs'}e1 e2=>by
  have h1:(ps.map (·.1))[i]?=some n:=by rw[List.getElem?_map,e1];rfl
  have h2:(ps.map (·.1))[j]?=some n:=by rw[List.getElem?_map,e2];rfl
  have hi:=(List.getElem?_eq_some_iff.mp h1).1
  exact(List.getElem?_inj hi hnd).mp (h1.trans h2.symm)
 have atNm:∀{j:Nat}{m:Str},(M8 b2 hs.length)[j]?=some m->∃rs,ps[j]?=some (m,rs):=fun{j m}e=>by
  rw[<-hnm,List.getElem?_map]at e
  cases e2:ps[j]? with
  | none=>rw[e2]at e;cases e
  | some pt=>rw[e2]at e;exact⟨pt.2,by rw[<-(Option.some.inj e)]⟩
 have brow:∀{x:Kk×Kk},x∈W8 (G7 ps)->∃(i j:Nat)(pp:Pp)(prs:List (Str×Str))(xs:List Int)(q:Str×Str)(rs rs':List Rw),ps[i]?=some (x.1.1,rs)/\ps[j]?=some (x.2.1,rs')/\hs[i]?=some pp/\Pr.bring j prs xs∈pp.rows/\q∈prs/\q.2=x.1.2/\q.1=x.2.2/\a7j hs i (.bring j prs xs):=fun{x}hx=>by
  unfold W8 at hx
  obtain⟨y,hy,h1⟩:=List.mem_flatMap.mp hx
  obtain⟨mq,hmq,e⟩:=List.mem_map.mp h1
  obtain⟨rs,hrs,hrw⟩:=a0r.mp hy
  obtain⟨i,hi⟩:=List.getElem?_of_mem hrs
  obtain⟨pp,hpp,ok,_,hf⟩:=part hi
  obtain⟨pr,hpr,hfr⟩:=Paired.get?' hf hrw
  have hprm:=List.mem_of_getElem? hpr
  cases pr with
  | bring j prs xs=>
   obtain⟨nm,hnmj,erw⟩:=hfr
   rw[erw]at hmq
   obtain⟨q,hq,eq⟩:=List.mem_map.mp hmq
   obtain⟨rs',hj⟩:=atNm hnmj
   rw[<-e,<-eq]
   exact⟨i,j,pp,prs,xs,q,rs,rs',hi,hj,hpp,hprm,hq,rfl,rfl,ok.ok _ hprm⟩
  | own k n xs=>
   rcases hfr with⟨_,erw⟩ | ⟨_,ts,erw,_⟩<;>rw[erw]at hmq<;>simp[F4]at hmq
  | give o g xs=>rw[show y.2.2= .give o g from hfr]at hmq;simp[F4]at hmq
  | ask j xs=>obtain⟨nm,w,_,erw,_⟩:=hfr;rw[erw]at hmq;simp[F4]at hmq
  | sum k xs=>
   rcases hfr with⟨_,ts,erw,_⟩ | ⟨_,ts,w,erw,_⟩<;>rw[erw]at hmq<;>simp[F4]at hmq
 have giv:∀{j:Nat}{m g o:Str}{rs:List Rw},ps[j]?=some (m,rs)->Giv hs j g o->((m,g),o)∈W6 (G7 ps):=fun{j m g o rs}e hg=>by
  obtain⟨pq,xs,ej,hm⟩:=hg
  obtain⟨pp,hpp,_,_,hf⟩:=part e
  rw[ej]at hpp
  cases hpp
  obtain⟨k,hk⟩:=List.getElem?_of_mem hm
  obtain⟨rw,hrw,hfr⟩:=Paired.get? hf hk
  have erw:rw= .give o g:=hfr
  unfold W6
  refine List.mem_filterMap.mpr ⟨(m,k,rw),a0r.mpr ⟨rs,List.mem_of_getElem? e,hrw⟩,?_⟩
  rw[erw]
  rfl
 have hgk:((W6 (G7 ps)).map (·.1)).Nodup:=by
  rw[b4r]
  refine a1n (f:=fun pt=>(pt.2.filterMap F9).map (·.2)) hnd fun pt hpt=>?_
  obtain⟨i,hi⟩:=List.getElem?_of_mem hpt
  obtain⟨pp,_,ok,_,hf⟩:=part hi
  obtain⟨m,hm,hm23⟩:=ok.m
  rw[a6i hf]
  exact ok.gv.nodup_iff.mpr (by rw[hm];exact a1u d.r1.1 (by omega))
 refine⟨?_,hgk,fun x hx=>?_,fun y hy=>?_,?_,?_,fun x hx=>?_⟩
 ·rw[a4Z,a8J]
  refine List.nodup_append.mpr ⟨?_,?_,fun x hx y hy z=>?_⟩
  ·refine a1n (f:=fun pt=>a4i pt.2) hnd fun pt hpt=>?_
   obtain⟨i,hi⟩:=List.getElem?_of_mem hpt
   exact(List.nodup_append.mp (own hi)).1
  ·refine a1n (f:=fun pt=>brL pt.2) hnd fun pt hpt=>?_
   obtain⟨i,hi⟩:=List.getElem?_of_mem hpt
   exact(List.nodup_append.mp (own hi)).2.1
  ·subst z
   obtain⟨p1,hp1,h1⟩:=List.mem_flatMap.mp hx
   obtain⟨o1,ho1,e1⟩:=List.mem_map.mp h1
   obtain⟨p2,hp2,h2⟩:=List.mem_flatMap.mp hy
   obtain⟨o2,ho2,e2⟩:=List.mem_map.mp h2
   rw[<-e1]at e2
   obtain⟨i,hi⟩:=List.getElem?_of_mem hp1
   obtain⟨j,hj⟩:=List.getElem?_of_mem hp2
   have en:p2.1=p1.1:=(Prod.mk.inj e2).1
   have eo:o2=o1:=(Prod.mk.inj e2).2
   have hij:=idx (n:=p1.1) (rs:=p1.2) (rs':=p2.2) hi (by rw[hj,<-en])
   subst hij
   rw[hi]at hj
   cases hj
   exact(List.nodup_append.mp (own hi)).2.2 _ ho1 _ ho2 eo.symm
 ·obtain⟨i,j,pp,prs,xs,q,rs,rs',hi,hj,hpp,hprm,hq,_,e2,hok⟩:=brow hx
  obtain⟨pq,hpq,hgm⟩:=hok.2.2.2.1 q hq
  obtain⟨o,ys,hg⟩:=a9E ((d.inv j pq hpq).gv.mem_iff.mpr hgm)
  refine⟨o,?_⟩
  have h1:=giv hj (⟨pq,ys,hpq,hg⟩:Giv hs j q.1 o)
  rw[e2]at h1
  exact h1
 ·unfold W6 at hy
  obtain⟨z,hz,h1⟩:=List.mem_filterMap.mp hy
  obtain⟨rs,hrs,hrw⟩:=a0r.mp hz
  obtain⟨i,hi⟩:=List.getElem?_of_mem hrs
  obtain⟨pp,hpp,ok,_,hf⟩:=part hi
  obtain⟨pr,hpr,hfr⟩:=Paired.get?' hf hrw
  have hprm:=List.mem_of_getElem? hpr
  have hgo:∃o g xs,pr= .give o g xs/\y=((z.1,g),o):=by
   cases pr with
   | give o g xs=>
    rw[show z.2.2= .give o g from hfr]at h1
    exact⟨o,g,xs,rfl,(Option.some.inj h1).symm⟩
   | own k n xs=>
    rcases hfr with⟨_,erw⟩ | ⟨_,ts,erw,_⟩<;>rw[erw]at h1<;>cases h1
   | bring j prs xs=>obtain⟨nm,_,erw⟩:=hfr;rw[erw]at h1;cases h1
   | ask j xs=>obtain⟨nm,w,_,erw,_⟩:=hfr;rw[erw]at h1;cases h1
   | sum k xs=>
    rcases hfr with⟨_,ts,erw,_⟩ | ⟨_,ts,w,erw,_⟩<;>rw[erw]at h1<;>cases h1
  obtain⟨o,g,xs,ep,ey⟩:=hgo
  subst ep
  obtain⟨⟨pp',hpp',ho⟩,_⟩:=ok.ok _ hprm
  rw[hpp]at hpp'
  cases hpp'
  have h2:=(a3Q hf).mem_iff.mpr (ok.md.mem_iff.mpr ho)
  rw[ey,a4Z,a8J]
  rcases List.mem_append.mp h2 with w | w
  ·exact List.mem_append_left _ (List.mem_flatMap.mpr ⟨_,hrs,List.mem_map.mpr ⟨o,w,rfl⟩⟩)
  ·exact List.mem_append_right _ (List.mem_flatMap.mpr ⟨_,hrs,List.mem_map.mpr ⟨o,w,rfl⟩⟩)
 ·obtain⟨rk,B,_,hrk⟩:=d.rk
  refine⟨fun k=>rk ((ps.map (·.1)).findIdx fun n=>decide (n=k.1)) k.2,fun x hx=>?_⟩
  have fidx:∀{i:Nat}{n:Str}{rs:List Rw},ps[i]?=some (n,rs)->((ps.map (·.1)).findIdx fun m=>decide (m=n))=i:=fun{i n rs}e=>by
   have h1:(ps.map (·.1))[i]?=some n:=by rw[List.getElem?_map,e];rfl
   obtain⟨hi,h2⟩:=List.getElem?_eq_some_iff.mp h1
   have hlt:((ps.map (·.1)).findIdx fun m=>decide (m=n)) < (ps.map (·.1)).length:=List.findIdx_lt_length_of_exists ⟨n,List.mem_of_getElem? h1,by simp⟩
   have h3:=List.findIdx_getElem (w:=hlt)
   have h4:(ps.map (·.1))[(ps.map (·.1)).findIdx fun m=>decide (m=n)]=n:=by simpa using h3
   have h5:ps[(ps.map (·.1)).findIdx fun m=>decide (m=n)]?=some (n,(ps[(ps.map (·.1)).findIdx fun m=>decide (m=n)]'(by rw[List.length_map]at hlt;exact hlt)).2):=by
    rw[List.getElem?_eq_getElem (by rw[List.length_map]at hlt;exact hlt)]
    rw[List.getElem_map]at h4
    exact congrArg some (Prod.ext h4 rfl)
   exact idx h5 e
  unfold O3 at hx
  obtain⟨y,hy,e⟩:=List.mem_map.mp hx
  obtain⟨i,j,pp,prs,xs,q,rs,rs',hi,hj,hpp,hprm,hq,e1,e2,hok⟩:=brow hy
  obtain⟨o,hg,hlt⟩:=hrk i pp hpp j prs xs hprm q hq
  have h1:=giv hj hg
  rw[e2]at h1
  have h2:a4G (W6 (G7 ps)) y.2=o:=a3v hgk h1
  rw[<-e]
  show rk ((ps.map (·.1)).findIdx fun n=>decide (n=y.2.1)) (a4G (W6 (G7 ps)) y.2) < rk ((ps.map (·.1)).findIdx fun n=>decide (n=y.1.1)) y.1.2
  rw[fidx hi,fidx hj,h2,<-e1]
  exact hlt
 ·have h1:=a0V d.fit.rows
  have:=d.fit.hi
  omega
 ·obtain⟨rs,hrs,hrw⟩:=a0r.mp hx
  obtain⟨i,hi⟩:=List.getElem?_of_mem hrs
  obtain⟨pp,hpp,ok,_,hf⟩:=part hi
  obtain⟨pr,hpr,hfr⟩:=Paired.get?' hf hrw
  have hprm:=List.mem_of_getElem? hpr
  cases pr with
  | bring j prs xs=>
   obtain⟨nm,_,erw⟩:=hfr
   rw[erw]
   show(prs.map _).length<=6
   rw[List.length_map]
   exact(ok.ok _ hprm).2.2.1
  | own k n xs=>
   rcases hfr with⟨_,erw⟩ | ⟨_,ts,erw,_⟩<;>rw[erw]<;>simp[F4]
  | give o g xs=>rw[show x.2.2= .give o g from hfr];simp[F4]
  | ask j xs=>obtain⟨nm,w,_,erw,_⟩:=hfr;rw[erw];simp[F4]
  | sum k xs=>
   rcases hfr with⟨_,ts,erw,_⟩ | ⟨_,ts,w,erw,_⟩<;>rw[erw]<;>simp[F4]
noncomputable def a8T (H:Hp) (kv:List Key×V) (x:Kk×Str):Prop:=kv.1=U0 x.1/\∃t,kv.2= .ref t/\H t=some (.tup [.str x.1.1,.str x.2])
theorem a8T.mono{H H':Hp}(s:J9 H H'){kv:List Key×V}{x:Kk×Str}(h:a8T H kv x):a8T H' kv x:=by
 obtain⟨e,t,e2,h⟩:=h
 exact⟨e,t,e2,s _ _ h⟩
theorem a4X{α:Type}{l:List α}{i:Nat}{x:α}(h:l[i]?=some x):l=l.take i++x::l.drop (i+1):=by
 obtain⟨hi,e⟩:=List.getElem?_eq_some_iff.mp h
 rw[<-e,<-List.drop_eq_getElem_cons hi,List.take_append_drop]
theorem a6V{ps:List Pt}{i j:Nat}{pt:Pt}{rr:Rw}(h:ps[i]?=some pt)(hr:pt.2[j]?=some rr):∃rest,G7 ps=(G7 (ps.take i)++R1 pt.1 (pt.2.take j))++(pt.1,j,rr)::rest:=by
 have hj:=(List.getElem?_eq_some_iff.mp hr).1
 have e2:R1 pt.1 pt.2=R1 pt.1 (pt.2.take j)++(pt.1,j,rr)::((pt.2.drop (j+1)).zipIdx (j+1)).map fun x=>(pt.1,x.2,x.1):=by
  conv=>lhs;rw[a4X hr]
  unfold R1
  rw[List.zipIdx_append,List.map_append,List.zipIdx_cons,List.map_cons,Nat.zero_add,List.length_take,Nat.min_eq_left (by omega)]
 have e1:G7 ps=G7 (ps.take i)++(R1 pt.1 pt.2++G7 (ps.drop (i+1))):=by
  conv=>lhs;rw[a4X h]
  unfold G7
  rw[List.flatMap_append,List.flatMap_cons]
 rw[e1,e2]
 exact⟨_,by rw[List.append_assoc,List.append_assoc,List.cons_append]⟩
theorem a3A{ps:List Pt}{i j:Nat}{pt:Pt}{rr:Rw}(hr:pt.2[j]?=some rr):G7 (ps.take i)++R1 pt.1 (pt.2.take (j+1))=(G7 (ps.take i)++R1 pt.1 (pt.2.take j))++[(pt.1,j,rr)]:=by
 have hj:=(List.getElem?_eq_some_iff.mp hr).1
 rw[J2 hr,a2g,<-List.append_assoc,List.length_take,Nat.min_eq_left (by omega)]
noncomputable def b3R:Sp:=fun vs H Q _=>∃(a:Addr)(ps:List Pt),vs=[.ref a]/\F3 H a ps/\a0c ps/\M3 (G7 ps)/\∀(d:Addr)(kvs:List (List Key×V))(H':Hp),G6 H H'->H d=none->H' d=some (.dT kvs)->Paired (a3i H') kvs (R5 (G7 ps))->Q (.ref d) H'
theorem a7L(T:Txt K mg):L2.Cl P w K mg base 1 "_law_made" ["_law_parts_here"] b3R:=by
 refine Cl.of T.d_law_made a0z (fun vs H Q E h=>?_) (fun _ _ _ _ _ _ us hl=>by obtain⟨a,rfl⟩:=a2V hl;rfl) (fun fa cdv A outer s H vs Q E hr h=>?_)
 ·obtain⟨a,ps,rfl,_⟩:=h
  rfl
 ·obtain⟨a,ps,rfl,hpf,hfit,hnet,q⟩:=h
  have hu:=D4 hr
  have hpl:=hnet.len
  obtain⟨o,vs,ha,ho,hps⟩:=id hpf
  have sqa:∀{H2:Hp},G6 H H2->SqT K H2 a vs:=fun s2=> .inl (.inr ⟨o,s2 _ _ ha⟩)
  have hvl:vs.length=ps.length:=Paired.length hps
  have hhi:=hfit.hi
  refine⟨_,(G3 (I9 (i:=1) a0z.nd rfl (Or.inl rfl) M4)
   (G3 (Y0 PassesOwn.never rfl (F1 (pv 0)) (E2 rfl (J0 (I0 (i:=2) a0z.nd rfl (Or.inl rfl)) (J0 (I0 (i:=3) a0z.nd rfl (Or.inl rfl)) Y1)))
    (G5 (Y0 PassesOwn.never rfl (a0f (by rfl) T.n_range (G0 (R3 J8 (by rfl) T.n_len PySem.boot_len (G0 (pv 3) G4)) G4)) (I0 (i:=4) a0z.nd rfl (Or.inl rfl))
     (G5 (U8 (PW.pt (a2l (J7 Z8 (G9 J5 (G9 J5 (pv 3) (pv 4) (fun _ _=>rfl)) G2 (fun _ _=>rfl)) R6 (R7 _)) (a1v (J7 Z8 (G9 J5 (G9 J5 (pv 3) (pv 4) (fun _ _=>rfl)) G2 (fun _ _=>rfl)) R6 (R7 _)))))
      (G5 (E5 hu (pv 1) (R9 (G0 (pv 2) (G0 (G9 J5 (G9 J5 (pv 3) (pv 4) (fun _ _=>rfl)) G2 (fun _ _=>rfl)) G4))) (R9 (G0 (pv 2) (G0 (pv 4) G4))) rfl)) R8)))))
   (G5 (R4 (pv 1))))),?_⟩
  intro d gd
  have s1:G6 H (upd H d (.dT [])):=(G6.refl H).new gd
  refine⟨_,rfl,a,rfl,⟨_,sqa s1⟩,E6 (K:=K) (a:=a) (xs:=vs) (fun i σ H2=>∃(kvs:List (List Key×V))(v3 v4 v5:Option V),σ=[some (.ref a),some (.ref d),v3,v4,v5]/\G6 H H2/\H2 d=some (.dT kvs)/\Paired (a3i H2) kvs (R5 (G7 (ps.take i))))
   ⟨[],none,none,none,rfl,s1,G1,by rw[List.take_zero];exact .nil⟩ (fun i σ H2 _⟨_,_,_,_,_,s3,_⟩=>sqa s3) ?_ ?_⟩
  ·rintro i y σ H2 hy ⟨kvs,v3,v4,v5,rfl,s3,hd3,hk⟩
   obtain⟨pt,hpt,t,u,ws,ey,ht,hu',hrs⟩:=Paired.get? hps hy
   subst ey
   have hwl:ws.length=pt.2.length:=Paired.length hrs
   have hr40:=hfit.rows _ (List.mem_of_getElem? hpt)
   refine⟨t,_,rfl,SqT.of (s3 _ _ ht),rfl,_,_,rfl,_,_,rfl,rfl,?_⟩
   refine⟨_,rfl,u,_,rfl,.inr (SqT.of (s3 _ _ hu')),_,rfl,(by omega),(by omega),B7 (fun j σ H3=>∃(kvs:List (List Key×V))(v5:Option V),σ=[some (.ref a),some (.ref d),some (.str pt.1),some (.ref u),v5]/\G6 H H3/\H3 d=some (.dT kvs)/\Paired (a3i H3) kvs (R5 (G7 (ps.take i)++R1 pt.1 (pt.2.take j))))
    ⟨kvs,_,rfl,s3,hd3,by rw[List.take_zero];show Paired _ kvs (R5 (G7 (ps.take i)++[]));rw[List.append_nil];exact hk⟩ ?_ ?_⟩
   ·rintro j σ H3 hj ⟨kvs3,w5,rfl,s4,hd4,hk3⟩
    rw[Int.zero_add]
    have hj':j < pt.2.length:=by omega
    obtain⟨rr,hrw⟩:∃rr,pt.2[j]?=some rr:=⟨pt.2[j],by simp[hj']⟩
    obtain⟨rest,hsp⟩:=a6V hpt hrw
    have hX:=a3A (ps:=ps) (i:=i) hrw
    obtain⟨v,hv,r,er,hra⟩:=Paired.get?' hrs hrw
    subst er
    have hra4:=hra.mono s4.tups
    have hu4:=s4 _ _ hu'
    have hat:atI ws (j:Int)=some (.ref r):=U3 hv
    generalize G7 (ps.take i)++R1 pt.1 (pt.2.take j)=Xs at hk3 hsp hX
    have hXl:Xs.length<=960:=by
     have h1:=congrArg List.length hsp
     rw[List.length_append]at h1
     omega
    have hkl:kvs3.length<=960:=by
     rw[Paired.length hk3]
     have:=a1Y Xs
     omega
    have hsp1:G7 ps=(Xs++[(pt.1,j,rr)])++rest:=by rw[hsp,List.append_assoc];rfl
    rcases a4N hra4 with⟨o,rs,hkd,ho',hrt⟩ | ⟨hkd,ho'⟩
    ·have hm3:R5 [(pt.1,j,rr)]=[((pt.1,o),(pt.1,j))]:=by simp[R5,ho']
     have hnew:U0 (pt.1,o)∉kvs3.map (·.1):=a2U (fun _ _ h=>h.1) hk3 (fun z=>by
      have h1:=a1R hnet.mkNodup (by rw[hsp1,M9])
      rw[M9,hm3,List.map_append]at h1
      exact(List.nodup_append.mp h1).2.2 _ z _ (List.mem_singleton.mpr rfl) rfl)
     have z1:∀kd:Str,atI (V.str kd::V.str o::rs) 1=some (.str o):=fun kd=>U3 (j:=1) rfl
     have z0:∀kd:Str,atI (V.str kd::V.str o::rs) 0=some (.str kd):=fun kd=>U3 (j:=0) rfl
     rcases hkd with e | e<;>rw[e]at hrt
     refine⟨_,rfl,_,rfl,u,_,_,_,rfl,rfl,SqT.of hu4,hat,r,_,_,_,rfl,rfl,SqT.of hrt,z0 _,rfl,_,rfl,D1 (B9 ?_)⟩
     rotate_left
     refine⟨_,rfl,_,rfl,u,_,_,_,rfl,rfl,SqT.of hu4,hat,r,_,_,_,rfl,rfl,SqT.of hrt,z0 _,rfl,_,rfl,W3 (show¬("take":Str)="set" by decide +kernel) ?_⟩
     refine⟨_,rfl,_,rfl,u,_,_,_,rfl,rfl,SqT.of hu4,hat,r,_,_,_,rfl,rfl,SqT.of hrt,z0 _,rfl,_,rfl,D1 ?_⟩
     all_goals
      refine⟨_,rfl,_,rfl,Z9,fun e1 ge=>?_⟩
      have s5:G6 H3 (upd H3 e1 (.tup [.str pt.1,.int (j:Int)])):=(G6.refl H3).new ge
      refine⟨_,rfl,_,rfl,_,rfl,_,rfl,u,_,_,_,rfl,rfl,SqT.of (s5 _ _ hu4),hat,r,_,_,_,rfl,rfl,SqT.of (s5 _ _ hrt),z1 _,Z9,fun c gc=>?_⟩
      have s6:G6 H3 (upd (upd H3 e1 (.tup [.str pt.1,.int (j:Int)])) c (.tup [.str pt.1,.str o])):=s5.new gc
      have hc6:upd (upd H3 e1 (.tup [.str pt.1,.int (j:Int)])) c (.tup [.str pt.1,.str o]) c=some (.tup ((U0 (pt.1,o)).map kV)):=G1
      have he6:upd (upd H3 e1 (.tup [.str pt.1,.int (j:Int)])) c (.tup [.str pt.1,.str o]) e1=some (.tup [.str pt.1,.int (j:Int)]):=U4 G1 gc
      generalize upd (upd H3 e1 (.tup [.str pt.1,.int (j:Int)])) c (.tup [.str pt.1,.str o])=H6 at s6 hc6 he6⊢
      have hd6:=s6 _ _ hd4
      refine⟨d,_,rfl,a0C.t (k:=U0 (pt.1,o)) hd6 hc6 (szK (by omega)),?_⟩
      rw[M7 hnew]
      have TD:=J9.dT (kvs':=kvs3++[(U0 (pt.1,o),.ref e1)]) hd6
      have T7:=s6.tups.trans TD
      refine⟨kvs3++[(U0 (pt.1,o),.ref e1)],_,rfl,(s4.trans s6).put gd,G1,?_⟩
      rw[hX,M9,hm3]
      exact Paired.snoc (Paired.mapP hk3 fun _ _ z=>z.mono T7) ⟨rfl,e1,rfl,TD _ _ he6⟩
    ·have hm3:R5 [(pt.1,j,rr)]=[]:=by simp[R5,ho']
     obtain⟨x1,rs,hrt⟩:=hra4.kind
     have z0:atI (V.str (R0 rr)::x1::rs) 0=some (.str (R0 rr)):=U3 (j:=0) rfl
     refine⟨_,rfl,_,rfl,u,_,_,_,rfl,rfl,SqT.of hu4,hat,r,_,_,_,rfl,rfl,SqT.of hrt,z0,rfl,_,rfl,W3 (fun z=>hkd (.inl z)) ?_⟩
     refine⟨_,rfl,_,rfl,u,_,_,_,rfl,rfl,SqT.of hu4,hat,r,_,_,_,rfl,rfl,SqT.of hrt,z0,rfl,_,rfl,W3 (fun z=>hkd (.inr z)) ?_⟩
     exact⟨kvs3,_,rfl,s4,hd4,by rw[hX,M9,hm3,List.append_nil];exact hk3⟩
   ·rintro σ H3 ⟨kvs3,w5,rfl,s4,hd4,hk3⟩
    rw[hwl,Int.toNat_natCast,List.take_length,<-a1d,<-J2 hpt]at hk3
    exact⟨kvs3,_,_,_,rfl,s4,hd4,hk3⟩
  ·rintro σ H2 ⟨kvs,v3,v4,v5,rfl,s3,hd3,hk⟩
   rw[hvl,List.take_length]at hk
   exact⟨_,rfl,q d kvs H2 s3 gd hd3 hk⟩
theorem a8H(T:Txt K mg):L2.Cl P w K mg base 2 "_law_makers" ["_law_parts_here"] a7I:=by
 have C_law_made:=a7L (P:=P) (w:=w) (base:=base) T
 refine Cl.of T.d_law_makers W2 (fun vs H Q E h=>?_) (fun _ _ _ _ _ _ us hl=>by obtain⟨a,rfl⟩:=a2V hl;rfl) (fun fa cdv A outer s H vs Q E hr h=>?_)
 ·obtain⟨a,ps,rfl,_⟩:=h
  rfl
 ·obtain⟨a,ps,rfl,hpf,hfit,hnet,q⟩:=h
  have hu:=D4 hr
  have hpl:=hnet.len
  have hG:=hnet.gk
  obtain⟨o,vs,ha,ho,hps⟩:=id hpf
  have hvl:vs.length=ps.length:=Paired.length hps
  have hhi:=hfit.hi
  refine⟨_,(G3 (I9 (i:=1) W2.nd rfl (Or.inl rfl) (U9 C_law_made hr (by rfl) (G0 (pv 0) G4)))
   (G3 (I9 (i:=2) W2.nd rfl (Or.inl rfl) M4)
   (G3 (I9 (i:=3) W2.nd rfl (Or.inl rfl) M4)
   (G3 (Y0 PassesOwn.never rfl (F1 (pv 0)) (E2 rfl (J0 (I0 (i:=4) W2.nd rfl (Or.inl rfl)) (J0 (I0 (i:=5) W2.nd rfl (Or.inl rfl)) Y1)))
    (G5 (Y0 PassesOwn.never rfl (F1 (pv 5)) (I0 (i:=6) W2.nd rfl (Or.inl rfl))
     (G5 (U8 (J7 Z8 (G9 J5 (pv 6) G2 (fun _ _=>rfl)) R6 (R7 _))
      (G5 (E5 hu (pv 2) (R9 (G0 (pv 4) (G0 (G9 J5 (pv 6) G2 (fun _ _=>rfl)) G4))) (R9 (G0 (pv 4) (G0 (G9 J5 (pv 6) G2 (fun _ _=>rfl)) G4))) rfl)) R8)))))
   (G3 (Y0 PassesOwn.never rfl (F1 (pv 0)) (E2 rfl (J0 (I0 (i:=4) W2.nd rfl (Or.inl rfl)) (J0 (I0 (i:=5) W2.nd rfl (Or.inl rfl)) Y1)))
    (G5 (Y0 PassesOwn.never rfl (F1 (pv 5)) (I0 (i:=6) W2.nd rfl (Or.inl rfl))
     (G5 (U8 (J7 Z8 (G9 J5 (pv 6) G2 (fun _ _=>rfl)) R6 (R7 _))
      (G5 (Y0 PassesOwn.never rfl (F1 (G9 J5 (pv 6) G2 (fun _ _=>rfl))) (E2 rfl (J0 (I0 (i:=7) W2.nd rfl (Or.inl rfl)) (J0 (I0 (i:=8) W2.nd rfl (Or.inl rfl)) Y1)))
       (G5 (E5 hu (pv 3) (R9 (G0 (pv 4) (G0 (pv 8) G4))) (Z0 hu (pv 2) (R9 (G0 (G9 J5 (pv 6) G2 (fun _ _=>rfl)) (G0 (pv 7) G4))) (fun _ _=>rfl)) rfl)))) R8)))))
   (G3 (Y0 PassesOwn.never rfl (a5o (pv 3)) (I0 (i:=9) W2.nd rfl (Or.inl rfl))
    (G3 (I9 (i:=10) W2.nd rfl (Or.inl rfl) (pv 9))
    (G3 (a1c PassesOwn.never (a2m (a8G hu (pv 10) (pv 3)))
     (G5 (I9 (i:=10) W2.nd rfl (Or.inl rfl) (Z0 hu (pv 3) (pv 10) (fun _ _=>rfl)))))
    (G5 (E5 hu (pv 1) (pv 9) (Z0 hu (pv 1) (pv 10) (fun _ _=>rfl)) rfl)))))
   (G5 (R4 (pv 1))))))))),?_⟩
  refine⟨_,rfl,a,ps,rfl,hpf,hfit,hnet,fun f mkv H0 s0 gf hf0 hmk=>?_⟩
  have ha0:=s0 _ _ ha
  have hps0:Paired (a1t H0) vs ps:=Paired.mapP hps fun _ _ z=>z.mono s0.tups
  intro g gg
  intro d gd
  have hgd:g≠d:=fun z=>by rw[z]at gg;rw[<-z,G1]at gd;cases gd
  have sqa:∀{H2:Hp},G6 H0 H2->SqT K H2 a vs:=fun s2=> .inl (.inr ⟨o,s2 _ _ ha0⟩)
  have gd0:H0 d=none:=by
   rw[<-G8 (H:=H0) (o:= .dT []) hgd.symm]
   exact gd
  have s1:G6 H0 (upd (upd H0 g (.dT [])) d (.dT [])):=((G6.refl H0).new gg).new gd
  refine⟨_,rfl,a,rfl,⟨_,sqa s1⟩,E6 (K:=K) (a:=a) (xs:=vs) (fun i σ H2=>∃(gvs:List (List Key×V))(v4 v5 v6:Option V),σ=[some (.ref a),some (.ref f),some (.ref g),some (.ref d),v4,v5,v6,none,none,none,none]/\G6 H0 H2/\H2 g=some (.dT gvs)/\H2 d=some (.dT [])/\Paired (a8T H2) gvs (W6 (G7 (ps.take i))))
   ⟨[],none,none,none,rfl,s1,by rw[G8 hgd,G1],G1,by rw[List.take_zero];exact .nil⟩ (fun i σ H2 _⟨_,_,_,_,_,s3,_⟩=>sqa s3) ?_ ?_⟩
  ·rintro i y σ H2 hy ⟨gvs,v4,v5,v6,rfl,s3,hg3,hd3,hgk⟩
   obtain⟨pt,hpt,t,u,ws,ey,ht,hu',hrs⟩:=Paired.get? hps0 hy
   subst ey
   have hwl:ws.length=pt.2.length:=Paired.length hrs
   refine⟨t,_,rfl,SqT.of (s3 _ _ ht),rfl,_,_,rfl,_,_,rfl,rfl,?_⟩
   refine⟨_,rfl,u,rfl,⟨_,SqT.of (s3 _ _ hu')⟩,E6 (K:=K) (a:=u) (xs:=ws) (fun j σ H3=>∃(gvs:List (List Key×V))(v6:Option V),σ=[some (.ref a),some (.ref f),some (.ref g),some (.ref d),some (.str pt.1),some (.ref u),v6,none,none,none,none]/\G6 H0 H3/\H3 g=some (.dT gvs)/\H3 d=some (.dT [])/\Paired (a8T H3) gvs (W6 (G7 (ps.take i)++R1 pt.1 (pt.2.take j))))
    ⟨gvs,_,rfl,s3,hg3,hd3,by rw[List.take_zero];show Paired _ gvs (W6 (G7 (ps.take i)++[]));rw[List.append_nil];exact hgk⟩ (fun j σ H3 _⟨_,_,_,s4,_⟩=>SqT.of (s4 _ _ hu')) ?_ ?_⟩
   ·rintro j y σ H3 hy3 ⟨gvs3,w6,rfl,s4,hg4,hd4,hgk3⟩
    obtain⟨rr,hrw,r,er,hra⟩:=Paired.get? hrs hy3
    subst er
    obtain⟨rest,hsp⟩:=a6V hpt hrw
    have hX:=a3A (ps:=ps) (i:=i) hrw
    have hra4:=hra.mono s4.tups
    generalize G7 (ps.take i)++R1 pt.1 (pt.2.take j)=Xs at hgk3 hsp hX
    have hgl:gvs3.length<=960:=by
     rw[Paired.length hgk3]
     have:=a9i Xs
     have h1:=congrArg List.length hsp
     rw[List.length_append]at h1
     omega
    have hsp1:G7 ps=(Xs++[(pt.1,j,rr)])++rest:=by rw[hsp,List.append_assoc];rfl
    show B0 6 _ _ _ _
    rcases a7A hra4 with⟨o,gv,hgo,hrt2⟩ | ⟨hng,hgo⟩
    ·have hg3':W6 [(pt.1,j,rr)]=[((pt.1,gv),o)]:=by simp[W6,hgo]
     have hnew:U0 (pt.1,gv)∉gvs3.map (·.1):=a2U (fun _ _ h=>h.1) hgk3 (fun z=>by
      have h1:=a1R hnet.gk (by rw[hsp1,a1O])
      rw[a1O,hg3',List.map_append]at h1
      exact(List.nodup_append.mp h1).2.2 _ z _ (List.mem_singleton.mpr rfl) rfl)
     refine⟨_,rfl,r,_,_,_,rfl,rfl,SqT.of hrt2,rfl,rfl,_,rfl,D1 ?_⟩
     refine⟨_,rfl,_,rfl,r,_,_,_,rfl,rfl,SqT.of hrt2,rfl,Z9,fun e1 ge=>?_⟩
     have s5:G6 H3 (upd H3 e1 (.tup [.str pt.1,.str o])):=(G6.refl H3).new ge
     refine⟨_,rfl,_,rfl,_,rfl,r,_,_,_,rfl,rfl,SqT.of (s5 _ _ hrt2),rfl,Z9,fun c gc=>?_⟩
     have s6:G6 H3 (upd (upd H3 e1 (.tup [.str pt.1,.str o])) c (.tup [.str pt.1,.str gv])):=s5.new gc
     have hc6:upd (upd H3 e1 (.tup [.str pt.1,.str o])) c (.tup [.str pt.1,.str gv]) c=some (.tup ((U0 (pt.1,gv)).map kV)):=G1
     have he6:upd (upd H3 e1 (.tup [.str pt.1,.str o])) c (.tup [.str pt.1,.str gv]) e1=some (.tup [.str pt.1,.str o]):=U4 G1 gc
     generalize upd (upd H3 e1 (.tup [.str pt.1,.str o])) c (.tup [.str pt.1,.str gv])=H6 at s6 hc6 he6⊢
     have hg6:=s6 _ _ hg4
     refine⟨g,_,rfl,a0C.t (k:=U0 (pt.1,gv)) hg6 hc6 (szK (by omega)),?_⟩
     rw[M7 hnew]
     have TD:=J9.dT (kvs':=gvs3++[(U0 (pt.1,gv),.ref e1)]) hg6
     have T7:=s6.tups.trans TD
     refine⟨gvs3++[(U0 (pt.1,gv),.ref e1)],_,rfl,(s4.trans s6).put gg,G1,by rw[G8 hgd.symm];exact s6 _ _ hd4,?_⟩
     rw[hX,a1O,hg3']
     exact Paired.snoc (Paired.mapP hgk3 fun _ _ z=>z.mono T7) ⟨rfl,e1,rfl,TD _ _ he6⟩
    ·obtain⟨x1,rs,hrt⟩:=hra4.kind
     have z0:atI (V.str (R0 rr)::x1::rs) 0=some (.str (R0 rr)):=U3 (j:=0) rfl
     refine⟨_,rfl,r,_,_,_,rfl,rfl,SqT.of hrt,z0,rfl,_,rfl,W3 hng ?_⟩
     have h3:W6 [(pt.1,j,rr)]=[]:=by simp[W6,hgo]
     exact⟨gvs3,_,rfl,s4,hg4,hd4,by rw[hX,a1O,h3,List.append_nil];exact hgk3⟩
   ·rintro σ H3 ⟨gvs3,w6,rfl,s4,hg4,hd4,hgk3⟩
    rw[hwl,List.take_length,<-a1d,<-J2 hpt]at hgk3
    exact⟨gvs3,_,_,_,rfl,s4,hg4,hd4,hgk3⟩
  rintro σ H1 ⟨gvs,v4,v5,v6,rfl,sg,hg1,hd1,hgk⟩
  rw[hvl,List.take_length]at hgk
  obtain⟨Hb,eHb⟩:∃Hb:Hp,Hb=fun x=>if x=d then none else H1 x:=⟨_,rfl⟩
  have hbd:Hb d=none:=by rw[eHb];exact if_pos rfl
  have hbn:∀{x:Addr},x≠d->Hb x=H1 x:=fun{x}hx=>by rw[eHb];exact if_neg hx
  have sb1:G6 Hb H1:=fun x v e=>by
   by_cases hx:x=d
   ·rw[hx,hbd]at e;cases e
   ·rw[hbn hx]at e;exact e
  have s0b:G6 H0 Hb:=fun x v e=>by
   have hx:x≠d:=fun z=>by rw[z,gd0]at e;cases e
   rw[hbn hx]
   exact sg _ _ e
  have tb:J9 H1 Hb:=fun x v e=>by
   have hx:x≠d:=fun z=>by rw[z,hd1]at e;cases e
   rw[hbn hx]
   exact e
  have hgb:Hb g=some (.dT gvs):=by rw[hbn hgd];exact hg1
  have hgp:Paired (a8T Hb) gvs (W6 (G7 ps)):=Paired.mapP hgk fun _ _ z=>z.mono tb
  have hpsb:Paired (a1t Hb) vs ps:=Paired.mapP hps0 fun _ _ z=>z.mono s0b.tups
  have hfb:Hb f=some (.dT mkv):=s0b _ _ hf0
  have hmkb:Paired (a3i Hb) mkv (R5 (G7 ps)):=Paired.mapP hmk fun _ _ z=>z.mono s0b.tups
  have haq:∀{H2:Hp},G6 Hb H2->SqT K H2 a vs:=fun s2=>sqa (s0b.trans s2)
  have sHb:G6 H Hb:=s0.trans s0b
  clear tb hgk hps0 hg1 sg hmk
  refine⟨_,rfl,a,rfl,⟨_,haq sb1⟩,E6 (K:=K) (a:=a) (xs:=vs) (fun i σ H2=>∃(kvs:List (List Key×V))(v3 v4 v5 v6 v7 v9 v10:Option V),σ=[some (.ref a),some (.ref f),some (.ref g),some (.ref d),v3,v4,v5,v6,v7,v9,v10]/\G6 Hb H2/\H2 d=some (.dT kvs)/\Paired (a2v H2) kvs (llG (W6 (G7 ps)) (W8 (G7 (ps.take i)))))
   ⟨[],_,_,_,_,_,_,_,rfl,sb1,hd1,by rw[List.take_zero];exact .nil⟩ (fun i σ H2 _⟨_,_,_,_,_,_,_,_,_,s3,_⟩=>haq s3) ?_ ?_⟩
  ·rintro i y σ H2 hy ⟨kvs,v3,v4,v5,v6,v7,v9,v10,rfl,s3,hd3,hk⟩
   obtain⟨pt,hpt,t,u,ws,ey,ht,hu',hrs⟩:=Paired.get? hpsb hy
   subst ey
   have hwl:ws.length=pt.2.length:=Paired.length hrs
   refine⟨t,_,rfl,SqT.of (s3 _ _ ht),rfl,_,_,rfl,_,_,rfl,rfl,?_⟩
   refine⟨_,rfl,u,rfl,⟨_,SqT.of (s3 _ _ hu')⟩,E6 (K:=K) (a:=u) (xs:=ws) (fun j σ H3=>∃(kvs:List (List Key×V))(v5 v6 v7:Option V),σ=[some (.ref a),some (.ref f),some (.ref g),some (.ref d),some (.str pt.1),some (.ref u),v5,v6,v7,v9,v10]/\G6 Hb H3/\H3 d=some (.dT kvs)/\Paired (a2v H3) kvs (llG (W6 (G7 ps)) (W8 (G7 (ps.take i)++R1 pt.1 (pt.2.take j)))))
    ⟨kvs,_,_,_,rfl,s3,hd3,by rw[List.take_zero];show Paired _ kvs (llG _ (W8 (G7 (ps.take i)++[])));rw[List.append_nil];exact hk⟩ (fun j σ H3 _⟨_,_,_,_,_,s4,_⟩=>SqT.of (s4 _ _ hu')) ?_ ?_⟩
   ·rintro j y σ H3 hy3 ⟨kvs3,w5,w6,w7,rfl,s4,hd4,hk3⟩
    obtain⟨rr,hrw,r,er,hra⟩:=Paired.get? hrs hy3
    subst er
    obtain⟨rest,hsp⟩:=a6V hpt hrw
    have hX:=a3A (ps:=ps) (i:=i) hrw
    have hra4:=hra.mono s4.tups
    generalize G7 (ps.take i)++R1 pt.1 (pt.2.take j)=Xs at hk3 hsp hX
    have hXm:∀x∈Xs,x∈G7 ps:=fun x hx=>by rw[hsp];exact List.mem_append_left _ hx
    have hxm:(pt.1,j,rr)∈G7 ps:=by rw[hsp];exact List.mem_append_right _ List.mem_cons_self
    have hbl:(W8 Xs).length<=5760:=by
     have h1:=a2E (pls:=Xs) fun x hx=>hnet.brs x (hXm x hx)
     have h2:=congrArg List.length hsp
     rw[List.length_append]at h2
     omega
    have hsp1:G7 ps=(Xs++[(pt.1,j,rr)])++rest:=by rw[hsp,List.append_assoc];rfl
    show B0 6 _ _ _ _
    rcases a6s hra4 with⟨m,prs,t',e,hrt,⟨vs',ht',hprs⟩,hp6⟩ | ⟨hkd,ho'⟩
    ·subst e
     have hvl':vs'.length=prs.length:=Paired.length hprs
     refine⟨_,rfl,r,_,_,_,rfl,rfl,SqT.of hrt,rfl,rfl,_,rfl,D1 ?_⟩
     have hnd:((W8 Xs).map (·.1)++(a1i pt.1 m prs).map (·.1)).Nodup:=by
      have h1:=hnet.keys
      rw[hsp1,a2J,a2J,a4J,List.map_append,List.map_append,<-List.append_assoc]at h1
      have h2:=(List.nodup_append.mp h1).1
      exact(List.nodup_append.mp h2).2.1
     refine⟨_,rfl,r,_,_,_,rfl,rfl,SqT.of hrt,rfl,t',rfl,⟨_,SqT.of ht'⟩,E6 (K:=K) (a:=t') (xs:=vs') (fun k σ H4=>∃(kvs:List (List Key×V))(v6 v7:Option V),σ=[some (.ref a),some (.ref f),some (.ref g),some (.ref d),some (.str pt.1),some (.ref u),some (.ref r),v6,v7,v9,v10]/\G6 Hb H4/\J9 H3 H4/\H4 d=some (.dT kvs)/\Paired (a2v H4) kvs (llG (W6 (G7 ps)) (W8 Xs++a1i pt.1 m (prs.take k))))
      ⟨kvs3,_,_,rfl,s4,J9.refl H3,hd4,by rw[List.take_zero];show Paired _ kvs3 (llG _ (W8 Xs++[]));rw[List.append_nil];exact hk3⟩ (fun k σ H4 _⟨_,_,_,_,_,TT,_⟩=>SqT.of (TT _ _ ht')) ?_ ?_⟩
     ·rintro k y σ H4 hy4 ⟨kv4,x6,x7,rfl,s5,T4,hd5,hk4⟩
      obtain⟨qq,hq,c,ec,hc,_,_⟩:=Paired.get? hprs hy4
      subst ec
      have hj:k < prs.length:=(List.getElem?_eq_some_iff.mp hq).1
      have hrt4:=T4 _ _ hrt
      have htk4:a1i pt.1 m (prs.take (k+1))=a1i pt.1 m (prs.take k)++[((pt.1,qq.2),(m,qq.1))]:=by
       rw[J2 hq]
       unfold a1i
       rw[List.map_append]
       rfl
      have hkl:kv4.length<=6000:=by
       rw[Paired.length hk4]
       unfold llG
       rw[List.length_map,List.length_append]
       have:(a1i pt.1 m (prs.take k)).length=k:=by unfold a1i;rw[List.length_map,List.length_take];omega
       omega
      have hxb:((pt.1,qq.2),(m,qq.1))∈W8 (G7 ps):=by
       unfold W8
       refine List.mem_flatMap.mpr ⟨_,hxm,?_⟩
       exact List.mem_map.mpr ⟨(m,qq),List.mem_map.mpr ⟨qq,List.mem_of_getElem? hq,rfl⟩,rfl⟩
      obtain⟨o',ho'⟩:=hnet.gv _ hxb
      have hgg:a4G (W6 (G7 ps)) (m,qq.1)=o':=a3v hG ho'
      obtain⟨kv',⟨_,t0,hv1,ht0⟩,hv2⟩:=a3n (F:=a8T Hb) (fun _ _ h=>h.1) hgp hG ho'
      refine⟨c,_,rfl,SqT.of (T4 _ _ hc),rfl,_,_,rfl,_,_,rfl,rfl,?_⟩
      refine⟨_,rfl,_,rfl,r,_,_,_,rfl,rfl,SqT.of hrt4,rfl,_,rfl,Z9,fun e ge=>?_⟩
      have s6:G6 H4 (upd H4 e (.tup [.str m,.str qq.1])):=(G6.refl H4).new ge
      have hg4:upd H4 e (.tup [.str m,.str qq.1]) g=some (.dT gvs):=s6 _ _ (s5 _ _ hgb)
      have hget:F5 (upd H4 e (.tup [.str m,.str qq.1])) g (.ref e) (some (.ref t0)):=by
       have h1:=F5.t (k:=U0 (m,qq.1)) hg4 (show upd H4 e (.tup [.str m,.str qq.1]) e=some (.tup ((U0 (m,qq.1)).map kV))from G1)
       rw[hv2,hv1]at h1
       exact h1
      refine⟨g,_,rfl,hget,?_⟩
      refine⟨_,rfl,_,rfl,_,rfl,Z9,fun b gb=>?_⟩
      have s8:=s6.new (o:= .tup [.str pt.1,.str qq.2]) gb
      have hd8:=s8 _ _ hd5
      have hb8:upd (upd H4 e (.tup [.str m,.str qq.1])) b (.tup [.str pt.1,.str qq.2]) b=some (.tup ((U0 (pt.1,qq.2)).map kV)):=G1
      refine⟨d,_,rfl,a0C.t (k:=U0 (pt.1,qq.2)) hd8 hb8 (szK (by omega)),?_⟩
      have hnew:U0 (pt.1,qq.2)∉kv4.map (·.1):=a2U (F:=a2v H4) (fun _ _ h=>h.1) hk4 (fun z=>by
       rw[a7n,List.map_append]at z
       have hsub:((W8 Xs).map (·.1)++(a1i pt.1 m (prs.take (k+1))).map (·.1)).Sublist ((W8 Xs).map (·.1)++(a1i pt.1 m prs).map (·.1)):=by
        refine List.Sublist.append_left ?_ _
        unfold a1i
        exact((List.take_sublist _ _).map _).map _
       have h1:=hsub.nodup hnd
       rw[htk4,List.map_append,<-List.append_assoc]at h1
       exact(List.nodup_append.mp h1).2.2 _ z _ (List.mem_singleton.mpr rfl) rfl)
      rw[M7 hnew]
      have TD:=J9.dT (kvs':=kv4++[(U0 (pt.1,qq.2),.ref t0)]) hd8
      have T8:=s8.tups.trans TD
      have s9:=(s5.trans s8).put (o:= .dT (kv4++[(U0 (pt.1,qq.2),.ref t0)])) hbd
      refine⟨kv4++[(U0 (pt.1,qq.2),.ref t0)],_,_,rfl,s9,T4.trans T8,G1,?_⟩
      rw[htk4,<-List.append_assoc,a9k]
      refine Paired.snoc (Paired.mapP hk4 fun _ _ z=>z.mono T8) ⟨rfl,t0,rfl,?_⟩
      show _=some (HO.tup [V.str m,V.str (a4G (W6 (G7 ps)) (m,qq.1))])
      rw[hgg]
      exact s9 _ _ ht0
     ·rintro σ H4 ⟨kv4,x6,x7,rfl,s5,T4,hd5,hk4⟩
      rw[hvl',List.take_length]at hk4
      refine⟨kv4,_,_,_,rfl,s5,hd5,?_⟩
      rw[hX,a2J,a4J]
      exact hk4
    ·obtain⟨x1,rs,hrt⟩:=hra4.kind
     have z0:atI (V.str (R0 rr)::x1::rs) 0=some (.str (R0 rr)):=U3 (j:=0) rfl
     refine⟨_,rfl,r,_,_,_,rfl,rfl,SqT.of hrt,z0,rfl,_,rfl,W3 hkd ?_⟩
     have h3:W8 [(pt.1,j,rr)]=[]:=by unfold W8;simp[ho']
     exact⟨kvs3,_,_,_,rfl,s4,hd4,by rw[hX,a2J,h3,List.append_nil];exact hk3⟩
   ·rintro σ H3 ⟨kvs3,w5,w6,w7,rfl,s4,hd4,hk3⟩
    rw[hwl,List.take_length,<-a1d,<-J2 hpt]at hk3
    exact⟨kvs3,_,_,_,_,_,_,_,rfl,s4,hd4,hk3⟩
  rintro σ H2 ⟨lkv,v3,v4,v5,v6,v7,v9,v10,rfl,s3,hd3,hlk⟩
  rw[hvl,List.take_length]at hlk
  have hlk:Paired (a2v H2) lkv (O3 (G7 ps)):=hlk
  obtain⟨r,hrk⟩:=hnet.rk
  have hml:=a1Y (G7 ps)
  have hll:(O3 (G7 ps)).length<=5760:=by
   have h1:=a2E hnet.brs
   unfold O3
   rw[List.length_map]
   omega
  have htgt:=fun{x:Kk×Kk}(hx:x∈O3 (G7 ps))=>hnet.tgt hx
  have hlkn:=hnet.lkNodup
  have fi2:FI (R5 (G7 ps)) (O3 (G7 ps)) H2 mkv:=(b4d hnet hmkb).mono s3.tups
  generalize R5 (G7 ps)=mls at*
  generalize O3 (G7 ps)=ls at*
  have hf2:=s3 _ _ hfb
  have hfd:f≠d:=fun z=>by rw[z,hbd]at hfb;cases hfb
  have gdH:H d=none:=by
   cases e:H d with
   | none=>rfl
   | some v=>rw[sHb _ _ e]at hbd;cases hbd
  refine⟨_,rfl,d,lkv,rfl,hd3,fun ob vs' hvs=>?_⟩
  have hvl':vs'.length=lkv.length:=Paired.length hvs
  have hlkl:lkv.length=ls.length:=Paired.length hlk
  have T3:J9 H2 (upd H2 d (.frz ob (.dT lkv))):=J9.frz hd3
  have sH3:G6 H (upd H2 d (.frz ob (.dT lkv))):=(sHb.trans s3).put gdH
  have hf3:upd H2 d (.frz ob (.dT lkv)) f=some (.dT mkv):=by rw[G8 hfd];exact hf2
  have hd4:upd H2 d (.frz ob (.dT lkv)) d=some (.frz ob (.dT lkv)):=G1
  have fi3:=fi2.mono T3
  have hlk3:Paired (a2v (upd H2 d (.frz ob (.dT lkv)))) lkv ls:=Paired.mapP hlk fun _ _ z=>z.mono T3
  have hvs3:Paired (a2X (upd H2 d (.frz ob (.dT lkv)))) vs' lkv:=Paired.mapP hvs fun _ _⟨b,e,hb⟩=>⟨b,e,T3 _ _ hb⟩
  generalize upd H2 d (.frz ob (.dT lkv))=H3 at T3 sH3 hf3 hd4 fi3 hlk3 hvs3⊢
  refine a7o (d:=d) (o:=ob) (u:= .dT lkv) (ks:=vs') (fun i σ H4=>∃(kvs:List (List Key×V))(v9 v10:Option V),σ=[some (.ref a),some (.ref f),some (.ref g),some (.ref d),v3,v4,v5,v6,v7,v9,v10]/\G6 H H4/\H4 d=some (.frz ob (.dT lkv))/\J9 H3 H4/\H4 f=some (.dT kvs)/\FI mls ls H4 kvs/\∀j x,j < i->ls[j]?=some x->(Y6 kvs (U0 x.1)).isSome=true)
   ⟨mkv,_,_,rfl,sH3,hd4,J9.refl H3,hf3,fi3,fun j x hj=>by omega⟩ (fun i σ H4 _⟨_,_,_,_,_,h,_⟩=>h) ?_ ?_
  ·rintro i y σ H4 hy ⟨kvs,w9,w10,rfl,s4,hon4,T4,hf4,fi4,hdone⟩
   obtain⟨kv0,hkv0,b0',eb0,hb0⟩:=Paired.get? hvs3 hy
   subst eb0
   obtain⟨x0,hx0,hx0k,_⟩:=Paired.get? hlk3 hkv0
   have hx0m:x0∈ls:=List.mem_of_getElem? hx0
   have hb04:H4 b0'=some (.tup [.str x0.1.1,.str x0.1.2]):=by
    have:=T4 _ _ hb0
    rw[hx0k]at this
    exact this
   have hkl:=fi4.len
   refine⟨_,rfl,?_⟩
   apply a3M
   ·with_reducible_and_instances rfl
   refine a1J (fun σ H5=>∃(x:Kk)(b:Addr),σ=[some (.ref a),some (.ref f),some (.ref g),some (.ref d),v3,v4,v5,v6,v7,some (.ref b0'),some (.ref b)]/\H5=H4/\H4 b=some (.tup [.str x.1,.str x.2])/\(x∈mls.map (·.1)\/x∈ls.map (·.1))/\∀p,Mk mls ls x p->Mk mls ls x0.1 p) (fun σ H5=>muM r 10 σ H5)
    ⟨x0.1,b0',rfl,rfl,hb04,.inr (List.mem_map_of_mem (f:=(·.1)) hx0m),fun p hp=>hp⟩ ?_ ?_
   ·rintro σ H5 ⟨x,b,rfl,rfl,hb5,hxk,hmk⟩
    refine⟨_,rfl,_,rfl,d,_,rfl,(.inr ⟨lkv,U0 x,b,.inr ⟨ob,hon4⟩,rfl,hb5,rfl⟩:F5 H5 d (.ref b) (Y6 lkv (U0 x))),_,rfl,?_⟩
    by_cases hxl:x∈ls.map (·.1)
    ·obtain⟨yx,hyx,eyx⟩:=List.mem_map.mp hxl
     obtain⟨kvx,⟨_,t',e1,e2⟩,e3⟩:=a3n (F:=a2v H3) (fun _ _ h=>h.1) hlk3 hlkn hyx
     rw[eyx]at e3
     have hyx':(x,yx.2)∈ls:=by rw[<-eyx];exact hyx
     have hlt:r yx.2 < r x:=hrk _ hyx'
     rw[e3]
     refine B9 ?_
     have ht5:=T4 _ _ e2
     refine⟨_,rfl,_,rfl,d,_,rfl,(.inr ⟨lkv,U0 x,b,.inr ⟨ob,hon4⟩,rfl,hb5,by rw[e3,e1]⟩:F5 H5 d (.ref b) (some (.ref t'))),?_⟩
     refine⟨⟨yx.2,t',rfl,rfl,ht5,htgt hyx,fun p hp=>hmk p (.step hyx' hp)⟩,?_⟩
     show muM r 10 [some (V.ref a),some (.ref f),some (.ref g),some (.ref d),v3,v4,v5,v6,v7,some (.ref b0'),some (.ref t')] H5 < muM r 10 [some (V.ref a),some (.ref f),some (.ref g),some (.ref d),v3,v4,v5,v6,v7,some (.ref b0'),some (.ref b)] H5
     have m1:muM r 10 [some (V.ref a),some (.ref f),some (.ref g),some (.ref d),v3,v4,v5,v6,v7,some (.ref b0'),some (.ref t')] H5=r yx.2:=by
      unfold muM
      simp only[List.getElem?_cons_succ,List.getElem?_cons_zero]
      rw[ht5]
     have m2:muM r 10 [some (V.ref a),some (.ref f),some (.ref g),some (.ref d),v3,v4,v5,v6,v7,some (.ref b0'),some (.ref b)] H5=r x:=by
      unfold muM
      simp only[List.getElem?_cons_succ,List.getElem?_cons_zero]
      rw[hb5]
     rw[m1,m2]
     exact hlt
    ·rw[a5k (F:=a2v H3) (fun _ _ h=>h.1) hlk3 hxl]
     refine F6 ?_
     have hxm:=hxk.resolve_right hxl
     have hh:=fi4.has x hxm
     cases e:Y6 kvs (U0 x)with
     | none=>rw[e]at hh;cases hh
     | some v=>
      obtain⟨t,p,ev,ht,hmk'⟩:=fi4.val x v e
      subst ev
      have hget:F5 H5 f (.ref b) (some (.ref t)):=by
       have h1:=F5.t (k:=U0 x) hf4 hb5
       rw[e]at h1
       exact h1
      refine⟨_,rfl,_,rfl,f,_,rfl,hget,_,rfl,_,rfl,f,_,rfl,a0C.t (k:=U0 x0.1) hf4 hb04 (szK (by omega)),?_⟩
      have T7:=J9.dT (kvs':=O1 kvs (U0 x0.1) (.ref t)) hf4
      refine⟨O1 kvs (U0 x0.1) (.ref t),_,_,rfl,s4.put gf,by rw[G8 hfd.symm];exact hon4,T4.trans T7,G1,(fi4.put (List.mem_append_right _ (List.mem_map_of_mem (f:=(·.1)) hx0m)) ht (hmk p hmk')).mono T7,fun j y hj hy'=>?_⟩
      rw[O9]
      by_cases hji:j=i
      ·subst hji
       rw[hx0]at hy'
       cases hy'
       rw[if_pos rfl]
       rfl
      ·split
       ·rfl
       ·exact hdone j y (by omega) hy'
   ·rintro σ H5 Q1 Q2 hQ ⟨v,e,v2,e2,a2,o,e7,hg,c,e8,hq⟩
    exact⟨v,e,v2,e2,a2,o,e7,hg,c,e8,hQ _ _ hq⟩
  ·rintro σ H4 ⟨kvs,w9,w10,rfl,s4,hon4,T4,hf4,fi4,hdone⟩
   refine⟨_,rfl,q f kvs H4 s4 gf hf4 fi4 fun x hx=>?_⟩
   obtain⟨y,hy,ey⟩:=List.mem_map.mp hx
   obtain⟨j,hj⟩:=List.getElem?_of_mem hy
   have hjl:=(List.getElem?_eq_some_iff.mp hj).1
   rw[<-ey]
   exact hdone j y (by omega) hj
noncomputable def kp (p:Str×Nat):List Key:=[Sum.inr p.1,Sum.inl (p.2:Int)]
theorem b2i{p q:Str×Nat}(h:kp p=kp q):p=q:=by
 unfold kp at h
 simp only[List.cons.injEq,Sum.inr.injEq,Sum.inl.injEq,and_true]at h
 obtain⟨a,b⟩:=p
 obtain⟨c,d⟩:=q
 simp only at h
 rw[h.1,Int.ofNat.inj h.2]
noncomputable def M2 (mls:List (Kk×(Str×Nat))) (ts:List Tr):List ((Str×Nat)×Str):=(mls.map (·.2)).zip (W4 ts)
noncomputable def b0U (kv:List Key×V) (x:(Str×Nat)×Str):Prop:=kv.1=kp x.1/\kv.2= .str x.2
theorem F0(pls:List Pl):W1 pls=(R5 pls).map (·.1):=by
 unfold W1 R5
 rw[List.map_filterMap]
 congr 1
 funext x
 cases B3 x.2.2<;>rfl
theorem a9u:∀pls:List Pl,((R5 pls).map (·.2)).Sublist (pls.map fun x=>(x.1,x.2.1))
 | []=>by simp[R5]
 | x::r=>by
  have ih:=a9u r
  have e:R5 (x::r)=R5 [x]++R5 r:=by rw[<-M9];rfl
  rw[e,List.map_append,List.map_cons]
  cases ho:B3 x.2.2 with
  | none=>
   have:R5 [x]=[]:=by simp[R5,ho]
   rw[this]
   exact ih.trans (List.sublist_cons_self _ _)
  | some o=>
   have:R5 [x]=[((x.1,o),(x.1,x.2.1))]:=by simp[R5,ho]
   rw[this]
   exact ih.cons_cons _
theorem a7b(n:Str)(rs:List Rw):((R1 n rs).map fun x=>(x.1,x.2.1)).Nodup:=by
 have e:(R1 n rs).map (fun x=>(x.1,x.2.1))=(List.range rs.length).map fun i=>(n,i):=by
  refine List.ext_getElem? fun i=>?_
  unfold R1
  rw[List.map_map,List.getElem?_map,List.getElem?_map,List.getElem?_zipIdx]
  by_cases h:i < rs.length
  ·rw[List.getElem?_eq_getElem h,List.getElem?_range h]
   simp
  ·rw[List.getElem?_eq_none (by omega),List.getElem?_eq_none (by rw[List.length_range];omega)]
   rfl
 rw[e,List.nodup_iff_pairwise_ne,List.pairwise_map]
 exact(List.nodup_iff_pairwise_ne.mp List.nodup_range).imp fun hne z=>hne (Prod.mk.inj z).2
theorem a6p:∀{ps:List Pt},(ps.map (·.1)).Nodup->((G7 ps).map fun x=>(x.1,x.2.1)).Nodup
 | [],_=>by simp[G7]
 | pt::r,hn=>by
  rw[List.map_cons,List.nodup_cons]at hn
  have e:G7 (pt::r)=R1 pt.1 pt.2++G7 r:=rfl
  rw[e,List.map_append]
  refine List.nodup_append.mpr ⟨a7b _ _,a6p hn.2,fun x hx y hy z=>?_⟩
  obtain⟨x',hx',e1⟩:=List.mem_map.mp hx
  obtain⟨y',hy',e2⟩:=List.mem_map.mp hy
  have h1:=(a0p.mp hx').1
  obtain⟨rs,h2,_⟩:=a0r.mp hy'
  rw[<-e1,<-e2]at z
  have h3:x'.1=y'.1:=(Prod.mk.inj z).1
  exact hn.1 (by rw[<-h1,h3];exact List.mem_map_of_mem (f:=(·.1)) h2)
theorem a1N{ps:List Pt}(h:(ps.map (·.1)).Nodup):((R5 (G7 ps)).map (·.2)).Nodup:=(a9u _).nodup (a6p h)
theorem a6Z{mls:List (Kk×(Str×Nat))}{ts:List Tr}(h:ts.length=mls.length):(M2 mls ts).map (·.1)=mls.map (·.2):=by
 unfold M2 W4
 rw[List.map_fst_zip]
 rw[List.length_map,List.length_map]
 omega
theorem b2t{mls:List (Kk×(Str×Nat))}{ts:List Tr}{i:Nat}{x:Kk×(Str×Nat)}{t:Tr}(h1:mls[i]?=some x)(h2:ts[i]?=some t):(M2 mls ts)[i]?=some (x.2,t.2.2):=by
 unfold M2 W4
 rw[List.getElem?_zip_eq_some]
 exact⟨by rw[List.getElem?_map,h1];rfl,by rw[List.getElem?_map,h2];rfl⟩
theorem a9e:∀{nkv:List (List Key×V)}{nls:List ((Str×Nat)×Str)}{x:(Str×Nat)×Str},Paired b0U nkv nls->(nls.map (·.1)).Nodup->x∈nls->Y6 nkv (kp x.1)=some (.str x.2)
 | _,_,x,.nil,_,hx=>by simp at hx
 | _,_,x,.cons (a:=kv) (b:=y) (l₂:=r) ⟨e1,e2⟩ t,hn,hx=>by
  rw[List.map_cons,List.nodup_cons]at hn
  rcases List.mem_cons.mp hx with z | z
  ·subst z
   rw[F2 e1,e2]
  ·rw[E1 (fun w=>hn.1 (by rw[b2i (e1.symm.trans w)];exact List.mem_map_of_mem (f:=(·.1)) z))]
   exact a9e t hn.2 z
theorem b2C{nkv:List (List Key×V)}{nls:List ((Str×Nat)×Str)}{p:Str×Nat}(h:Paired b0U nkv nls)(hp:p∉nls.map (·.1)):kp p∉nkv.map (·.1):=by
 intro z
 obtain⟨kv,hkv,e⟩:=List.mem_map.mp z
 obtain⟨i,hi⟩:=List.getElem?_of_mem hkv
 obtain⟨x,hx,e1,_⟩:=Paired.get? h hi
 exact hp (List.mem_map.mpr ⟨x,List.mem_of_getElem? hx,b2i (e1.symm.trans e)⟩)
theorem a7i{κ:Type}[DecidableEq κ]:∀{kvs:List (κ×V)}{i:Nat}{kv:κ×V},(kvs.map (·.1)).Nodup->kvs[i]?=some kv->Y6 kvs kv.1=some kv.2
 | [],i,kv,_,h=>by simp at h
 | x::r,i,kv,hn,h=>by
  rw[List.map_cons,List.nodup_cons]at hn
  cases i with
  | zero=>cases h;exact F2 rfl
  | succ i=>
   have h':r[i]?=some kv:=h
   rw[E1 (fun z=>hn.1 (by rw[z];exact List.mem_map_of_mem (f:=(·.1)) (List.mem_of_getElem? h')))]
   exact a7i hn.2 h'
theorem Mk.place{mls:List (Kk×(Str×Nat))}{ls:List (Kk×Kk)}{k:Kk}{p:Str×Nat}(h:Mk mls ls k p):∃k',(k',p)∈mls:=by
 induction h with
 | base h=>exact⟨_,h⟩
 | step _ _ ih=>exact ih
noncomputable def b2G (mls:List (Kk×(Str×Nat))) (ls:List (Kk×Kk)) (ts:List Tr) (fkv:List (List Key×V)):Prop:=∀x∈mls.map (·.1)++ls.map (·.1),∃p n,Mk mls ls x p/\(p,n)∈M2 mls ts/\Y6 fkv (U0 x)=some (.str n)
noncomputable def b2g:Sp:=fun vs H Q _=>∃(a:Addr)(ps:List Pt),vs=[.ref a]/\F3 H a ps/\a0c ps/\M3 (G7 ps)/\(∀k∈W1 (G7 ps),k.2.length<=100)/\∀(f:Addr)(fkv:List (List Key×V))(ts:List Tr)(H':Hp),G6 H H'->H' f=some (.dT fkv)->ts.map (fun t=>(t.1,t.2.1))=W1 (G7 ps)->a4H ((W1 (G7 ps)).map (·.2)) ts->b2G (R5 (G7 ps)) (O3 (G7 ps)) ts fkv->Q (.ref f) H'
theorem b0D(T:Txt K mg):L2.Cl P w K mg base 5 "makers_names" ["parts"] b2g:=by
 have C_makers:=b0j (P:=P) (w:=w) (base:=base) T
 have C_new_names:=b4J (P:=P) (w:=w) (base:=base) T
 refine Cl.of T.d_makers_names Z4 (fun vs H Q E h=>?_) (fun _ _ _ _ _ _ us hl=>by obtain⟨a,rfl⟩:=a2V hl;rfl) (fun fa cdv A outer s H vs Q E hr h=>?_)
 ·obtain⟨a,ps,rfl,_⟩:=h
  rfl
 ·obtain⟨a,ps,rfl,hpf,hfit,hnet,hklen,q⟩:=h
  have hu:=D4 hr
  have hpl:=hnet.len
  have hml:=a1Y (G7 ps)
  have hll:(O3 (G7 ps)).length<=5760:=by
   have h1:=a2E hnet.brs
   unfold O3
   rw[List.length_map]
   omega
  have hknd:(W1 (G7 ps)).Nodup:=by rw[F0];exact hnet.mkNodup
  have hpnd:=a1N hfit.nd
  refine⟨_,(G3 (I9 (i:=1) Z4.nd rfl (Or.inl rfl) (U9 C_makers hr (by rfl) (G0 (pv 0) G4)))
   (G3 (I9 (i:=2) Z4.nd rfl (Or.inl rfl) M4)
   (G3 (Y0 PassesOwn.never rfl (F1 (U9 C_new_names hr (by rfl) (G0 (pv 0) G4))) (E2 rfl (J0 (I0 (i:=3) Z4.nd rfl (Or.inl rfl)) (J0 (I0 (i:=4) Z4.nd rfl (Or.inl rfl)) (J0 (I0 (i:=5) Z4.nd rfl (Or.inl rfl)) Y1))))
    (G5 (E5 hu (pv 2) (Z0 hu (pv 1) (R9 (G0 (pv 3) (G0 (pv 4) G4))) (fun _ _=>rfl)) (pv 5) rfl)))
   (G3 (I9 (i:=6) Z4.nd rfl (Or.inl rfl) M4)
   (G3 (Y0 PassesOwn.never rfl (a9T (pv 1)) (E2 rfl (J0 (I0 (i:=7) Z4.nd rfl (Or.inl rfl)) (J0 (I0 (i:=8) Z4.nd rfl (Or.inl rfl)) Y1)))
    (G5 (E5 hu (pv 6) (pv 7) (Z0 hu (pv 2) (pv 8) (fun _ _=>rfl)) rfl)))
   (G5 (R4 (pv 6)))))))),?_⟩
  refine⟨_,rfl,a,ps,rfl,hpf,hfit,hnet,fun d pkv H1 s1 gd hd1 fi1 hall=>?_⟩
  intro n gn
  have s2:G6 H1 (upd H1 n (.dT [])):=(G6.refl H1).new gn
  refine⟨_,rfl,a,ps,rfl,(s1.trans s2).partsF hpf,hfit,hknd,hklen,fun p vs ts H3 s3 hp hvs hks hnn=>?_⟩
  have htl:ts.length=(R5 (G7 ps)).length:=by
   have:=congrArg List.length hks
   rw[List.length_map,F0,List.length_map]at this
   exact this
  have hnf:=a6Z htl
  have hnl:(M2 (R5 (G7 ps)) ts).length=ts.length:=by
   have:=congrArg List.length hnf
   rw[List.length_map,List.length_map]at this
   omega
  have hvl:vs.length=ts.length:=Paired.length hvs
  have s13:=s2.trans s3
  refine⟨p,rfl,⟨_,SqT.of hp⟩,E6 (K:=K) (a:=p) (xs:=vs) (fun i σ H4=>∃(nkv:List (List Key×V))(v3 v4 v5:Option V),σ=[some (.ref a),some (.ref d),some (.ref n),v3,v4,v5,none,none,none]/\G6 H1 H4/\J9 H3 H4/\H4 n=some (.dT nkv)/\Paired b0U nkv ((M2 (R5 (G7 ps)) ts).take i))
   ⟨[],none,none,none,rfl,s13,J9.refl H3,s3 _ _ G1,by rw[List.take_zero];exact .nil⟩ (fun i σ H4 _⟨_,_,_,_,_,_,t4,_⟩=>SqT.of (t4 _ _ hp)) ?_ ?_⟩
  ·rintro i y σ H4 hy ⟨nkv,v3,v4,v5,rfl,s4,t4,hn4,hnv⟩
   obtain⟨t,ht,c,ey,hc⟩:=Paired.get? hvs hy
   subst ey
   have hi:i < ts.length:=(List.getElem?_eq_some_iff.mp ht).1
   obtain⟨x,hx⟩:∃x,(R5 (G7 ps))[i]?=some x:=⟨(R5 (G7 ps))[i]'(by omega),by simp[show i < (R5 (G7 ps)).length by omega]⟩
   have hxk:x.1=(t.1,t.2.1):=by
    have h1:=congrArg (fun l=>l[i]?) hks
    simp only[F0,List.getElem?_map,ht,hx,Option.map_some,Option.some.injEq]at h1
    exact h1.symm
   have hxm:=List.mem_of_getElem? hx
   have hn:=b2t hx ht
   have hnkl:nkv.length<=960:=by
    rw[Paired.length hnv,List.length_take]
    omega
   have hsome:=fi1.has x.1 (List.mem_map_of_mem (f:=(·.1)) hxm)
   cases e:Y6 pkv (U0 x.1)with
   | none=>rw[e]at hsome;cases hsome
   | some v=>
    obtain⟨t',p',ev,ht',hmk⟩:=fi1.val _ v e
    subst ev
    have hpp:p'=x.2:=hnet.uniq hmk (.base hxm)
    subst hpp
    refine⟨c,_,rfl,SqT.of (t4 _ _ hc),rfl,_,_,rfl,_,_,rfl,_,_,rfl,rfl,?_⟩
    refine⟨_,rfl,_,rfl,_,rfl,_,rfl,_,rfl,Z9,fun e' ge=>?_⟩
    have s5:G6 H4 (upd H4 e' (.tup [.str t.1,.str t.2.1])):=(G6.refl H4).new ge
    have hget:F5 (upd H4 e' (.tup [.str t.1,.str t.2.1])) d (.ref e') (some (.ref t')):=by
     have h1:=F5.t (k:=U0 (t.1,t.2.1)) (s5 _ _ (s4 _ _ hd1)) (show upd H4 e' (.tup [.str t.1,.str t.2.1]) e'=some (.tup ((U0 (t.1,t.2.1)).map kV))from G1)
     rw[<-hxk,e]at h1
     exact h1
    have hn5:=s5 _ _ hn4
    refine⟨d,_,rfl,hget,n,_,rfl,a0C.t (k:=kp x.2) hn5 (s5 _ _ (s4 _ _ ht')) (szK (by omega)),?_⟩
    have hnew:kp x.2∉nkv.map (·.1):=b2C hnv (fun z=>by
     have h1:((M2 (R5 (G7 ps)) ts).take (i+1)).map (·.1)=((R5 (G7 ps)).map (·.2)).take (i+1):=by rw[List.map_take,hnf]
     have h2:(((M2 (R5 (G7 ps)) ts).take (i+1)).map (·.1)).Nodup:=by
      rw[h1]
      exact(List.take_sublist _ _).nodup hpnd
     rw[J2 hn,List.map_append]at h2
     exact(List.nodup_append.mp h2).2.2 _ z _ (List.mem_singleton.mpr rfl) rfl)
    rw[M7 hnew]
    have TD:=J9.dT (kvs':=nkv++[(kp x.2,.str t.2.2)]) hn5
    refine⟨nkv++[(kp x.2,.str t.2.2)],_,_,_,rfl,(s4.trans s5).put gn,t4.trans (s5.tups.trans TD),G1,?_⟩
    rw[J2 hn]
    exact Paired.snoc hnv ⟨rfl,rfl⟩
  ·rintro σ H4 ⟨nkv,v3,v4,v5,rfl,s4,t4,hn4,hnv⟩
   rw[hvl,<-hnl,List.take_length]at hnv
   intro f gf
   have s5:G6 H4 (upd H4 f (.dT [])):=(G6.refl H4).new gf
   have hd5:=s5 _ _ (s4 _ _ hd1)
   have hdf:d≠f:=fun z=>by rw[<-z,s4 _ _ hd1]at gf;cases gf
   have hdn:d≠n:=fun z=>by rw[<-z,hd1]at gn;cases gn
   have hfn:f≠n:=fun z=>by rw[z,hn4]at gf;cases gf
   have gfH:H f=none:=(s1.trans s4).free gf
   have fi5:FI (R5 (G7 ps)) (O3 (G7 ps)) (upd H4 f (.dT [])) pkv:=fi1.mono (s4.trans s5).tups
   refine⟨_,rfl,d,pkv,rfl,hd5,fun ob prs hprs=>?_⟩
   have T6:J9 (upd H4 f (.dT [])) (upd (upd H4 f (.dT [])) d (.frz ob (.dT pkv))):=J9.frz hd5
   have s6:G6 H (upd (upd H4 f (.dT [])) d (.frz ob (.dT pkv))):=((s1.trans s4).trans s5).put gd
   have hd6:upd (upd H4 f (.dT [])) d (.frz ob (.dT pkv)) d=some (.frz ob (.dT pkv)):=G1
   have hn6:upd (upd H4 f (.dT [])) d (.frz ob (.dT pkv)) n=some (.dT nkv):=by rw[G8 hdn.symm];exact s5 _ _ hn4
   have hf6:upd (upd H4 f (.dT [])) d (.frz ob (.dT pkv)) f=some (.dT []):=by rw[G8 hdf.symm,G1]
   have fi6:=fi5.mono T6
   have hprs6:Paired (b2Z (upd (upd H4 f (.dT [])) d (.frz ob (.dT pkv)))) prs pkv:=Paired.mapP hprs fun _ _⟨⟨b,e,hb⟩,e2⟩=>⟨⟨b,e,T6 _ _ hb⟩,e2⟩
   have hprl:prs.length=pkv.length:=Paired.length hprs
   have hpkl:=fi6.len
   generalize upd (upd H4 f (.dT [])) d (.frz ob (.dT pkv))=H6 at s6 hd6 hn6 hf6 fi6 hprs6⊢
   refine a8E (d:=d) (o:=ob) (u:= .dT pkv) (ps:=prs) (fun i σ H7=>∃(fkv:List (List Key×V))(v7 v8:Option V),σ=[some (.ref a),some (.ref d),some (.ref n),v3,v4,v5,some (.ref f),v7,v8]/\G6 H H7/\J9 H6 H7/\H7 d=some (.frz ob (.dT pkv))/\H7 n=some (.dT nkv)/\H7 f=some (.dT fkv)/\fkv.length<=i/\∀j kv,j < i->pkv[j]?=some kv->∃x p nm,kv.1=U0 x/\Mk (R5 (G7 ps)) (O3 (G7 ps)) x p/\(p,nm)∈M2 (R5 (G7 ps)) ts/\Y6 fkv (U0 x)=some (.str nm))
    ⟨[],none,none,rfl,s6,J9.refl H6,hd6,hn6,hf6,by simp,fun j kv hj=>by omega⟩ (fun i σ H7 _⟨_,_,_,_,_,_,h,_⟩=>h) ?_ ?_
   ·rintro i kv' pa σ H7 hkv' ⟨fkv,v7,v8,rfl,s7,t7,hd7,hn7,hf7,hfl,hdone⟩ gpa
    obtain⟨kv,hkv,⟨b,eb,hb⟩,ev2⟩:=Paired.get? hprs6 hkv'
    have hi:i < pkv.length:=(List.getElem?_eq_some_iff.mp hkv).1
    have hsub:=fi6.sub kv.1 (List.mem_map_of_mem (f:=(·.1)) (List.mem_of_getElem? hkv))
    obtain⟨x,hxm,ex⟩:=List.mem_map.mp hsub
    have hval:=a7i fi6.nd hkv
    rw[<-ex]at hval hb
    obtain⟨t,p',ev,ht,hmk⟩:=fi6.val x _ hval
    obtain⟨k',hk'⟩:=hmk.place
    obtain⟨m,hm⟩:=List.getElem?_of_mem hk'
    have hmt:m < ts.length:=by
     have:=(List.getElem?_eq_some_iff.mp hm).1
     omega
    have hnm:=List.mem_of_getElem? (b2t hm (List.getElem?_eq_getElem hmt))
    have hnval:=a9e hnv (by rw[hnf];exact hpnd) hnm
    generalize (ts[m]).2.2=nm at hnm hnval
    have s8:G6 H7 (upd H7 pa (.tup [kv'.1,kv'.2])):=(G6.refl H7).new gpa
    refine⟨pa,_,rfl,SqT.of G1,rfl,_,_,rfl,_,_,rfl,rfl,?_⟩
    rw[eb,ev2,ev]at s8⊢
    generalize upd H7 pa (.tup [V.ref b,V.ref t])=H8 at s8⊢
    have hget:F5 H8 n (.ref t) (some (.str nm)):=by
     have h1:=F5.t (k:=kp p') (s8 _ _ hn7) (s8 _ _ (t7 _ _ ht))
     rw[hnval]at h1
     exact h1
    have hf8:=s8 _ _ hf7
    refine⟨_,rfl,_,rfl,n,_,rfl,hget,_,rfl,_,rfl,f,_,rfl,a0C.t (k:=U0 x) hf8 (s8 _ _ (t7 _ _ hb)) (szK (by omega)),?_⟩
    have TD:=J9.dT (kvs':=O1 fkv (U0 x) (.str nm)) hf8
    refine⟨O1 fkv (U0 x) (.str nm),_,_,rfl,(s7.trans s8).put gfH,t7.trans (s8.tups.trans TD),by rw[G8 hdf];exact s8 _ _ hd7,by rw[G8 hfn.symm];exact s8 _ _ hn7,G1,?_,fun j kj hj hkj=>?_⟩
    ·have:=B4 fkv (U0 x) (.str nm)
     omega
    ·by_cases hji:j=i
     ·subst hji
      rw[hkv]at hkj
      cases hkj
      exact⟨x,p',nm,ex.symm,hmk,hnm,by rw[O9,if_pos rfl]⟩
     ·obtain⟨x2,p2,n2,h1,h2,h3,h4⟩:=hdone j kj (by omega) hkj
      by_cases hxx:U0 x2=U0 x
      ·rw[a0B hxx]at h1
       exact⟨x,p',nm,h1,hmk,hnm,by rw[O9,if_pos rfl]⟩
      ·exact⟨x2,p2,n2,h1,h2,h3,by rw[O9,if_neg hxx];exact h4⟩
   ·rintro σ H7 ⟨fkv,v7,v8,rfl,s7,t7,hd7,hn7,hf7,hfl,hdone⟩
    refine⟨_,rfl,q f fkv ts H7 s7 hf7 hks hnn fun x hx=>?_⟩
    have hsome:(Y6 pkv (U0 x)).isSome=true:=by
     rcases List.mem_append.mp hx with z | z
     ·exact fi1.has x z
     ·exact hall x z
    cases e:Y6 pkv (U0 x)with
    | none=>rw[e]at hsome;cases hsome
    | some v=>
     obtain⟨kv,hkv,ek⟩:=List.mem_map.mp (a9g e)
     obtain⟨j,hj⟩:=List.getElem?_of_mem hkv
     have hjl:=(List.getElem?_eq_some_iff.mp hj).1
     obtain⟨x2,p2,n2,h1,h2,h3,h4⟩:=hdone j kv (by omega) hj
     have:x2=x:=a0B (h1.symm.trans ek)
     subst this
     exact⟨p2,n2,h2,h3,h4⟩
theorem b1F{β:Type}{F:Hp->List Key×V->Kk×β->Prop}(hF:∀H kv x,F H kv x->kv.1=U0 x.1){H:Hp}{vs:List V}{kvs:List (List Key×V)}{xs:List (Kk×β)}(h1:Paired (a2X H) vs kvs)(h2:Paired (F H) kvs xs):Paired (a7z H) vs (xs.map (·.1)):=by
 induction h1 generalizing xs with
 | nil=>cases h2;exact .nil
 | cons a t ih=>
  cases h2 with
  | cons b t2=>
   obtain⟨c,e,hc⟩:=a
   rw[hF _ _ _ b]at hc
   exact .cons ⟨c,e,hc⟩ (ih t2)
noncomputable def muW (σ:L2.St):Nat:=match σ[8]? with
 | some (some (V.int n))=>(6000 - n).toNat
 | _=>0
noncomputable def nmM (o:Str) (m:Nat):Str:=if m=1 then o else o++nt m
theorem b6i{own:Str}{L:List Str}{n:Nat}(hn:n<=6000)(h:∀j,2<=j->j < n->own++nt j∈L):n<=L.length+2:=by
 have:=few (own:=own) (kvs:=L.map fun y=>((Sum.inr y:Key),V.non)) hn (fun j h1 h2=>by
  rw[<-a1H]
  exact List.any_eq_true.mpr ⟨_,List.mem_map_of_mem (h j h1 h2),by simp⟩)
 rw[List.length_map]at this
 exact this
theorem b1T{mls:List (Kk×(Str×Nat))}{ts:List Tr}(h:ts.length=mls.length)(x:Kk×(Str×Nat))(t:Tr):M2 (mls++[x]) (ts++[t])=M2 mls ts++[(x.2,t.2.2)]:=by
 unfold M2 W4
 rw[List.map_append,List.map_append,List.zip_append (by rw[List.length_map,List.length_map,h])]
 rfl
noncomputable def b3m:Sp:=fun vs H Q _=>∃(a:Addr)(ps:List Pt),vs=[.ref a]/\F3 H a ps/\a0c ps/\M3 (G7 ps)/\(∀k∈W1 (G7 ps),k.2.length<=100)/\∀(d:Addr)(nkv:List (List Key×V))(ts:List Tr)(H':Hp),G6 H H'->H' d=some (.dT nkv)->ts.map (fun t=>(t.1,t.2.1))=W1 (G7 ps)->a4H ((W1 (G7 ps)).map (·.2)) ts->Paired b0U nkv (M2 (R5 (G7 ps)) ts)->Q (.ref d) H'
theorem b1o(T:Txt K mg):L2.Cl P w K mg base 2 "_law_news" ["_law_parts_here"] b3m:=by
 have C_law_made:=a7L (P:=P) (w:=w) (base:=base) T
 refine Cl.of T.d_law_news O4 (fun vs H Q E h=>?_) (fun _ _ _ _ _ _ us hl=>by obtain⟨a,rfl⟩:=a2V hl;rfl) (fun fa cdv A outer s H vs Q E hr h=>?_)
 ·obtain⟨a,ps,rfl,_⟩:=h
  rfl
 ·obtain⟨a,ps,rfl,hpf,hfit,hnet,hklen,q⟩:=h
  have hu:=D4 hr
  have hpl:=hnet.len
  obtain⟨o,vs,ha,ho,hps⟩:=id hpf
  have hvl:vs.length=ps.length:=Paired.length hps
  have hhi:=hfit.hi
  have hml:=a1Y (G7 ps)
  have hpnd:=a1N hfit.nd
  refine⟨_,(G3 (a3S (j:=1) (M:=["_law_name_here","_law_own"]) (ρ:=[none,none]) (J3 a1M) ["_law_parts_here","_law_owns","_law_news_here","_law_used","_law_name_here","_law_rows","_law_k","_law_new","_law_number"] ⟨rfl,by decide +kernel,by decide +kernel,by decide +kernel,rfl,by decide +kernel,by decide +kernel⟩ O4.nd rfl (Or.inl rfl) (a5o (U9 C_law_made hr (by rfl) (G0 (pv 0) G4))) (fun _ _ _ _ _ _=>(a1X (K:=K) (n:=2) rfl rfl (J0 (I0 (i:=0) (show(["_law_name_here","_law_own"]:List Str).Nodup by decide +kernel) rfl (Or.inl rfl)) (J0 (I0 (i:=1) (show(["_law_name_here","_law_own"]:List Str).Nodup by decide +kernel) rfl (Or.inl rfl)) Y1)))) (fun _ _ _ _ _ _=>a1m) (fun _ _ _ _ _ _=>(pv 1)))
   (G3 (I9 (i:=2) O4.nd rfl (Or.inl rfl) M4)
   (G3 (I9 (i:=3) O4.nd rfl (Or.inl rfl) a2z)
   (G3 (Y0 PassesOwn.never rfl (F1 (pv 0)) (E2 rfl (J0 (I0 (i:=4) O4.nd rfl (Or.inl rfl)) (J0 (I0 (i:=5) O4.nd rfl (Or.inl rfl)) Y1)))
    (G5 (Y0 PassesOwn.never rfl (a0f (by rfl) T.n_range (G0 (R3 J8 (by rfl) T.n_len PySem.boot_len (G0 (pv 5) G4)) G4)) (I0 (i:=6) O4.nd rfl (Or.inl rfl))
     (G5 (U8 (PW.pt (a2l (J7 Z8 (G9 J5 (G9 J5 (pv 5) (pv 6) (fun _ _=>rfl)) G2 (fun _ _=>rfl)) R6 (R7 _)) (a1v (J7 Z8 (G9 J5 (G9 J5 (pv 5) (pv 6) (fun _ _=>rfl)) G2 (fun _ _=>rfl)) R6 (R7 _)))))
      (G3 (I9 (i:=7) O4.nd rfl (Or.inl rfl) (G9 J5 (G9 J5 (pv 5) (pv 6) (fun _ _=>rfl)) G2 (fun _ _=>rfl)))
      (G3 (I9 (i:=8) O4.nd rfl (Or.inl rfl) G2)
      (G3 (a1c PassesOwn.never (PW.pt (a2l (a2m (a8G hu (pv 7) (pv 3))) (a1v (PW.pt (a0Y (J7 a4t (pv 8) G2 (R7 _)) (a0k (J7 a2I (pv 7) (pv 1) (by with_unfolding_all rfl))))))))
       (G3 (I9 (i:=8) O4.nd rfl (Or.inl rfl) (J1 O0 (pv 8) G2))
       (G5 (I9 (i:=7) O4.nd rfl (Or.inl rfl) (J1 B2 (G9 J5 (G9 J5 (pv 5) (pv 6) (fun _ _=>rfl)) G2 (fun _ _=>rfl)) (U6 a0P (by rfl) T.n_str boot_str (G0 (pv 8) G4)))))))
      (G3 (E5 hu (pv 3) (pv 7) a0O rfl)
      (G5 (E5 hu (pv 2) (R9 (G0 (pv 4) (G0 (pv 6) G4))) (pv 7) rfl)))))) R8)))))
   (G5 (R4 (pv 2))))))),?_⟩
  refine⟨_,rfl,a,ps,rfl,hpf,hfit,hnet,fun md mkv H1 s1 gmd hmd hmk=>⟨md,mkv,rfl,hmd,fun ob ks hks=>fun D hD=>?_⟩⟩
  have hmne:D≠md:=fun z=>by rw[z,G1]at hD;cases hD
  have gD1:H1 D=none:=by rw[G8 hmne]at hD;exact hD
  have T1:J9 H1 (upd H1 md (.frz ob (.dT mkv))):=J9.frz hmd
  have sF:G6 H (upd H1 md (.frz ob (.dT mkv))):=s1.put gmd
  have hks':Paired (a7z (upd H1 md (.frz ob (.dT mkv)))) ks ((R5 (G7 ps)).map (·.1)):=Paired.mapP (b1F (F:=a3i) (fun _ _ _ h=>h.1) hks hmk) fun _ _ z=>z.mono T1
  have hkl:ks.length=(R5 (G7 ps)).length:=by rw[Paired.length hks',List.length_map]
  have hmdF:upd H1 md (.frz ob (.dT mkv)) md=some (.frz ob (.dT mkv)):=G1
  generalize upd H1 md (.frz ob (.dT mkv))=HF at hD sF hks' hmdF T1⊢
  refine a3t ks.length (fun i σ H2=>∃(v0 v1:Option V),σ=[v0,v1]/\G6 HF H2/\H2 D=some (.lst ((((W1 (G7 ps)).map (·.2)).take i).map V.str))) ⟨_,_,rfl,(G6.refl HF).new hD,by rw[List.take_zero];exact G1⟩ ?_ ?_
  ·rintro i σ H2 hi ⟨v0,v1,rfl,s2,hD2⟩
   refine⟨⟨s2 _ _ hmdF,hi⟩,?_⟩
   rintro x H3 ⟨rfl,hx⟩
   obtain⟨k,hk,c,ec,hc⟩:=Paired.get? hks' hx
   subst ec
   refine⟨c,_,rfl,SqT.of (s2 _ _ hc),rfl,_,_,rfl,_,_,rfl,rfl,?_⟩
   have hk2:((W1 (G7 ps)).map (·.2))[i]?=some k.2:=by
    rw[F0,List.getElem?_map,hk]
    rfl
   refine⟨_,rfl,_,hD2,J6 (by rw[List.length_map,List.length_take,List.length_map,F0,List.length_map];omega),_,_,rfl,s2.put hD,?_⟩
   rw[G1,J2 hk2,List.map_append]
   rfl
  ·rintro σ H2 ⟨v0,v1,rfl,s2,hD2⟩
   refine⟨⟨s2 _ _ hmdF,Nat.le_refl _⟩,?_⟩
   rw[hkl,List.take_of_length_le (by rw[List.length_map,F0,List.length_map];omega)]at hD2
   generalize hmdl:(W1 (G7 ps)).map (·.2)=mdl at*
   have hmdlen:mdl.length<=960:=by rw[<-hmdl,List.length_map,F0,List.length_map];omega
   have sH2:G6 H H2:=sF.trans s2
   have ha2:=sH2 _ _ ha
   have hps2:Paired (a1t H2) vs ps:=Paired.mapP hps fun _ _ z=>z.mono sH2.tups
   have sqa:∀{H5:Hp},G6 H2 H5->SqT K H5 a vs:=fun s5=> .inl (.inr ⟨o,s5 _ _ ha2⟩)
   intro n gn
   intro us gus
   have hnu:n≠us:=fun z=>by rw[<-z,G1]at gus;cases gus
   have gus2:H2 us=none:=by rw[<-G8 (H:=H2) (o:= .dT []) hnu.symm];exact gus
   have s3:G6 H2 (upd (upd H2 n (.dT [])) us (.dK [])):=((G6.refl H2).new gn).new gus
   refine⟨_,rfl,a,rfl,⟨_,sqa s3⟩,E6 (K:=K) (a:=a) (xs:=vs) (fun i σ H3=>∃(nkv:List (List Key×V))(lu:List Str)(ts:List Tr)(v4 v5 v6 v7 v8:Option V),σ=[some (.ref a),some (.ref D),some (.ref n),some (.ref us),v4,v5,v6,v7,v8]/\G6 H2 H3/\H3 n=some (.dT nkv)/\H3 us=some (.dK (O6 lu))/\(∀y,y∈lu↔y∈W4 ts)/\lu.length<=ts.length/\ts.map (fun t=>(t.1,t.2.1))=W1 (G7 (ps.take i))/\a4H mdl ts/\Paired b0U nkv (M2 (R5 (G7 (ps.take i))) ts))
    ⟨[],[],[],none,none,none,none,none,rfl,s3,by rw[G8 hnu,G1],G1,fun y=>by simp[W4],Nat.le_refl _,by rw[List.take_zero];rfl,fun i t e=>by simp at e,by rw[List.take_zero];exact .nil⟩ (fun i σ H3 _⟨_,_,_,_,_,_,_,_,_,s4,_⟩=>sqa s4) ?_ ?_⟩
   ·rintro i y σ H3 hy ⟨nkv,lu,ts,v4,v5,v6,v7,v8,rfl,s4,hn4,hus4,hlu,hlul,hts,hnn,hnv⟩
    obtain⟨pt,hpt,t,u,ws,ey,ht,hu',hrs⟩:=Paired.get? hps2 hy
    subst ey
    have hwl:ws.length=pt.2.length:=Paired.length hrs
    have hr40:=hfit.rows _ (List.mem_of_getElem? hpt)
    refine⟨t,_,rfl,SqT.of (s4 _ _ ht),rfl,_,_,rfl,_,_,rfl,rfl,?_⟩
    refine⟨_,rfl,u,_,rfl,.inr (SqT.of (s4 _ _ hu')),_,rfl,(by omega),(by omega),B7 (fun j σ H4=>∃(nkv:List (List Key×V))(lu:List Str)(ts:List Tr)(v6 v7 v8:Option V),σ=[some (.ref a),some (.ref D),some (.ref n),some (.ref us),some (.str pt.1),some (.ref u),v6,v7,v8]/\G6 H2 H4/\H4 n=some (.dT nkv)/\H4 us=some (.dK (O6 lu))/\(∀y,y∈lu↔y∈W4 ts)/\lu.length<=ts.length/\ts.map (fun t=>(t.1,t.2.1))=W1 (G7 (ps.take i)++R1 pt.1 (pt.2.take j))/\a4H mdl ts/\Paired b0U nkv (M2 (R5 (G7 (ps.take i)++R1 pt.1 (pt.2.take j))) ts))
     ⟨nkv,lu,ts,_,_,_,rfl,s4,hn4,hus4,hlu,hlul,by rw[List.take_zero];show _=W1 (G7 (ps.take i)++[]);rw[List.append_nil];exact hts,hnn,by rw[List.take_zero];show Paired _ nkv (M2 (R5 (G7 (ps.take i)++[])) ts);rw[List.append_nil];exact hnv⟩ ?_ ?_⟩
    ·rintro j σ H4 hj ⟨nkv,lu,ts,w6,w7,w8,rfl,s5,hn5,hus5,hlu,hlul,hts,hnn,hnv⟩
     rw[Int.zero_add]
     have hj':j < pt.2.length:=by omega
     obtain⟨rr,hrw⟩:∃rr,pt.2[j]?=some rr:=⟨pt.2[j],by simp[hj']⟩
     obtain⟨rest,hsp⟩:=a6V hpt hrw
     have hX:=a3A (ps:=ps) (i:=i) hrw
     obtain⟨v,hv,r,er,hra⟩:=Paired.get?' hrs hrw
     subst er
     have hra4:=hra.mono s5.tups
     have hu4:=s5 _ _ hu'
     have hat:atI ws (j:Int)=some (.ref r):=U3 hv
     generalize G7 (ps.take i)++R1 pt.1 (pt.2.take j)=Xs at hts hnv hsp hX
     have hXl:Xs.length<=960:=by
      have h1:=congrArg List.length hsp
      rw[List.length_append]at h1
      omega
     have htl:ts.length=(R5 Xs).length:=by
      have:=congrArg List.length hts
      rw[List.length_map,F0,List.length_map]at this
      exact this
     have hmX:=a1Y Xs
     have hnkl:nkv.length<=960:=by
      rw[Paired.length hnv]
      unfold M2 W4
      rw[List.length_zip,List.length_map,List.length_map]
      omega
     have hsp1:G7 ps=(Xs++[(pt.1,j,rr)])++rest:=by rw[hsp,List.append_assoc];rfl
     rcases a4N hra4 with⟨o,rs,hkd,ho',hrt⟩ | ⟨hkd,ho'⟩
     ·have hm3:R5 [(pt.1,j,rr)]=[((pt.1,o),(pt.1,j))]:=by simp[R5,ho']
      have hk3:W1 [(pt.1,j,rr)]=[(pt.1,o)]:=by simp[W1,ho']
      have hkX:W1 (Xs++[(pt.1,j,rr)])=W1 Xs++[(pt.1,o)]:=by rw[<-hk3];unfold W1;rw[List.filterMap_append]
      have hol:o.length<=100:=hklen (pt.1,o) (by
       rw[hsp1]
       unfold W1 at hkX⊢
       rw[List.filterMap_append,hkX]
       simp)
      have hpnew:(pt.1,j)∉(M2 (R5 Xs) ts).map (·.1):=by
       rw[a6Z htl]
       intro z
       rw[hsp1,M9,M9,hm3,List.map_append,List.map_append]at hpnd
       exact(List.nodup_append.mp (List.nodup_append.mp hpnd).1).2.2 _ z _ (List.mem_singleton.mpr rfl) rfl
      have z1:∀kd:Str,atI (V.str kd::V.str o::rs) 1=some (.str o):=fun kd=>U3 (j:=1) rfl
      have z0:∀kd:Str,atI (V.str kd::V.str o::rs) 0=some (.str kd):=fun kd=>U3 (j:=0) rfl
      have hlog:∀n:Nat,n<=6000->((n:Int)).natAbs.log2 < 1920:=fun n hn=>by
       rw[Int.natAbs_natCast n]
       by_cases hz:n=0
       ·subst hz;decide
       ·have:=(Nat.log2_lt hz).mpr (show n < 2 ^ 13 by omega)
        omega
      have hsz:∀n:Nat,n<=6000->o.length+(nt n).length<=sizeLine:=fun n hn=>by
       have:=(b2o n (by omega)).2
       exact Nat.le_of_lt (J6 (by omega))
      rcases hkd with e | e<;>rw[e]at hrt
      refine⟨_,rfl,_,rfl,u,_,_,_,rfl,rfl,SqT.of hu4,hat,r,_,_,_,rfl,rfl,SqT.of hrt,z0 _,rfl,_,rfl,D1 (B9 ?_)⟩
      rotate_left
      refine⟨_,rfl,_,rfl,u,_,_,_,rfl,rfl,SqT.of hu4,hat,r,_,_,_,rfl,rfl,SqT.of hrt,z0 _,rfl,_,rfl,W3 (show¬("take":Str)="set" by decide +kernel) ?_⟩
      refine⟨_,rfl,_,rfl,u,_,_,_,rfl,rfl,SqT.of hu4,hat,r,_,_,_,rfl,rfl,SqT.of hrt,z0 _,rfl,_,rfl,D1 ?_⟩
      all_goals
       refine⟨_,rfl,_,rfl,u,_,_,_,rfl,rfl,SqT.of hu4,hat,r,_,_,_,rfl,rfl,SqT.of hrt,z1 _,?_⟩
       apply a6K
       ·with_reducible_and_instances rfl
       refine a1J (fun σ H5=>∃m:Nat,σ=[some (.ref a),some (.ref D),some (.ref n),some (.ref us),some (.str pt.1),some (.ref u),some (.int (j:Int)),some (.str (nmM o m)),some (.int (m:Int))]/\H5=H4/\1<=m/\m<=5000/\(2<=m->o∈lu)/\∀k,2<=k->k < m->(o++nt k∈lu\/o++nt k∈mdl)) (fun σ _=>muW σ) ⟨1,rfl,rfl,by omega,by omega,fun h=>by omega,fun k h1 h2=>by omega⟩ ?_ ?_
       ·rintro σ H5 ⟨m,rfl,rfl,hm1,hm2,hmo,hmk'⟩
        have hDD:H5 D=some (.lst (mdl.map V.str)):=s5 _ _ hD2
        refine a8a (a:=decide (nmM o m∈lu)) (b:=decide (1 < m) && decide (nmM o m∈mdl)) (fun Q' h=>?_) (a2L (fun Q' h=>?_) (fun Q' h=>?_)) ?_
        ·refine⟨_,rfl,_,rfl,us,_,rfl,F5.k (k:=Sum.inr (nmM o m)) hus5,_,rfl,?_⟩
         rw[a4q]
         exact h
        ·refine⟨_,rfl,_,_,rfl,rfl,_,rfl,?_⟩
         rw[show decide ((1:Int) < (m:Int))=decide (1 < m)by simp only[decide_eq_decide];omega]
         exact h
        ·refine⟨_,rfl,_,rfl,D,_,rfl,.inl (SqL.of hDD),rfl,a6f _,_,rfl,?_⟩
         rw[a3E]
         exact h
        ·by_cases hc:(decide (nmM o m∈lu) || (decide (1 < m) && decide (nmM o m∈mdl)))=true
         ·rw[hc]
          refine B9 ?_
          have hc':nmM o m∈lu\/(1 < m/\nmM o m∈mdl):=by simpa using hc
          have ho1:o∈lu:=by
           by_cases h1:m=1
           ·rcases hc' with z | z
            ·rw[h1]at z
             exact z
            ·omega
           ·exact hmo (by omega)
          have hall:∀k,2<=k->k < m+1->(o++nt k∈lu\/o++nt k∈mdl):=fun k h1 h2=>by
           by_cases h3:k < m
           ·exact hmk' k h1 h3
           ·have h4:k=m:=by omega
            subst h4
            have h5:nmM o k=o++nt k:=if_neg (by omega)
            rw[h5]at hc'
            rcases hc' with z | z
            ·exact .inl z
            ·exact .inr z.2
          have hfew:=b6i (own:=o) (L:=lu++mdl) (n:=m+1) (by omega) fun k h1 h2=>List.mem_append.mpr (hall k h1 h2)
          rw[List.length_append]at hfew
          have em:((m:Int)+1)=((m+1:Nat):Int):=by omega
          refine⟨_,rfl,_,_,rfl,rfl,?_⟩
          show B0 8 (V.int ((m+1:Nat):Int)) _ _ _
          refine⟨_,rfl,_,rfl,u,_,_,_,rfl,rfl,SqT.of hu4,hat,r,_,_,_,rfl,rfl,SqT.of hrt,z1 _,_,rfl,_,rfl,hlog (m+1) (by omega),_,_,rfl,rfl,hsz (m+1) (by omega),?_⟩
          refine⟨⟨m+1,?_,rfl,by omega,by omega,fun _=>ho1,hall⟩,?_⟩
          ·have h5:nmM o (m+1)=o++nt (m+1):=if_neg (by omega)
           rw[h5]
           rfl
          ·show muW [some (V.ref a),some (.ref D),some (.ref n),some (.ref us),some (.str pt.1),some (.ref u),some (.int (j:Int)),some (.str (o++nt (m+1))),some (.int ((m+1:Nat):Int))] < muW [some (.ref a),some (.ref D),some (.ref n),some (.ref us),some (.str pt.1),some (.ref u),some (.int (j:Int)),some (.str (nmM o m)),some (.int (m:Int))]
           simp only[muW,List.getElem?_cons_succ,List.getElem?_cons_zero]
           omega
         ·have hc':¬(nmM o m∈lu\/(1 < m/\nmM o m∈mdl)):=fun z=>hc (by simpa using z)
          rw[Bool.not_eq_true]at hc
          rw[hc]
          refine F6 ?_
          have hyl:nmM o m∉lu:=fun z=>hc' (.inl z)
          have hone:m=1->nmM o m=o:=fun z=>by rw[z];rfl
          refine⟨_,rfl,_,rfl,us,_,rfl,a0C.k (k:=Sum.inr (nmM o m)) hus5 (szK (by rw[a2u];omega)),?_⟩
          rw[a3r]
          have hn6:upd H5 us (.dK (O6 (a0l lu (nmM o m)))) n=some (.dT nkv):=by rw[G8 hnu];exact hn5
          have hus6:upd H5 us (.dK (O6 (a0l lu (nmM o m)))) us=some (.dK (O6 (a0l lu (nmM o m)))):=G1
          have s6:G6 H2 (upd H5 us (.dK (O6 (a0l lu (nmM o m))))):=s5.put gus2
          generalize upd H5 us (.dK (O6 (a0l lu (nmM o m))))=H6 at hn6 hus6 s6⊢
          refine⟨_,rfl,_,rfl,_,rfl,_,rfl,Z9,fun c gc=>?_⟩
          have s7:G6 H6 (upd H6 c (.tup [.str pt.1,.int (j:Int)])):=(G6.refl H6).new gc
          have hc7:upd H6 c (.tup [.str pt.1,.int (j:Int)]) c=some (.tup ((kp (pt.1,j)).map kV)):=G1
          generalize upd H6 c (.tup [.str pt.1,.int (j:Int)])=H7 at s7 hc7⊢
          refine⟨n,_,rfl,a0C.t (k:=kp (pt.1,j)) (s7 _ _ hn6) hc7 (szK (by omega)),?_⟩
          rw[M7 (b2C hnv hpnew)]
          refine⟨nkv++[(kp (pt.1,j),.str (nmM o m))],a0l lu (nmM o m),ts++[(pt.1,o,nmM o m)],_,_,_,rfl,(s6.trans s7).put gn,G1,by rw[G8 hnu.symm];exact s7 _ _ hus6,fun y=>?_,?_,?_,hnn.snoc (fun z=>?_) (fun z=>?_),?_⟩
          ·rw[a5u,hlu y]
           unfold W4
           rw[List.map_append,List.mem_append]
           simp
          ·have:=a7y lu (nmM o m)
           rw[List.length_append,List.length_singleton]
           omega
          ·rw[hX,hkX,List.map_append,hts]
           rfl
          ·by_cases h1:m=1
           ·exact hone h1
           ·exact absurd ((hlu o).mp (hmo (by omega))) z
          ·have hol2:o∈lu:=(hlu o).mpr z
           have h1:m≠1:=fun h1=>hyl (by rw[hone h1];exact hol2)
           refine⟨m,by omega,by omega,if_neg h1,fun w=>hyl ((hlu _).mpr w),fun w=>hc' (.inr ⟨by omega,w⟩),fun k h2 h3=>?_⟩
           rcases hmk' k h2 h3 with w | w
           ·exact .inl ((hlu _).mp w)
           ·exact .inr w
          ·rw[hX,M9,hm3,b1T htl]
           exact Paired.snoc hnv ⟨rfl,rfl⟩
       ·rintro σ H5 Q1 Q2 hQ ⟨v,e1,v2,e2,a2,o2,e7,hg,c,e8,hq⟩
        refine⟨v,e1,v2,e2,a2,o2,e7,hg,c,e8,?_⟩
        dsimp only at hq⊢
        split at hq
        ·rename_i h
         rw[if_pos h]
         exact hQ _ _ hq
        ·rename_i h
         rw[if_neg h]
         obtain⟨v,e1,i1,j1,e3,e4,c2,e5,hq⟩:=hq
         refine⟨v,e1,i1,j1,e3,e4,c2,e5,?_⟩
         dsimp only at hq⊢
         split at hq
         ·rename_i h
          rw[if_pos h]
          obtain⟨v,e1,v2,e2,d2,xs2,e3,h3,f1,f2,c3,e4,hq⟩:=hq
          exact⟨v,e1,v2,e2,d2,xs2,e3,h3,f1,f2,c3,e4,hQ _ _ hq⟩
         ·rename_i h
          rw[if_neg h]
          exact hQ _ _ hq
     ·have hm3:R5 [(pt.1,j,rr)]=[]:=by simp[R5,ho']
      have hkX:W1 (Xs++[(pt.1,j,rr)])=W1 Xs:=by rw[F0,F0,M9,hm3,List.append_nil]
      obtain⟨x1,rs,hrt⟩:=hra4.kind
      have z0:atI (V.str (R0 rr)::x1::rs) 0=some (.str (R0 rr)):=U3 (j:=0) rfl
      refine⟨_,rfl,_,rfl,u,_,_,_,rfl,rfl,SqT.of hu4,hat,r,_,_,_,rfl,rfl,SqT.of hrt,z0,rfl,_,rfl,W3 (fun z=>hkd (.inl z)) ?_⟩
      refine⟨_,rfl,_,rfl,u,_,_,_,rfl,rfl,SqT.of hu4,hat,r,_,_,_,rfl,rfl,SqT.of hrt,z0,rfl,_,rfl,W3 (fun z=>hkd (.inr z)) ?_⟩
      exact⟨nkv,lu,ts,_,_,_,rfl,s5,hn5,hus5,hlu,hlul,by rw[hX,hkX];exact hts,hnn,by rw[hX,M9,hm3,List.append_nil];exact hnv⟩
    ·rintro σ H4 ⟨nkv,lu,ts,w6,w7,w8,rfl,s5,hn5,hus5,hlu,hlul,hts,hnn,hnv⟩
     rw[hwl,Int.toNat_natCast,List.take_length,<-a1d,<-J2 hpt]at hts hnv
     exact⟨nkv,lu,ts,_,_,_,_,_,rfl,s5,hn5,hus5,hlu,hlul,hts,hnn,hnv⟩
   ·rintro σ H3 ⟨nkv,lu,ts,v4,v5,v6,v7,v8,rfl,s4,hn4,hus4,hlu,hlul,hts,hnn,hnv⟩
    rw[hvl,List.take_length]at hts hnv
    exact⟨_,rfl,q n nkv ts H3 (sH2.trans s4) hn4 hts hnn hnv⟩
noncomputable def thN (N:Str->Str):Th->V
 | .num n=> .int n
 | .nam y=> .str (N y)
noncomputable def TmV (N:Str->Str) (H:Hp) (v:V) (d:Int×Th):Prop:=∃p,v= .ref p/\H p=some (.tup [.int d.1,thN N d.2])
noncomputable def a6P (N:Str->Str) (H:Hp) (t:Addr) (ts:List (Int×Th)):Prop:=∃vs,H t=some (.tup vs)/\Paired (TmV N H) vs ts
theorem TmV.mono{N:Str->Str}{H H':Hp}(s:J9 H H'){v:V}{d:Int×Th}(h:TmV N H v d):TmV N H' v d:=by
 obtain⟨p,e,h⟩:=h
 exact⟨p,e,s _ _ h⟩
theorem a6P.mono{N:Str->Str}{H H':Hp}(s:J9 H H'){t:Addr}{ts:List (Int×Th)}(h:a6P N H t ts):a6P N H' t ts:=by
 obtain⟨vs,h1,h2⟩:=h
 exact⟨vs,s _ _ h1,Paired.mapP h2 fun _ _ z=>z.mono s⟩
noncomputable def RV (N:Str->Str) (H:Hp) (r:Addr):Rw->Prop
 | .set o ts=>∃t,H r=some (.tup [.str "set",.str (N o),.ref t])/\a6P N H t ts
 | .take o=>H r=some (.tup [.str "take",.str (N o)])
 | .say ts w=>∃t,H r=some (.tup [.str "say",.ref t,a5l (w.map N)])/\a6P N H t ts
 | .need ts=>∃t,H r=some (.tup [.str "need",.ref t])/\a6P N H t ts
 | .ask p w=>H r=some (.tup [.str "ask",.str p,a5l (w.map N)])
 | _=>False
theorem RV.mono{N:Str->Str}{H H':Hp}(s:J9 H H'){r:Addr}{rw:Rw}(h:RV N H r rw):RV N H' r rw:=by
 cases rw with
 | set o ts=>obtain⟨t,h1,h2⟩:=h;exact⟨t,s _ _ h1,h2.mono s⟩
 | take o=>exact s _ _ h
 | say ts w=>obtain⟨t,h1,h2⟩:=h;exact⟨t,s _ _ h1,h2.mono s⟩
 | need ts=>obtain⟨t,h1,h2⟩:=h;exact⟨t,s _ _ h1,h2.mono s⟩
 | ask p w=>exact s _ _ h
 | _=>exact h
noncomputable def a5s (C:Str->Prop) (ts:List (Int×Th)):Prop:=∀d∈ts,∀y,d.2=Th.nam y->C y
noncomputable def a6j (C:Str->Prop) (w:Option Str):Prop:=∀y,w=some y->C y
noncomputable def a2C (C:Str->Prop):Rw->Prop
 | .set o ts=>C o/\a5s C ts
 | .take o=>C o
 | .say ts w=>a5s C ts/\a6j C w
 | .need ts=>a5s C ts
 | .ask _ w=>a6j C w
 | _=>False
theorem a2C.imp{C D:Str->Prop}(h:∀y,C y->D y){rw:Rw}(u:a2C C rw):a2C D rw:=by
 have hT:∀{ts},a5s C ts->a5s D ts:=fun z d hd y e=>h y (z d hd y e)
 have hO:∀{w},a6j C w->a6j D w:=fun z y e=>h y (z y e)
 cases rw with
 | set o ts=>exact⟨h _ u.1,hT u.2⟩
 | take o=>exact h _ u
 | say ts w=>exact⟨hT u.1,hO u.2⟩
 | need ts=>exact hT u
 | ask p w=>exact hO u
 | _=>exact u
noncomputable def b0m (fkv:List (List Key×V)) (n:Str) (N:Str->Str) (y:Str):Prop:=Y6 fkv (U0 (n,y))=some (.str (N y))
noncomputable def b3L:Sp:=fun vs H Q _=>∃(n:Str)(th:Th)(f:Addr)(fkv:List (List Key×V))(N:Str->Str),vs=[.str n,thV th,.ref f]/\H f=some (.dT fkv)/\(∀y,th= .nam y->b0m fkv n N y)/\∀H',G6 H H'->Q (thN N th) H'
theorem b1V(T:Txt K mg):L2.Cl P w K mg base 1 "renamed_thing" ["part","thing","news"] b3L:=by
 refine Cl.of T.d_renamed_thing a4j (fun vs H Q E h=>?_) (fun _ _ _ _ _ _ us hl=>by obtain⟨a,b,c,rfl⟩:=a6E hl;rfl) (fun fa cdv A outer s H vs Q E hr h=>?_)
 ·obtain⟨n,th,f,fkv,N,rfl,_⟩:=h
  rfl
 ·obtain⟨n,th,f,fkv,N,rfl,hf,hN,q⟩:=h
  have hu:=D4 hr
  refine⟨_,(G3 (U8 (a0s (R3 E9 (by rfl) T.n_isinstance PyProof.Rows.boot_isinstance (G0 (pv 1) (G0 (a0w (v:= .ty "str") (by rfl) T.n_str boot_str rfl) G4))))
    (G5 (R4 (Z0 hu (pv 2) (R9 (G0 (pv 0) (G0 (pv 1) G4))) (fun _ _=>rfl)))) R8)
   (G5 (R4 (pv 1)))),?_⟩
  cases th with
  | num k=>
   refine⟨_,rfl,_,_,_,_,rfl,.int k,a4B _,_,rfl,F6 ?_⟩
   exact⟨_,rfl,q H (G6.refl H)⟩
  | nam y=>
   refine⟨_,rfl,_,_,_,_,rfl,.str y,a0m _ _,_,rfl,B9 ?_⟩
   refine⟨_,rfl,_,rfl,_,rfl,Z9,fun e ge=>?_⟩
   have s1:G6 H (upd H e (.tup [.str n,.str y])):=(G6.refl H).new ge
   have h1:=F5.t (k:=U0 (n,y)) (s1 _ _ hf) (show upd H e (.tup [.str n,.str y]) e=some (.tup ((U0 (n,y)).map kV))from G1)
   rw[hN y rfl]at h1
   exact⟨f,_,rfl,h1,q _ s1⟩
noncomputable def b3N:Sp:=fun vs H Q _=>∃(n:Str)(w:Option Str)(f:Addr)(fkv:List (List Key×V))(N:Str->Str),vs=[.str n,a5l w,.ref f]/\H f=some (.dT fkv)/\a6j (b0m fkv n N) w/\∀H',G6 H H'->Q (a5l (w.map N)) H'
theorem b1z(T:Txt K mg):L2.Cl P w K mg base 1 "renamed_when" ["part","when","news"] b3N:=by
 refine Cl.of T.d_renamed_when a4E (fun vs H Q E h=>?_) (fun _ _ _ _ _ _ us hl=>by obtain⟨a,b,c,rfl⟩:=a6E hl;rfl) (fun fa cdv A outer s H vs Q E hr h=>?_)
 ·obtain⟨n,w,f,fkv,N,rfl,_⟩:=h
  rfl
 ·obtain⟨n,w,f,fkv,N,rfl,hf,hN,q⟩:=h
  have hu:=D4 hr
  refine⟨_,(G3 (U8 (a2m (b2d (pv 1)))
    (G5 (R4 a6C)) R8)
   (G5 (R4 (Z0 hu (pv 2) (R9 (G0 (pv 0) (G0 (pv 1) G4))) (fun _ _=>rfl))))),?_⟩
  cases w with
  | none=>
   refine⟨_,rfl,_,rfl,B9 ?_⟩
   exact q H (G6.refl H)
  | some y=>
   refine⟨_,rfl,_,rfl,F6 ?_⟩
   refine⟨_,rfl,_,rfl,_,rfl,Z9,fun e ge=>?_⟩
   have s1:G6 H (upd H e (.tup [.str n,.str y])):=(G6.refl H).new ge
   have h1:=F5.t (k:=U0 (n,y)) (s1 _ _ hf) (show upd H e (.tup [.str n,.str y]) e=some (.tup ((U0 (n,y)).map kV))from G1)
   rw[hN y rfl]at h1
   exact⟨f,_,rfl,h1,q _ s1⟩
noncomputable def b4w:Sp:=fun vs H Q _=>∃(n:Str)(t:Addr)(ts:List (Int×Th))(f:Addr)(fkv:List (List Key×V))(N:Str->Str),vs=[.str n,.ref t,.ref f]/\a0R H t ts/\H f=some (.dT fkv)/\a5s (b0m fkv n N) ts/\∀(t':Addr)(H':Hp),G6 H H'->a6P N H' t' ts->Q (.ref t') H'
theorem b3U(T:Txt K mg):L2.Cl P w K mg base 2 "renamed_sum" ["part","terms","news"] b4w:=by
 have C_renamed_thing:=b1V (P:=P) (w:=w) (base:=base) T
 refine Cl.of T.d_renamed_sum a5q (fun vs H Q E h=>?_) (fun _ _ _ _ _ _ us hl=>by obtain⟨a,b,c,rfl⟩:=a6E hl;rfl) (fun fa cdv A outer s H vs Q E hr h=>?_)
 ·obtain⟨n,t,ts,f,fkv,N,rfl,_⟩:=h
  rfl
 ·obtain⟨n,t,ts,f,fkv,N,rfl,⟨⟨vs,ht,hts⟩,hlo,hhi⟩,hf,hN,q⟩:=h
  have hvl:vs.length=ts.length:=Paired.length hts
  refine⟨_,(G5 (R4 (U6 Y2 (by rfl) T.n_tuple boot_tuple (G0 (a4L (M:=["sign","thing","part","news"]) (ρ:=[none,none,some 0,some 2]) (J3 a0v) ["part","terms","news"] ⟨rfl,by decide +kernel,by decide +kernel,by decide +kernel,rfl,by decide +kernel,by decide +kernel⟩ (F1 (pv 1)) (fun _ _ _ _ _ _=>(a1X (K:=K) (n:=2) rfl rfl (J0 (I0 (i:=0) (show(["sign","thing","part","news"]:List Str).Nodup by decide +kernel) rfl (Or.inl rfl)) (J0 (I0 (i:=1) (show(["sign","thing","part","news"]:List Str).Nodup by decide +kernel) rfl (Or.inl rfl)) Y1)))) (fun _ _ _ _ _ _=>a1m) (fun _ _ _ _ _ _=>(R9 (G0 (pv 0) (G0 (U9 C_renamed_thing hr (by rfl) (G0 (pv 2) (G0 (pv 1) (G0 (pv 3) G4)))) G4))))) G4)))),?_⟩
  refine⟨_,rfl,t,rfl,⟨_,SqT.of ht⟩,fun D hD=>?_⟩
  refine a3B (K:=K) (a:=t) (xs:=vs) (fun i σ H2=>∃(v0 v1:Option V)(us:List V),σ=[v0,v1,some (.str n),some (.ref f)]/\G6 H H2/\H2 D=some (.lst us)/\Paired (TmV N H2) us (ts.take i)) ⟨_,_,[],rfl,(G6.refl H).new hD,G1,by rw[List.take_zero];exact .nil⟩ (fun i σ2 H2⟨_,_,_,_,s2,_⟩=>SqT.of (s2 _ _ ht)) ?_ ?_
  ·rintro i x σ H2 hx ⟨v0,v1,us,rfl,s2,hD2,hus⟩
   obtain⟨d,hd,c,ex,hc,_⟩:=Paired.get? hts hx
   subst ex
   have hul:us.length<=6:=by rw[Paired.length hus,List.length_take];omega
   refine⟨c,_,rfl,SqT.of (s2 _ _ hc),rfl,_,_,rfl,_,_,rfl,rfl,?_⟩
   refine⟨_,rfl,_,rfl,_,rfl,_,rfl,n,d.2,f,fkv,N,rfl,s2 _ _ hf,fun y e=>hN d (List.mem_of_getElem? hd) y e,fun H3 s3=>?_⟩
   refine⟨Z9,fun e ge=>?_⟩
   have s4:G6 H2 (upd H3 e (.tup [.int d.1,thN N d.2])):=s3.new ge
   have hD4:=s4 _ _ hD2
   refine⟨us,hD4,J6 (by omega),_,_,us++[.ref e],rfl,(s2.trans s4).put hD,G1,?_⟩
   rw[J2 hd]
   have TL:=J9.lst (ys:=us++[.ref e]) hD4
   exact Paired.snoc (Paired.mapP hus fun _ _ z=>z.mono (s4.tups.trans TL)) ⟨e,rfl,TL _ _ G1⟩
  ·rintro σ H2 ⟨v0,v1,us,rfl,s2,hD2,hus⟩
   rw[hvl,List.take_length]at hus
   refine⟨D,_,rfl,.inl ⟨SqL.of hD2,fun u gu=>?_⟩⟩
   exact q u _ (s2.new gu) ⟨us,G1,Paired.mapP hus fun _ _ z=>z.mono (J9.new gu)⟩
noncomputable def b4f:Sp:=fun vs H Q _=>∃(n:Str)(r:Addr)(rw:Rw)(f:Addr)(fkv:List (List Key×V))(N:Str->Str),vs=[.str n,.ref r,.ref f]/\a0y H r rw/\H f=some (.dT fkv)/\a2C (b0m fkv n N) rw/\∀(r':Addr)(H':Hp),G6 H H'->RV N H' r' rw->Q (.ref r') H'
theorem b3S(T:Txt K mg):L2.Cl P w K mg base 3 "renamed_row" ["part","row","news"] b4f:=by
 have C_renamed_sum:=b3U (P:=P) (w:=w) (base:=base) T
 have C_renamed_when:=b1z (P:=P) (w:=w) (base:=base) T
 refine Cl.of T.d_renamed_row a2e (fun vs H Q E h=>?_) (fun _ _ _ _ _ _ us hl=>by obtain⟨a,b,c,rfl⟩:=a6E hl;rfl) (fun fa cdv A outer s H vs Q E hr h=>?_)
 ·obtain⟨n,r,rw,f,fkv,N,rfl,_⟩:=h
  rfl
 ·obtain⟨n,r,rw,f,fkv,N,rfl,hra,hf,hN,q⟩:=h
  have hu:=D4 hr
  refine⟨_,(G3 (I9 (i:=3) a2e.nd rfl (Or.inl rfl) (G9 J5 (pv 1) G2 (fun _ _=>rfl)))
   (G3 (U8 (J7 Z8 (pv 3) R6 (R7 _))
    (G5 (R4 (R9 (G0 R6 (G0 (Z0 hu (pv 2) (R9 (G0 (pv 0) (G0 (G9 J5 (pv 1) G2 (fun _ _=>rfl)) G4))) (fun _ _=>rfl)) (G0 (U9 C_renamed_sum hr (by rfl) (G0 (pv 0) (G0 (G9 J5 (pv 1) G2 (fun _ _=>rfl)) (G0 (pv 2) G4)))) G4)))))) R8)
   (G3 (U8 (J7 Z8 (pv 3) R6 (R7 _))
    (G5 (R4 (R9 (G0 R6 (G0 (Z0 hu (pv 2) (R9 (G0 (pv 0) (G0 (G9 J5 (pv 1) G2 (fun _ _=>rfl)) G4))) (fun _ _=>rfl)) G4))))) R8)
   (G3 (U8 (J7 Z8 (pv 3) R6 (R7 _))
    (G5 (R4 (R9 (G0 R6 (G0 (U9 C_renamed_sum hr (by rfl) (G0 (pv 0) (G0 (G9 J5 (pv 1) G2 (fun _ _=>rfl)) (G0 (pv 2) G4)))) (G0 (U9 C_renamed_when hr (by rfl) (G0 (pv 0) (G0 (G9 J5 (pv 1) G2 (fun _ _=>rfl)) (G0 (pv 2) G4)))) G4)))))) R8)
   (G3 (U8 (J7 Z8 (pv 3) R6 (R7 _))
    (G5 (R4 (R9 (G0 R6 (G0 (U9 C_renamed_sum hr (by rfl) (G0 (pv 0) (G0 (G9 J5 (pv 1) G2 (fun _ _=>rfl)) (G0 (pv 2) G4)))) G4))))) R8)
   (G5 (R4 (R9 (G0 R6 (G0 (G9 J5 (pv 1) G2 (fun _ _=>rfl)) (G0 (U9 C_renamed_when hr (by rfl) (G0 (pv 0) (G0 (G9 J5 (pv 1) G2 (fun _ _=>rfl)) (G0 (pv 2) G4)))) G4))))))))))),?_⟩
  have get:∀{H2:Hp}{y:Str}{e:Addr},G6 H H2->H2 e=some (.tup [.str n,.str y])->b0m fkv n N y->F5 H2 f (.ref e) (some (.str (N y))):=fun{H2 y e}s2 he hn=>by
   have h1:=F5.t (k:=U0 (n,y)) (s2 _ _ hf) he
   rw[hn]at h1
   exact h1
  cases rw with
  | set o ts=>
   obtain⟨t,hrt,hts⟩:=hra
   refine⟨_,rfl,r,_,_,_,rfl,rfl,SqT.of hrt,rfl,?_⟩
   refine⟨_,rfl,rfl,_,rfl,D1 ?_⟩
   refine⟨_,rfl,_,rfl,_,rfl,r,_,_,_,rfl,rfl,SqT.of hrt,rfl,Z9,fun e ge=>?_⟩
   have s1:G6 H (upd H e (.tup [.str n,.str o])):=(G6.refl H).new ge
   refine⟨f,_,rfl,get s1 G1 hN.1,?_⟩
   refine⟨_,rfl,_,rfl,r,_,_,_,rfl,rfl,SqT.of (s1 _ _ hrt),rfl,_,rfl,?_⟩
   refine⟨n,t,ts,f,fkv,N,rfl,hts.mono s1.tups,s1 _ _ hf,hN.2,fun t' H2 s2 ht'=>?_⟩
   refine⟨a0n,fun r' gr=>?_⟩
   exact q r' _ ((s1.trans s2).new gr) ⟨t',G1,ht'.mono (J9.new gr)⟩
  | take o=>
   have hrt:H r=some (.tup [.str "take",.str o]):=hra
   refine⟨_,rfl,r,_,_,_,rfl,rfl,SqT.of hrt,rfl,?_⟩
   refine⟨_,rfl,rfl,_,rfl,W3 (show¬("take":Str)="set" by decide +kernel) ?_⟩
   refine⟨_,rfl,rfl,_,rfl,D1 ?_⟩
   refine⟨_,rfl,_,rfl,_,rfl,r,_,_,_,rfl,rfl,SqT.of hrt,rfl,Z9,fun e ge=>?_⟩
   have s1:G6 H (upd H e (.tup [.str n,.str o])):=(G6.refl H).new ge
   refine⟨f,_,rfl,get s1 G1 hN,?_⟩
   refine⟨Z9,fun r' gr=>?_⟩
   exact q r' _ (s1.new gr) G1
  | say ts w=>
   obtain⟨t,hrt,hts⟩:=hra
   refine⟨_,rfl,r,_,_,_,rfl,rfl,SqT.of hrt,rfl,?_⟩
   refine⟨_,rfl,rfl,_,rfl,W3 (show¬("say":Str)="set" by decide +kernel) ?_⟩
   refine⟨_,rfl,rfl,_,rfl,W3 (show¬("say":Str)="take" by decide +kernel) ?_⟩
   refine⟨_,rfl,rfl,_,rfl,D1 ?_⟩
   refine⟨_,rfl,_,rfl,r,_,_,_,rfl,rfl,SqT.of hrt,rfl,_,rfl,?_⟩
   refine⟨n,t,ts,f,fkv,N,rfl,hts,hf,hN.1,fun t' H2 s2 ht'=>?_⟩
   refine⟨_,rfl,_,rfl,r,_,_,_,rfl,rfl,SqT.of (s2 _ _ hrt),rfl,_,rfl,?_⟩
   refine⟨n,w,f,fkv,N,rfl,s2 _ _ hf,hN.2,fun H3 s3=>?_⟩
   refine⟨a0n,fun r' gr=>?_⟩
   exact q r' _ ((s2.trans s3).new gr) ⟨t',G1,ht'.mono (s3.new gr).tups⟩
  | need ts=>
   obtain⟨t,hrt,hts⟩:=hra
   refine⟨_,rfl,r,_,_,_,rfl,rfl,SqT.of hrt,rfl,?_⟩
   refine⟨_,rfl,rfl,_,rfl,W3 (show¬("need":Str)="set" by decide +kernel) ?_⟩
   refine⟨_,rfl,rfl,_,rfl,W3 (show¬("need":Str)="take" by decide +kernel) ?_⟩
   refine⟨_,rfl,rfl,_,rfl,W3 (show¬("need":Str)="say" by decide +kernel) ?_⟩
   refine⟨_,rfl,rfl,_,rfl,D1 ?_⟩
   refine⟨_,rfl,_,rfl,r,_,_,_,rfl,rfl,SqT.of hrt,rfl,_,rfl,?_⟩
   refine⟨n,t,ts,f,fkv,N,rfl,hts,hf,hN,fun t' H2 s2 ht'=>?_⟩
   refine⟨Z9,fun r' gr=>?_⟩
   exact q r' _ (s2.new gr) ⟨t',G1,ht'.mono (J9.new gr)⟩
  | ask p w=>
   have hrt:H r=some (.tup [.str "ask",.str p,a5l w]):=hra
   refine⟨_,rfl,r,_,_,_,rfl,rfl,SqT.of hrt,rfl,?_⟩
   refine⟨_,rfl,rfl,_,rfl,W3 (show¬("ask":Str)="set" by decide +kernel) ?_⟩
   refine⟨_,rfl,rfl,_,rfl,W3 (show¬("ask":Str)="take" by decide +kernel) ?_⟩
   refine⟨_,rfl,rfl,_,rfl,W3 (show¬("ask":Str)="say" by decide +kernel) ?_⟩
   refine⟨_,rfl,rfl,_,rfl,W3 (show¬("ask":Str)="need" by decide +kernel) ?_⟩
   refine⟨_,rfl,r,_,_,_,rfl,rfl,SqT.of hrt,rfl,?_⟩
   refine⟨_,rfl,_,rfl,r,_,_,_,rfl,rfl,SqT.of hrt,rfl,_,rfl,?_⟩
   refine⟨n,w,f,fkv,N,rfl,hf,hN,fun H3 s3=>?_⟩
   refine⟨a0n,fun r' gr=>?_⟩
   exact q r' _ (s3.new gr) G1
  | _=>exact hN.elim
theorem b3o{mdl:List Str}{ts us:List Tr}(h1:a4H mdl ts)(h2:a4H mdl us)(hk:ts.map (fun t=>(t.1,t.2.1))=us.map (fun t=>(t.1,t.2.1))):ts=us:=by
 have hl:ts.length=us.length:=by
  have:=congrArg List.length hk
  rw[List.length_map,List.length_map]at this
  exact this
 have step:∀i,ts.take i=us.take i:=by
  intro i
  induction i with
  | zero=>rw[List.take_zero,List.take_zero]
  | succ i ih=>
   by_cases hi:i < ts.length
   ·obtain⟨t,ht⟩:∃t,ts[i]?=some t:=⟨ts[i],by simp[hi]⟩
    obtain⟨u,hu⟩:∃u,us[i]?=some u:=⟨us[i]'(by omega),by simp[show i < us.length by omega]⟩
    have hku:(t.1,t.2.1)=(u.1,u.2.1):=by
     have:=congrArg (fun l=>l[i]?) hk
     simp only[List.getElem?_map,ht,hu,Option.map_some,Option.some.injEq]at this
     exact this
    obtain⟨a1,a2⟩:=h1 i t ht
    obtain⟨b1,b2⟩:=h2 i u hu
    rw[<-ih,<-(Prod.mk.inj hku).2]at b1 b2
    have e:t.2.2=u.2.2:=by
     by_cases ho:t.2.1∈W4 (ts.take i)
     ·obtain⟨k,k1,k2,k3,k4,k5,k6⟩:=a2 ho
      obtain⟨l,l1,l2,l3,l4,l5,l6⟩:=b2 ho
      rcases Nat.lt_trichotomy k l with z | z | z
      ·rcases l6 k k1 z with w | w
       ·exact absurd (by rw[k3];exact w) k4
       ·exact absurd (by rw[k3];exact w) k5
      ·rw[k3,l3,z]
      ·rcases k6 l l1 z with w | w
       ·exact absurd (by rw[l3];exact w) l4
       ·exact absurd (by rw[l3];exact w) l5
     ·rw[a1 ho,b1 ho]
    have htu:t=u:=by
     obtain⟨t1,t2,t3⟩:=t
     obtain⟨u1,u2,u3⟩:=u
     simp only[Prod.mk.injEq]at hku e⊢
     exact⟨hku.1,hku.2,e⟩
    rw[J2 ht,J2 hu,ih,htu]
   ·rw[List.take_of_length_le (by omega),List.take_of_length_le (by omega)]
    rw[List.take_of_length_le (by omega),List.take_of_length_le (by omega)]at ih
    exact ih
 have:=step ts.length
 rw[List.take_length,hl,List.take_length]at this
 exact this
noncomputable def a7V (pls:List Pl):List Kk:=(R5 pls).map (·.1)++(O3 pls).map (·.1)
noncomputable def IsN (pls:List Pl) (ts:List Tr) (n:Str) (N:Str->Str):Prop:=∀y,(n,y)∈a7V pls->∃p,Mk (R5 pls) (O3 pls) (n,y) p/\(p,N y)∈M2 (R5 pls) ts
noncomputable def a8b:Option V->Str
 | some (.str s)=>s
 | _=>""
noncomputable def a0D (r:Rw):Bool:= !decide (R0 r="ask")
noncomputable def quiet (ps:List Pt):List Pt:=ps.map fun pt=>(pt.1,pt.2.filter a0D)
theorem a5f{r:Rw}(h:a0D r=false):B3 r=none/\F9 r=none/\F4 r=[]:=by
 by_cases hk:R0 r="ask"
 ·cases r with
  | ask p w=>exact⟨rfl,rfl,rfl⟩
  | _=>simp only[R0]at hk;exact absurd hk (by decide +kernel)
 ·unfold a0D at h
  rw[decide_eq_false hk]at h
  cases h
theorem a7M{α β:Type}{p:α->Bool}{f:α->Option β}(h:∀x,p x=false->f x=none):∀l:List α,(l.filter p).filterMap f=l.filterMap f
 | []=>rfl
 | x::r=>by
  have ih:=a7M h r
  cases e:p x with
  | true=>rw[List.filter_cons_of_pos e,List.filterMap_cons,List.filterMap_cons,ih]
  | false=>rw[List.filter_cons_of_neg (by rw[e];decide),List.filterMap_cons,h x e,ih]
theorem a6h{α β:Type}{p:α->Bool}{f:α->List β}(h:∀x,p x=false->f x=[]):∀l:List α,(l.filter p).flatMap f=l.flatMap f
 | []=>rfl
 | x::r=>by
  have ih:=a6h h r
  cases e:p x with
  | true=>rw[List.filter_cons_of_pos e,List.flatMap_cons,List.flatMap_cons,ih]
  | false=>rw[List.filter_cons_of_neg (by rw[e];decide),List.flatMap_cons,h x e,ih,List.nil_append]
theorem a4C(ps:List Pt):(quiet ps).map (·.1)=ps.map (·.1):=by
 unfold quiet
 rw[List.map_map]
 rfl
theorem a7S{α:Type}{f:Rw->List α}(h:∀r,a0D r=false->f r=[])(ps:List Pt):((quiet ps).flatMap fun pt=>(pt.2.flatMap f).map fun a=>(pt.1,a))=ps.flatMap fun pt=>(pt.2.flatMap f).map fun a=>(pt.1,a):=by
 unfold quiet
 rw[List.flatMap_map]
 congr 1
 funext pt
 show((pt.2.filter a0D).flatMap f).map _=_
 rw[a6h h]
theorem b1h(pls:List Pl):W8 pls=(pls.flatMap fun x=>(F4 x.2.2).map fun a=>(x.1,a)).map fun y=>((y.1,y.2.2.2),(y.2.1,y.2.2.1)):=by
 unfold W8
 rw[List.map_flatMap]
 congr 1
 funext x
 rw[List.map_map]
 rfl
theorem a9d:∀pls:List Pl,W6 pls=(pls.flatMap fun x=>((F9 x.2.2).toList).map fun a=>(x.1,a)).map fun y=>((y.1,y.2.2),y.2.1)
 | []=>rfl
 | x::r=>by
  have ih:=a9d r
  have e:W6 (x::r)=W6 [x]++W6 r:=by rw[<-a1O];rfl
  rw[e,List.flatMap_cons,List.map_append,<-ih]
  congr 1
  unfold W6
  cases hg:F9 x.2.2 with
  | none=>simp[hg]
  | some q=>simp[hg]
theorem a2F(ps:List Pt):W8 (G7 (quiet ps))=W8 (G7 ps):=by
 rw[b1h,b1h,a2a,a2a,a7S fun r h=>(a5f h).2.2]
theorem a2N(ps:List Pt):W6 (G7 (quiet ps))=W6 (G7 ps):=by
 rw[a9d,a9d,a2a (fun r=>(F9 r).toList),a2a (fun r=>(F9 r).toList),a7S fun r h=>by rw[(a5f h).2.1];rfl]
theorem a2R(ps:List Pt):(R5 (G7 (quiet ps))).map (·.1)=(R5 (G7 ps)).map (·.1):=by
 rw[a4Z,a4Z]
 unfold quiet
 rw[List.flatMap_map]
 congr 1
 funext pt
 show(a4i (pt.2.filter a0D)).map _=_
 unfold a4i
 rw[a7M fun r h=>(a5f h).1]
theorem a6a(ps:List Pt):O3 (G7 (quiet ps))=O3 (G7 ps):=by
 unfold O3
 rw[a2F,a2N]
theorem a8s(ps:List Pt):a7V (G7 (quiet ps))=a7V (G7 ps):=by
 unfold a7V
 rw[a2R,a6a]
theorem a1E{ps:List Pt}{pt:Pt}(h:pt∈quiet ps):∃rs,(pt.1,rs)∈ps/\pt.2=rs.filter a0D:=by
 unfold quiet at h
 obtain⟨q,hq,e⟩:=List.mem_map.mp h
 exact⟨q.2,by rw[<-e];exact hq,by rw[<-e]⟩
theorem a5R:∀ps:List Pt,(G7 (quiet ps)).length<=(G7 ps).length
 | []=>Nat.le_refl _
 | pt::r=>by
  have ih:=a5R r
  have e1:G7 (quiet (pt::r))=R1 pt.1 (pt.2.filter a0D)++G7 (quiet r):=rfl
  have e2:G7 (pt::r)=R1 pt.1 pt.2++G7 r:=rfl
  rw[e1,e2,List.length_append,List.length_append,O7,O7]
  have:=List.length_filter_le a0D pt.2
  omega
theorem b0M{ps:List Pt}(n:M3 (G7 ps)):M3 (G7 (quiet ps)):=by
 obtain⟨h1,h2,h3,h4,h5,h6,h7⟩:=n
 refine⟨by rw[a2R,a2F];exact h1,by rw[a2N];exact h2,by rw[a2F,a2N];exact h3,by rw[a2N,a2R,a2F];exact h4,by rw[a6a];exact h5,Nat.le_trans (a5R ps) h6,fun x hx=>?_⟩
 obtain⟨rs,hrs,hrw⟩:=a0r.mp hx
 obtain⟨rs',hm,e⟩:=a1E hrs
 have e:rs=rs'.filter a0D:=e
 have hr:x.2.2∈rs':=by
  have:=List.mem_of_getElem? hrw
  rw[e]at this
  exact(List.mem_filter.mp this).1
 obtain⟨k,hk⟩:=List.getElem?_of_mem hr
 exact h7 (x.1,k,x.2.2) (a0r.mpr ⟨rs',hm,hk⟩)
theorem a5Z{ps:List Pt}(f:a0c ps):a0c (quiet ps):=by
 refine⟨by rw[a4C];exact f.nd,by unfold quiet;rw[List.length_map];exact f.hi,fun pt hpt=>?_⟩
 obtain⟨rs,hm,e⟩:=a1E hpt
 rw[e]
 exact Nat.le_trans (List.length_filter_le _ _) (f.rows _ hm)
noncomputable def D6 (r:Rw):Bool:=match r with
 | .set _ _=>true
 | .take _=>true
 | .say _ _=>true
 | .need _=>true
 | _=>false
noncomputable def a3O:Rw->Option Str
 | .bring m _=>some m
 | _=>none
noncomputable def lay (ps:List Pt):Nat->List Pl->List Str->List Pl->List Pl
 | 0,_,_,o=>o
 | _+1,[],_,o=>o
 | k+1,x::t,b,o=>
  if D6 x.2.2=true then lay ps k t b (o++[x])
  else match a3O x.2.2 with
   | some m=>if m∈b then lay ps k t b o else lay ps k (R1 m (U7 ps m)++t) (b++[m]) o
   | none=>lay ps k t b o
noncomputable def a1h (ps:List Pt) (b:List Str):Nat:=((ps.filter fun pt=>!decide (pt.1∈b)).map fun pt=>pt.2.length).sum
theorem a9x:∀(ps:List Pt)(b:List Str)(m:Str),a1h ps (b++[m])<=a1h ps b
 | [],b,m=>Nat.le_refl _
 | pt::r,b,m=>by
  have ih:=a9x r b m
  unfold a1h at ih⊢
  by_cases h1:pt.1∈b
  ·rw[List.filter_cons_of_neg (by simp[h1]),List.filter_cons_of_neg (by simp[h1])]
   exact ih
  ·rw[List.filter_cons_of_pos (a:=pt) (l:=r) (p:=fun pt=>!decide (pt.1∈b)) (by simp[h1]),List.map_cons,List.sum_cons]
   by_cases h2:pt.1=m
   ·rw[List.filter_cons_of_neg (by simp[h2])]
    omega
   ·rw[List.filter_cons_of_pos (by simp[h1,h2]),List.map_cons,List.sum_cons]
    omega
theorem a3s:∀{ps:List Pt}{b:List Str}{m:Str}{rs:List Rw},(m,rs)∈ps->m∉b->a1h ps (b++[m])+rs.length<=a1h ps b
 | [],b,m,rs,h,_=>by simp at h
 | pt::r,b,m,rs,h,hb=>by
  unfold a1h
  rcases List.mem_cons.mp h with e | e
  ·have e1:pt.1=m:=by rw[<-e]
   have e2:pt.2=rs:=by rw[<-e]
   have:=a9x r b m
   unfold a1h at this
   rw[List.filter_cons_of_neg (by simp[e1]),List.filter_cons_of_pos (a:=pt) (l:=r) (p:=fun pt=>!decide (pt.1∈b)) (by simp[e1,hb]),List.map_cons,List.sum_cons,e2]
   omega
  ·have ih:=a3s e hb
   unfold a1h at ih
   by_cases h1:pt.1∈b
   ·rw[List.filter_cons_of_neg (by simp[h1]),List.filter_cons_of_neg (by simp[h1])]
    exact ih
   ·rw[List.filter_cons_of_pos (a:=pt) (l:=r) (p:=fun pt=>!decide (pt.1∈b)) (by simp[h1]),List.map_cons,List.sum_cons]
    by_cases h2:pt.1=m
    ·rw[List.filter_cons_of_neg (by simp[h2])]
     omega
    ·rw[List.filter_cons_of_pos (by simp[h1,h2]),List.map_cons,List.sum_cons]
     omega
theorem a9O{K:PySem.W.Frag}{a:Addr}{xs:List V}{g:TG}{tt:TT}{te:TE}{Q:Hp->Prop}{σ:L2.St}{H:Hp}{D:Addr}(Pv:Nat->L2.St->Hp->Prop)(h0:Pv 0 σ (upd H D (.lst [])))
  (hl:∀i σ2 H2,Pv i σ2 H2->SqT K H2 a xs)
  (hs:∀i x p σ2 H2,xs[i]?=some x->Pv i σ2 H2->H2 p=none->g (.ref p) σ2 (upd H2 p (.tup [.int (i:Int),x])) fun σ4 H4=>tt σ4 H4 fun b H5=>
   if b=true then te σ4 H5 fun y H6=>∃ys,H6 D=some (.lst ys)/\ys.length < sizeLine/\Pv (i+1) σ4 (upd H6 D (.lst (ys++[y])))else Pv (i+1) σ4 H5)
  (hd:∀σ2 H2,Pv xs.length σ2 H2->Q H2):
  ∃W:Nat->Nat->L2.St->Hp->Prop,(∃m,W 0 m σ (upd H D (.lst [])))/\∀i m σ2 H2,W i m σ2 H2->
   ((Ite K a).stop i H2/\Q H2)\/((Ite K a).go i H2/\∃N:L2.St->Hp->Prop,(∀σ' H',N σ' H'->∃m',m' < m/\W (i+1) m' σ' H')/\∀x H3,(Ite K a).yld i H2 x H3->g x σ2 H3 fun σ4 H4=>tt σ4 H4 fun b H5=>
    if b=true then te σ4 H5 fun y H6=>∃ys,H6 D=some (.lst ys)/\ys.length < sizeLine/\N σ4 (upd H6 D (.lst (ys++[y])))else N σ4 H5):=by
 refine a3t xs.length Pv h0 (fun i σ2 H2 hi p=>?_) fun σ2 H2 p=>⟨⟨xs,hl _ _ _ p,rfl⟩,hd _ _ p⟩
 have e:=List.getElem?_eq_getElem hi
 refine⟨⟨xs,_,hl _ _ _ p,e⟩,fun x H3 hy=>?_⟩
 obtain⟨q,v,hv,hq,rfl,rfl⟩:=hy
 exact hs i v q σ2 H2 (hv xs (hl _ _ _ p)) p hq
noncomputable def b6b:Sp:=fun vs H Q _=>∃(n:Str)(u:Addr)(ws:List V)(rs:List Rw),vs=[.str n,.ref u]/\H u=some (.tup ws)/\a0K H ws rs/\rs.length<=40/\∀(l:Addr)(us:List V)(H':Hp),G6 H H'->H l=none->H' l=some (.lst us.reverse)->Paired (a0q H') us (R1 n rs)->Q (.ref l) H'
theorem b5Q(T:Txt K mg):L2.Cl P w K mg base 1 "last_first" ["part","rows"] b6b:=by
 refine Cl.of T.d_last_first a2W (fun vs H Q E h=>?_) (fun _ _ _ _ _ _ us hl=>by obtain⟨a,b,rfl⟩:=a3F hl;rfl) (fun fa cdv A outer s H vs Q E hr h=>?_)
 ·obtain⟨n,u,ws,rs,rfl,_⟩:=h
  rfl
 ·obtain⟨n,u,ws,rs,rfl,hu',hrs,h40,q⟩:=h
  have hwl:ws.length=rs.length:=Paired.length hrs
  refine⟨_,(G3 (a3S (j:=2) (M:=["number","row","part"]) (ρ:=[none,none,some 0]) (J3 a0S) ["part","rows","steps"] ⟨rfl,by decide +kernel,by decide +kernel,by decide +kernel,rfl,by decide +kernel,by decide +kernel⟩ a2W.nd rfl (Or.inl rfl) (a5i (by rfl) T.n_enumerate (G0 (pv 1) G4)) (fun _ _ _ _ _ _=>(a1X (K:=K) (n:=2) rfl rfl (J0 (I0 (i:=0) (show(["number","row","part"]:List Str).Nodup by decide +kernel) rfl (Or.inl rfl)) (J0 (I0 (i:=1) (show(["number","row","part"]:List Str).Nodup by decide +kernel) rfl (Or.inl rfl)) Y1)))) (fun _ _ _ _ _ _=>a1m) (fun _ _ _ _ _ _=>(R9 (G0 (pv 2) (G0 (pv 0) (G0 (pv 1) G4))))))
   (G5 (R4 (b2e rfl (pv 2) (by rfl) T.n_list (by rfl) T.n_reversed)))),?_⟩
  refine⟨_,rfl,u,rfl,⟨_,SqT.of hu'⟩,fun D hD=>?_⟩
  refine a9O (K:=K) (a:=u) (xs:=ws) (fun i σ H2=>∃(v0 v1:Option V)(us:List V),σ=[v0,v1,some (.str n)]/\G6 H H2/\H2 D=some (.lst us)/\Paired (a0q H2) us (R1 n (rs.take i))) ⟨_,_,[],rfl,(G6.refl H).new hD,G1,by rw[List.take_zero];exact .nil⟩ (fun i σ2 H2⟨_,_,_,_,s2,_⟩=>SqT.of (s2 _ _ hu')) ?_ ?_
  ·rintro i x p σ H2 hx ⟨v0,v1,us,rfl,s2,hD2,hus⟩ hp
   obtain⟨rw,hrw,r,er,hra⟩:=Paired.get? hrs hx
   subst er
   have hi:=(List.getElem?_eq_some_iff.mp hrw).1
   have hul:us.length<=40:=by rw[Paired.length hus,O7,List.length_take];omega
   have s3:G6 H2 (upd H2 p (.tup [.int (i:Int),.ref r])):=(G6.refl H2).new hp
   refine⟨p,_,rfl,SqT.of G1,rfl,_,_,rfl,_,_,rfl,rfl,?_⟩
   refine⟨_,rfl,_,rfl,_,rfl,a0n,fun e ge=>?_⟩
   have s4:G6 H2 (upd (upd H2 p (.tup [.int (i:Int),.ref r])) e (.tup [.str n,.int (i:Int),.ref r])):=s3.new ge
   have hD4:=s4 _ _ hD2
   have TL:=J9.lst (ys:=us++[.ref e]) hD4
   refine⟨us,hD4,J6 (by omega),_,_,us++[.ref e],rfl,(s2.trans s4).put hD,G1,?_⟩
   rw[J2 hrw,a2g]
   refine Paired.snoc (Paired.mapP hus fun _ _ z=>z.mono (s4.tups.trans TL)) ⟨e,r,rfl,?_,hra.mono ((s2.trans s4).tups.trans TL)⟩
   rw[List.length_take,Nat.min_eq_left (by omega)]
   exact TL _ _ G1
  ·rintro σ H2 ⟨v0,v1,us,rfl,s2,hD2,hus⟩
   rw[hwl,List.take_length]at hus
   refine⟨_,rfl,D,_,rfl,SqL.of hD2,fun l gl=>?_⟩
   exact q l us _ (s2.new gl) (s2.free gl) G1 (Paired.mapP hus fun _ _ z=>z.mono (J9.new gl))
noncomputable def a6W (kvs:List (Key×V)):List Str:=kvs.filterMap fun kv=>match kv.1 with
 | Sum.inr x=>some x
 | _=>none
theorem a7w(l:List Str):a6W (O6 l)=l:=by
 unfold a6W O6
 induction l with
 | nil=>rfl
 | cons x r ih=>rw[List.map_cons,List.filterMap_cons,ih]
noncomputable def muX (ps:List Pt) (bg wt:Addr) (H:Hp):Nat:=match H bg,H wt with
 | some (.dK kvs),some (.lst ws)=>ws.length+a1h ps (a6W kvs)
 | _,_=>0
theorem a6X{ps:List Pt}{bg wt:Addr}{H:Hp}{b:List Str}{ws:List V}(h1:H bg=some (.dK (O6 b)))(h2:H wt=some (.lst ws)):muX ps bg wt H=ws.length+a1h ps b:=by
 unfold muX
 rw[h1,h2]
 show ws.length+a1h ps (a6W (O6 b))=_
 rw[a7w]
theorem inW(rw:Rw):inV (.str (R0 rw)) [.str "set",.str "take",.str "say",.str "need"]=D6 rw:=by
 cases rw<;>(simp only[R0,D6];decide +kernel)
theorem b1s(ps:List Pt):a1h ps []=(G7 ps).length:=by
 induction ps with
 | nil=>rfl
 | cons pt r ih=>
  have e:G7 (pt::r)=R1 pt.1 pt.2++G7 r:=rfl
  rw[e,List.length_append,O7,<-ih]
  unfold a1h
  rw[List.filter_cons_of_pos (by simp),List.map_cons,List.sum_cons]
theorem a5C{ps:List Pt}(f:a0c ps){n:Str}{rs:List Rw}(h:(n,rs)∈ps):(R1 n rs).length+a1h ps [n]<=960:=by
 have h1:=a3s h (b:=[]) (by simp)
 rw[b1s,List.nil_append]at h1
 have h2:=a0V f.rows
 have:=f.hi
 rw[O7]
 omega
theorem a2Z{rw:Rw}(h:¬R0 rw="bring"):a3O rw=none:=by
 cases rw with
 | bring m prs=>exact absurd rfl h
 | _=>rfl
theorem a5w{rw:Rw}{m:Str}{prs:List (Str×Str)}(e:rw= .bring m prs){rs:List Rw}(h:rw∈rs):m∈D8 "bring" rs:=(a1l "bring" m rs).mpr ⟨rw,h,by rw[e];simp[Z2]⟩
noncomputable def b4Q:Sp:=fun vs H Q _=>∃(a:Addr)(ps:List Pt)(n:Str),vs=[.ref a,.str n]/\F3 H a ps/\a0c ps/\a1W ps/\n∈ps.map (·.1)/\∀(wk:Addr)(us:List V)(H':Hp),G6 H H'->H' wk=some (.lst us)->Paired (a0q H') us (lay ps 960 (R1 n (U7 ps n)) [n] [])->Q (.ref wk) H'
theorem b2S(T:Txt K mg):L2.Cl P w K mg base 2 "work_in_order" ["parts","root"] b4Q:=by
 have C_last_first:=b5Q (P:=P) (w:=w) (base:=base) T
 refine Cl.of T.d_work_in_order O2 (fun vs H Q E h=>?_) (fun _ _ _ _ _ _ us hl=>by obtain⟨a,b,rfl⟩:=a3F hl;rfl) (fun fa cdv A outer s H vs Q E hr h=>?_)
 ·obtain⟨a,ps,n,rfl,_⟩:=h
  rfl
 ·obtain⟨a,ps,root,rfl,hpf,hfit,hcl,hroot,q⟩:=h
  have hu:=D4 hr
  have hhi:=hfit.hi
  obtain⟨o,vs,ha,ho,hps⟩:=id hpf
  refine⟨_,(G3 (I9 (i:=2) O2.nd rfl (Or.inl rfl) (U6 (a3f rfl) (by rfl) T.n_dict boot_dict (G0 (pv 0) G4)))
   (G3 (I9 (i:=3) O2.nd rfl (Or.inl rfl) (b3t (b1v (pv 1) a0O b3s) rfl rfl (List.cons_ne_nil _ _) (by show 1<=15;decide)))
   (G3 (I9 (i:=4) O2.nd rfl (Or.inl rfl) (U9 C_last_first hr (by rfl) (G0 (pv 1) (G0 (Z0 hu (pv 2) (pv 1) (fun _ _=>rfl)) G4))))
   (G3 (I9 (i:=5) O2.nd rfl (Or.inl rfl) (Y5 G4))
   (G3 (a1c PassesOwn.never (a7K (pv 4) (fun _=>rfl))
    (G3 (I9 (i:=6) O2.nd rfl (Or.inl rfl) (a8B PySem.F.plainAttrs_list PySem.F.slot_list_pop PySem.F.type_list_pop a8w (pv 4)))
    (G3 (I9 (i:=7) O2.nd rfl (Or.inl rfl) (G9 J5 (pv 6) G2 (fun _ _=>rfl)))
    (G5 (U8 (J7 a2I (G9 J5 (pv 7) G2 (fun _ _=>rfl)) (R9 (G0 R6 (G0 R6 (G0 R6 (G0 R6 G4))))) (by with_unfolding_all rfl))
     (G5 (Z1 (D7 PySem.F.plainAttrs_list PySem.F.slot_list_append PySem.F.type_list_append Z5 (pv 5) (G0 (pv 6) G4)))) (G5 (U8 (PW.pt (a0Y (J7 Z8 (G9 J5 (pv 7) G2 (fun _ _=>rfl)) R6 (R7 _)) (a0k (a2m (a4e hu (G9 J5 (pv 7) G2 (fun _ _=>rfl)) (pv 3))))))
      (G3 (E5 hu (pv 3) (G9 J5 (pv 7) G2 (fun _ _=>rfl)) a0O rfl)
      (G5 (Z1 (D7 PySem.F.plainAttrs_list PySem.F.slot_list_extend PySem.F.type_list_extend a6w (pv 4) (G0 (U9 C_last_first hr (by rfl) (G0 (G9 J5 (pv 7) G2 (fun _ _=>rfl)) (G0 (Z0 hu (pv 2) (G9 J5 (pv 7) G2 (fun _ _=>rfl)) (fun _ _=>rfl)) G4))) G4))))) R8)))))))
   (G5 (R4 (pv 5)))))))),?_⟩
  obtain⟨qs,g1,g2,g3⟩:=a1r (K:=K) hps
  have hql:qs.length=ps.length:=by
   have:=congrArg List.length g2
   simpa using this
  refine⟨_,rfl,a,o,vs,qs,rfl,ha,ho,g1,(by omega),fun rd grd=>?_⟩
  have s1:G6 H (upd H rd (.dK (a0i qs []))):=(G6.refl H).new grd
  have hrd1:upd H rd (.dK (a0i qs [])) rd=some (.dK (a0i qs [])):=G1
  have hget:∀{H2:Hp}{m:Str}{rs:List Rw},H2 rd=some (.dK (a0i qs []))->(m,rs)∈ps->∃u ws,F5 H2 rd (.str m) (some (.ref u))/\H u=some (.tup ws)/\a0K H ws rs:=fun{H2 m rs}h hm=>by
   obtain⟨u,ws,k1,k2,k3⟩:=g3 m rs hm
   have hg:=F5.k (k:=Sum.inr m) h
   rw[a2S qs [] m (.ref u) (by rw[g2];exact hfit.nd) (.inl k1)]at hg
   exact⟨u,ws,hg,k2,k3⟩
  generalize upd H rd (.dK (a0i qs []))=H1 at s1 hrd1⊢
  intro bg gbg
  refine⟨_,rfl,?_⟩
  refine⟨G1,[(Sum.inr root,.bl true)],rfl,(by show 1<=15;decide),?_⟩
  have s2:G6 H1 (upd (upd H1 bg (.dK [])) bg (.dK (a2d [] [(Sum.inr root,.bl true)]))):=((G6.refl H1).new gbg).put gbg
  have hbg2:upd (upd H1 bg (.dK [])) bg (.dK (a2d [] [(Sum.inr root,.bl true)])) bg=some (.dK (O6 [root])):=G1
  generalize upd (upd H1 bg (.dK [])) bg (.dK (a2d [] [(Sum.inr root,.bl true)]))=H2 at s2 hbg2⊢
  obtain⟨rs0,hm0⟩:=a0Q hroot
  have hrd2:=s2 _ _ hrd1
  obtain⟨u0,ws0,hd0,hu0,hr0⟩:=hget hrd2 hm0
  have s02:=s1.trans s2
  refine⟨_,rfl,_,rfl,_,rfl,rd,_,rfl,hd0,?_⟩
  refine⟨root,u0,ws0,rs0,rfl,s02 _ _ hu0,hr0.mono s02.tups,hfit.rows _ hm0,fun wt us0 H3 s3 gwt hwt3 hus0=>?_⟩
  have hrd3:=s3 _ _ hrd2
  have hbg3:=s3 _ _ hbg2
  have gbgH:H bg=none:=s1.free gbg
  have gwtH:H wt=none:=s02.free gwt
  have hbw:bg≠wt:=fun z=>by rw[<-z,hbg2]at gwt;cases gwt
  have hrw:rd≠wt:=fun z=>by rw[<-z,hrd2]at gwt;cases gwt
  have hrb:rd≠bg:=fun z=>by rw[<-z,hrd1]at gbg;cases gbg
  refine⟨a0E,fun wk gwk=>?_⟩
  have s4:G6 H3 (upd H3 wk (.lst [])):=(G6.refl H3).new gwk
  have s03:=s02.trans s3
  have gwkH:H wk=none:=s03.free gwk
  have hwkb:bg≠wk:=fun z=>by rw[<-z,hbg3]at gwk;cases gwk
  have hwkr:rd≠wk:=fun z=>by rw[<-z,hrd3]at gwk;cases gwk
  have hwkt:wt≠wk:=fun z=>by rw[<-z,hwt3]at gwk;cases gwk
  apply a3M
  ·with_reducible_and_instances rfl
  have hro:U7 ps root=rs0:=D0 hfit.nd hm0
  refine a1J (fun σ H4=>∃(todo:List Pl)(b:List Str)(oo:List Pl)(us os:List V)(k:Nat)(v6 v7:Option V),σ=[some (.ref a),some (.str root),some (.ref rd),some (.ref bg),some (.ref wt),some (.ref wk),v6,v7]/\G6 H H4/\H4 rd=some (.dK (a0i qs []))/\H4 bg=some (.dK (O6 b))/\H4 wt=some (.lst us.reverse)/\Paired (a0q H4) us todo/\H4 wk=some (.lst os)/\Paired (a0q H4) os oo/\lay ps k todo b oo=lay ps 960 (R1 root (U7 ps root)) [root] []/\todo.length+a1h ps b<=k/\oo.length+k<=960/\b.Nodup/\(∀x∈b,x∈ps.map (·.1))/\∀x∈todo,∃rs,(x.1,rs)∈ps/\x.2.2∈rs) (fun σ H4=>muX ps bg wt H4)
   ⟨R1 root rs0,[root],[],us0,[],960,_,_,rfl,s03.trans s4,s4 _ _ hrd3,s4 _ _ hbg3,s4 _ _ hwt3,Paired.mapP hus0 fun _ _ z=>z.mono s4.tups,G1,.nil,by rw[hro],a5C hfit hm0,by simp,by simp,fun x hx=>by rw[List.mem_singleton.mp hx];exact hroot,fun x hx=>?_⟩ ?_ ?_
  ·obtain⟨e1,e2⟩:=a0p.mp hx
   exact⟨rs0,by rw[e1];exact hm0,List.mem_of_getElem? e2⟩
  ·rintro σ H4 ⟨todo,b,oo,us,os,k,v6,v7,rfl,s5,hrd5,hbg5,hwt5,hus,hwk5,hos,hlay,hfu,hok,hnd,hbn,htd⟩
   refine⟨_,rfl,_,.inl ⟨_,SqL.of hwt5,rfl⟩,?_⟩
   have hbl:=B1 b _ hnd hbn
   rw[List.length_map]at hbl
   cases hus with
   | nil=>
    refine F6 ?_
    refine⟨_,rfl,q wk os H4 s5 hwk5 ?_⟩
    rw[<-hlay]
    cases k with
    | zero=>exact hos
    | succ k=>exact hos
   | @cons v x us' t hv hus'=>
    obtain⟨c,r,ev,hc,hra⟩:=hv
    subst ev
    rw[show(!((V.ref c::us').reverse).isEmpty)=true by simp]
    refine B9 ?_
    have hlast:((V.ref c::us').reverse)[((V.ref c::us').reverse).length - 1]?=some (.ref c):=by simp
    refine⟨_,rfl,.inl ⟨rfl,_,SqL.of hwt5⟩,wt,_,_,rfl,rfl,hwt5,hlast,?_⟩
    rw[show((V.ref c::us').reverse).dropLast=us'.reverse by simp]
    have hmu:=a6X (ps:=ps) hbg5 hwt5
    rw[List.length_reverse,List.length_cons]at hmu
    have TW:=J9.lst (ys:=us'.reverse) hwt5
    have s6:G6 H (upd H4 wt (.lst us'.reverse)):=s5.put gwtH
    have hrd6:upd H4 wt (.lst us'.reverse) rd=some (.dK (a0i qs [])):=by rw[G8 hrw];exact hrd5
    have hbg6:upd H4 wt (.lst us'.reverse) bg=some (.dK (O6 b)):=by rw[G8 hbw];exact hbg5
    have hwk6:upd H4 wt (.lst us'.reverse) wk=some (.lst os):=by rw[G8 hwkt.symm];exact hwk5
    have hwt6:upd H4 wt (.lst us'.reverse) wt=some (.lst us'.reverse):=G1
    have hc6:=TW _ _ hc
    have hra6:=hra.mono TW
    have hus6:Paired (a0q (upd H4 wt (.lst us'.reverse))) us' t:=Paired.mapP hus' fun _ _ z=>z.mono TW
    have hos6:Paired (a0q (upd H4 wt (.lst us'.reverse))) os oo:=Paired.mapP hos fun _ _ z=>z.mono TW
    generalize upd H4 wt (.lst us'.reverse)=H6 at s6 hrd6 hbg6 hwk6 hwt6 hc6 hra6 hus6 hos6⊢
    refine⟨_,rfl,c,_,_,_,rfl,rfl,SqT.of hc6,rfl,?_⟩
    obtain⟨x1,rs1,hrt⟩:=hra6.kind
    have z0:atI (V.str (R0 x.2.2)::x1::rs1) 0=some (.str (R0 x.2.2)):=U3 (j:=0) rfl
    obtain⟨k,rfl⟩:∃k',k=k'+1:=⟨k - 1,by rw[List.length_cons]at hfu;omega⟩
    rw[List.length_cons]at hfu
    have htl:us'.length=t.length:=Paired.length hus'
    have hol:os.length=oo.length:=Paired.length hos
    have htd':∀y∈t,∃rs,(y.1,rs)∈ps/\y.2.2∈rs:=fun y hy=>htd y (List.mem_cons_of_mem _ hy)
    refine⟨_,rfl,r,_,_,_,rfl,rfl,SqT.of hrt,z0,(by show 4<=sizeLine;decide),fun c4 gc4=>?_⟩
    have s7:G6 H6 (upd H6 c4 (.tup [.str "set",.str "take",.str "say",.str "need"])):=(G6.refl H6).new gc4
    refine⟨c4,_,rfl,.inr (SqT.of G1),rfl,rfl,_,rfl,?_⟩
    rw[if_neg (by decide),inW]
    generalize upd H6 c4 (.tup [.str "set",.str "take",.str "say",.str "need"])=H7 at s7⊢
    have s67:=s6.trans s7
    have hrd7:=s7 _ _ hrd6
    have hbg7:=s7 _ _ hbg6
    have hwk7:=s7 _ _ hwk6
    have hwt7:=s7 _ _ hwt6
    have hus7:Paired (a0q H7) us' t:=Paired.mapP hus6 fun _ _ z=>z.mono s7.tups
    have hos7:Paired (a0q H7) os oo:=Paired.mapP hos6 fun _ _ z=>z.mono s7.tups
    by_cases hw:D6 x.2.2=true
    ·rw[hw]
     refine B9 ?_
     refine⟨_,rfl,.inl ⟨rfl,_,SqL.of hwk7⟩,_,rfl,wk,_,_,rfl,rfl,hwk7,J6 (by omega),?_⟩
     have TK:=J9.lst (ys:=os++[.ref c]) hwk7
     have hbg8:upd H7 wk (.lst (os++[.ref c])) bg=some (.dK (O6 b)):=by rw[G8 hwkb];exact hbg7
     have hwt8:upd H7 wk (.lst (os++[.ref c])) wt=some (.lst us'.reverse):=by rw[G8 hwkt];exact hwt7
     refine⟨⟨t,b,oo++[x],us',os++[.ref c],k,_,_,rfl,s67.put gwkH,by rw[G8 hwkr];exact hrd7,hbg8,hwt8,Paired.mapP hus7 fun _ _ z=>z.mono TK,G1,Paired.snoc (Paired.mapP hos7 fun _ _ z=>z.mono TK) ⟨c,r,rfl,TK _ _ (s7 _ _ hc6),hra6.mono (s7.tups.trans TK)⟩,?_,by omega,by rw[List.length_append,List.length_singleton];omega,hnd,hbn,htd'⟩,?_⟩
     ·rw[<-hlay]
      show _=lay ps (k+1) (x::t) b oo
      rw[lay,if_pos hw]
     ·show muX ps bg wt _ < muX ps bg wt H4
      rw[a6X hbg8 hwt8,hmu,List.length_reverse]
      omega
    ·have hw':D6 x.2.2=false:=by simpa using hw
     rw[hw']
     refine F6 ?_
     have same:lay ps (k+1) (x::t) b oo=lay ps k t b oo->(∃(todo:List Pl)(b:List Str)(oo:List Pl)(us os:List V)(k:Nat)(v6 v7:Option V),[some (V.ref a),some (.str root),some (.ref rd),some (.ref bg),some (.ref wt),some (.ref wk),some (.ref c),some (.ref r)]=[some (.ref a),some (.str root),some (.ref rd),some (.ref bg),some (.ref wt),some (.ref wk),v6,v7]/\G6 H H7/\H7 rd=some (.dK (a0i qs []))/\H7 bg=some (.dK (O6 b))/\H7 wt=some (.lst us.reverse)/\Paired (a0q H7) us todo/\H7 wk=some (.lst os)/\Paired (a0q H7) os oo/\lay ps k todo b oo=lay ps 960 (R1 root (U7 ps root)) [root] []/\todo.length+a1h ps b<=k/\oo.length+k<=960/\b.Nodup/\(∀x∈b,x∈ps.map (·.1))/\∀x∈todo,∃rs,(x.1,rs)∈ps/\x.2.2∈rs)/\muX ps bg wt H7 < muX ps bg wt H4:=fun e=>by
      refine⟨⟨t,b,oo,us',os,k,_,_,rfl,s67,hrd7,hbg7,hwt7,hus7,hwk7,hos7,by rw[<-e];exact hlay,by omega,by omega,hnd,hbn,htd'⟩,?_⟩
      rw[a6X hbg7 hwt7,hmu,List.length_reverse]
      omega
     by_cases hkb:R0 x.2.2="bring"
     ·obtain⟨m,prs,em⟩:∃m prs,x.2.2= .bring m prs:=by
       cases e:x.2.2 with
       | bring m prs=>exact⟨m,prs,rfl⟩
       | _=>rw[e]at hkb;simp only[R0]at hkb;exact absurd hkb (by decide +kernel)
      rw[em]at hra6
      obtain⟨t',hrt',_⟩:=hra6
      have hrt7:=s7 _ _ hrt'
      refine⟨_,rfl,r,_,_,_,rfl,rfl,SqT.of hrt7,rfl,rfl,_,rfl,D1 ?_⟩
      refine⟨_,rfl,r,_,_,_,rfl,rfl,SqT.of hrt7,rfl,_,rfl,bg,_,rfl,F5.k (k:=Sum.inr m) hbg7,?_⟩
      refine⟨_,rfl,?_⟩
      rw[a4q]
      by_cases hmb:m∈b
      ·rw[decide_eq_true hmb]
       refine F6 ?_
       refine same ?_
       rw[lay,if_neg hw,em]
       show(if m∈b then _ else _)=_
       rw[if_pos hmb]
      ·rw[decide_eq_false hmb]
       refine B9 ?_
       obtain⟨rsx,hxm,hxr⟩:=htd x List.mem_cons_self
       have hmN:m∈ps.map (·.1):=by
        refine hcl x.1 (List.mem_map_of_mem (f:=(·.1)) hxm) m ?_
        unfold k1
        rw[D0 hfit.nd hxm]
        exact a5w em hxr
       obtain⟨rm,hmm⟩:=a0Q hmN
       have hadd:a0l b m=b++[m]:=by unfold a0l;rw[if_neg hmb]
       have hlen:=a3s hmm hmb
       refine⟨_,rfl,_,rfl,r,_,_,_,rfl,rfl,SqT.of hrt7,rfl,bg,_,rfl,a0C.k (k:=Sum.inr m) hbg7 (J6 (by rw[a2u];omega)),?_⟩
       rw[a3r,hadd]
       have TB:J9 H7 (upd H7 bg (.dK (O6 (b++[m])))):=J9.dK hbg7
       have s8:G6 H (upd H7 bg (.dK (O6 (b++[m])))):=s67.put gbgH
       have hbg8:upd H7 bg (.dK (O6 (b++[m]))) bg=some (.dK (O6 (b++[m]))):=G1
       have hrd8:upd H7 bg (.dK (O6 (b++[m]))) rd=some (.dK (a0i qs [])):=by rw[G8 hrb];exact hrd7
       have hwt8:upd H7 bg (.dK (O6 (b++[m]))) wt=some (.lst us'.reverse):=by rw[G8 hbw.symm];exact hwt7
       have hwk8:upd H7 bg (.dK (O6 (b++[m]))) wk=some (.lst os):=by rw[G8 hwkb.symm];exact hwk7
       have hus8:Paired (a0q (upd H7 bg (.dK (O6 (b++[m]))))) us' t:=Paired.mapP hus7 fun _ _ z=>z.mono TB
       have hos8:Paired (a0q (upd H7 bg (.dK (O6 (b++[m]))))) os oo:=Paired.mapP hos7 fun _ _ z=>z.mono TB
       have hrt8:=TB _ _ hrt7
       generalize upd H7 bg (.dK (O6 (b++[m])))=H8 at TB s8 hbg8 hrd8 hwt8 hwk8 hus8 hos8 hrt8⊢
       obtain⟨um,wm,hdm,hum,hrm⟩:=hget hrd8 hmm
       have hr40:=hfit.rows _ hmm
       refine⟨_,rfl,.inl ⟨rfl,_,SqL.of hwt8⟩,_,rfl,r,_,_,_,rfl,rfl,SqT.of hrt8,rfl,_,rfl,_,rfl,r,_,_,_,rfl,rfl,SqT.of hrt8,rfl,rd,_,rfl,hdm,?_⟩
       refine⟨m,um,wm,rm,rfl,s8 _ _ hum,hrm.mono s8.tups,hr40,fun l us2 H9 s9 gl hl9 hus2=>?_⟩
       have hwt9:=s9 _ _ hwt8
       have hul2:us2.length=rm.length:=by rw[Paired.length hus2,O7]
       refine⟨wt,l,_,_,rfl,rfl,hwt9,hl9,Nat.le_of_lt (szK (by rw[List.length_reverse,List.length_reverse];omega)),?_⟩
       rw[<-List.reverse_append]
       have TE':=J9.lst (ys:=(us2++us').reverse) hwt9
       have hbg10:upd H9 wt (.lst (us2++us').reverse) bg=some (.dK (O6 (b++[m]))):=by rw[G8 hbw];exact s9 _ _ hbg8
       have hwt10:upd H9 wt (.lst (us2++us').reverse) wt=some (.lst (us2++us').reverse):=G1
       refine⟨⟨R1 m rm++t,b++[m],oo,us2++us',os,k,_,_,rfl,(s8.trans s9).put gwtH,by rw[G8 hrw];exact s9 _ _ hrd8,hbg10,hwt10,a3m (Paired.mapP hus2 fun _ _ z=>z.mono TE') (Paired.mapP hus8 fun _ _ z=>z.mono (s9.tups.trans TE')),by rw[G8 hwkt.symm];exact s9 _ _ hwk8,Paired.mapP hos8 fun _ _ z=>z.mono (s9.tups.trans TE'),?_,?_,by omega,?_,fun y hy=>?_,fun y hy=>?_⟩,?_⟩
       ·rw[<-hlay]
        show _=lay ps (k+1) (x::t) b oo
        rw[lay,if_neg hw,em]
        show _=(if m∈b then _ else _)
        rw[if_neg hmb,D0 hfit.nd hmm]
       ·rw[List.length_append,O7]
        omega
       ·exact List.nodup_append.mpr ⟨hnd,by simp,fun y hy z hz w=>hmb (by rw[<-List.mem_singleton.mp hz,<-w];exact hy)⟩
       ·rcases List.mem_append.mp hy with z | z
        ·exact hbn y z
        ·rw[List.mem_singleton.mp z];exact hmN
       ·rcases List.mem_append.mp hy with z | z
        ·obtain⟨e1,e2⟩:=a0p.mp z
         exact⟨rm,by rw[e1];exact hmm,List.mem_of_getElem? e2⟩
        ·exact htd' y z
       ·show muX ps bg wt _ < muX ps bg wt H4
        rw[a6X hbg10 hwt10,hmu,List.length_reverse,List.length_append]
        omega
     ·refine⟨_,rfl,r,_,_,_,rfl,rfl,SqT.of (s7 _ _ hrt),z0,rfl,_,rfl,W3 hkb ?_⟩
      refine F6 ?_
      refine same ?_
      rw[lay,if_neg hw,a2Z hkb]
  ·rintro σ H4 Q1 Q2 hQ ⟨v,e,b,hb,hq⟩
   exact⟨v,e,b,hb,hQ _ _ hq⟩
theorem Dfs.inside{k:Str->List Str}{N:List Str}(hk:∀n∈N,∀m∈k n,m∈N){V l R:List Str}(h:Dfs k V l R):(∀x∈V,x∈N)->(∀x∈l,x∈N)->∀x∈R,x∈N:=by
 induction h with
 | nil=>exact fun hV _ x hx=>hV x hx
 | old _ _ ih=>exact fun hV hl=>ih hV fun x hx=>hl x (List.mem_cons_of_mem _ hx)
 | new _ _ ih=>
  intro hV hl
  have hn:=hl _ List.mem_cons_self
  refine ih (fun x hx=>?_) fun x hx=>?_
  ·rcases List.mem_append.mp hx with z | z
   ·exact hV x z
   ·rw[List.mem_singleton.mp z];exact hn
  ·rcases List.mem_append.mp hx with z | z
   ·exact hk _ hn x z
   ·exact hl x (List.mem_cons_of_mem _ z)
noncomputable def b1E (ps:List Pt):Prop:=∀pt∈ps,∀r∈pt.2,¬R0 r="ask"
theorem a4D(ps:List Pt):b1E (quiet ps):=fun pt hpt r hr=>by
 obtain⟨rs,_,e⟩:=a1E hpt
 rw[e]at hr
 have:=(List.mem_filter.mp hr).2
 intro z
 unfold a0D at this
 rw[decide_eq_true z]at this
 cases this
noncomputable def b1P:Sp:=fun vs H Q _=>∃(a:Addr)(ps:List Pt)(n:Str),vs=[.ref a,.str n]/\F3 H a ps/\a0c ps/\a1W ps/\b1E ps/\n∈ps.map (·.1)/\∀H',G6 H H'->Q .non H'
theorem b0B(T:Txt K mg):L2.Cl P w K mg base 4 "refuse_asks" ["parts","root"] b1P:=by
 have C_order:=b1A (P:=P) (w:=w) (base:=base) T
 refine Cl.of T.d_refuse_asks B6 (fun vs H Q E h=>?_) (fun _ _ _ _ _ _ us hl=>by obtain⟨a,b,rfl⟩:=a3F hl;rfl) (fun fa cdv A outer s H vs Q E hr h=>?_)
 ·obtain⟨a,ps,n,rfl,_⟩:=h
  rfl
 ·obtain⟨a,ps,root,rfl,hpf,hfit,hcl,hna,hroot,q⟩:=h
  have hu:=D4 hr
  have hhi:=hfit.hi
  obtain⟨o,vs,ha,ho,hps⟩:=id hpf
  refine⟨_,(G3 (I9 (i:=2) B6.nd rfl (Or.inl rfl) (U6 (a3f rfl) (by rfl) T.n_dict boot_dict (G0 (pv 0) G4)))
   (G5 (Y0 PassesOwn.never rfl (F1 (U9 C_order hr (by rfl) (G0 (pv 0) (G0 (pv 1) G4)))) (I0 (i:=3) B6.nd rfl (Or.inl rfl))
    (G5 (Y0 PassesOwn.never rfl (a5i (by rfl) T.n_enumerate (G0 (Z0 hu (pv 2) (pv 3) (fun _ _=>rfl)) G4)) (E2 rfl (J0 (I0 (i:=4) B6.nd rfl (Or.inl rfl)) (J0 (I0 (i:=5) B6.nd rfl (Or.inl rfl)) Y1)))
     (G5 (U8 (J7 Z8 (G9 J5 (pv 5) G2 (fun _ _=>rfl)) R6 (R7 _))
      (G5 b1n) R8))))))),?_⟩
  obtain⟨qs,g1,g2,g3⟩:=a1r (K:=K) hps
  have hql:qs.length=ps.length:=by
   have:=congrArg List.length g2
   simpa using this
  refine⟨_,rfl,a,o,vs,qs,rfl,ha,ho,g1,(by omega),fun rd grd=>?_⟩
  have s1:G6 H (upd H rd (.dK (a0i qs []))):=(G6.refl H).new grd
  have hrd1:upd H rd (.dK (a0i qs [])) rd=some (.dK (a0i qs [])):=G1
  generalize upd H rd (.dK (a0i qs []))=H1 at s1 hrd1⊢
  refine⟨_,rfl,_,rfl,a,ps,root,rfl,s1.partsF hpf,hfit,hcl,hroot,fun p R H2 s2 hp hD=>?_⟩
  have hR:=hD.inside hcl (fun x hx=>by simp at hx) (fun x hx=>by rw[List.mem_singleton.mp hx];exact hroot)
  have s12:=s1.trans s2
  have hrd2:=s2 _ _ hrd1
  refine⟨p,rfl,⟨_,SqT.of hp⟩,E6 (K:=K) (a:=p) (xs:=R.map V.str) (fun i σ H3=>∃(v3 v4 v5:Option V),σ=[some (.ref a),some (.str root),some (.ref rd),v3,v4,v5]/\G6 H2 H3)
   ⟨_,_,_,rfl,G6.refl H2⟩ (fun i σ H3 _⟨_,_,_,_,s3⟩=>SqT.of (s3 _ _ hp)) ?_ ?_⟩
  ·rintro i y σ H3 hy ⟨v3,v4,v5,rfl,s3⟩
   rw[List.getElem?_map]at hy
   cases hn:R[i]? with
   | none=>rw[hn]at hy;cases hy
   | some n=>
    rw[hn]at hy
    cases hy
    obtain⟨rs,hm⟩:=a0Q (hR n (List.mem_of_getElem? hn))
    obtain⟨u,ws,k1',k2',k3'⟩:=g3 n rs hm
    have hg:=F5.k (k:=Sum.inr n) (s3 _ _ hrd2)
    rw[a2S qs [] n (.ref u) (by rw[g2];exact hfit.nd) (.inl k1')]at hg
    have s13:=s12.trans s3
    show B0 3 _ _ _ _
    refine⟨_,rfl,_,rfl,rd,_,rfl,hg,?_⟩
    refine⟨u,rfl,⟨_,SqT.of (s13 _ _ k2')⟩,a7v (K:=K) (a:=u) (xs:=ws) (fun j σ H4=>∃(v4 v5:Option V),σ=[some (.ref a),some (.str root),some (.ref rd),some (.str n),v4,v5]/\G6 H3 H4)
     ⟨_,_,rfl,G6.refl H3⟩ (fun j σ H4 _⟨_,_,_,s4⟩=>SqT.of ((s13.trans s4) _ _ k2')) ?_ ?_⟩
    ·rintro j z pp σ H4 hz ⟨w4,w5,rfl,s4⟩ hpp
     obtain⟨rw,hrw,r,er,hra⟩:=Paired.get? k3' hz
     subst er
     have s5:G6 H4 (upd H4 pp (.tup [.int (j:Int),.ref r])):=(G6.refl H4).new hpp
     obtain⟨x1,rs1,hrt⟩:=(hra.mono ((s13.trans s4).trans s5).tups).kind
     have z0:atI (V.str (R0 rw)::x1::rs1) 0=some (.str (R0 rw)):=U3 (j:=0) rfl
     refine⟨pp,_,rfl,SqT.of G1,rfl,_,_,rfl,_,_,rfl,rfl,?_⟩
     refine⟨_,rfl,r,_,_,_,rfl,rfl,SqT.of hrt,z0,rfl,_,rfl,W3 (hna _ hm rw (List.mem_of_getElem? hrw)) ?_⟩
     exact⟨_,_,rfl,s4.trans s5⟩
    ·rintro σ H4 ⟨w4,w5,rfl,s4⟩
     exact⟨_,_,_,rfl,s3.trans s4⟩
  ·rintro σ H3 ⟨v3,v4,v5,rfl,s3⟩
   exact q H3 (s12.trans s3)
theorem b0c{ps:List Pt}{m:Str}{r:Rw}(h:r∈U7 ps m):(m,U7 ps m)∈ps:=by
 unfold U7 at h⊢
 cases e:ps.find? fun p=>decide (p.1=m)with
 | none=>rw[e]at h;simp at h
 | some pt=>
  have h1:=List.mem_of_find?_eq_some e
  have h2:pt.1=m:=of_decide_eq_true (List.find?_some (p:=fun p:Pt=>decide (p.1=m)) e)
  show(m,pt.2)∈ps
  rw[<-h2]
  exact h1
theorem a3p{ps:List Pt}{C:Pl->Prop}(hC:∀m,∀x∈R1 m (U7 ps m),C x):∀(k:Nat)(todo:List Pl)(b:List Str)(o:List Pl),(∀x∈todo,C x)->(∀x∈o,C x/\D6 x.2.2=true)->∀x∈lay ps k todo b o,C x/\D6 x.2.2=true
 | 0,todo,b,o,_,ho=>ho
 | _+1,[],b,o,_,ho=>ho
 | k+1,y::t,b,o,ht,ho=>by
  have ht':∀x∈t,C x:=fun x hx=>ht x (List.mem_cons_of_mem _ hx)
  rw[lay]
  by_cases hw:D6 y.2.2=true
  ·rw[if_pos hw]
   refine a3p hC k t b _ ht' fun x hx=>?_
   rcases List.mem_append.mp hx with z | z
   ·exact ho x z
   ·rw[List.mem_singleton.mp z];exact⟨ht y List.mem_cons_self,hw⟩
  ·rw[if_neg hw]
   cases a3O y.2.2 with
   | none=>exact a3p hC k t b o ht' ho
   | some m=>
    show∀x∈(if m∈b then lay ps k t b o else lay ps k (R1 m (U7 ps m)++t) (b++[m]) o),_
    by_cases hm:m∈b
    ·rw[if_pos hm];exact a3p hC k t b o ht' ho
    ·rw[if_neg hm]
     refine a3p hC k _ _ o (fun x hx=>?_) ho
     rcases List.mem_append.mp hx with z | z
     ·exact hC m x z
     ·exact ht' x z
theorem a2G{ps:List Pt}:∀(k:Nat)(todo:List Pl)(b:List Str)(o:List Pl),(lay ps k todo b o).length<=o.length+k
 | 0,todo,b,o=>Nat.le_refl _
 | _+1,[],b,o=>Nat.le_add_right _ _
 | k+1,y::t,b,o=>by
  rw[lay]
  by_cases hw:D6 y.2.2=true
  ·rw[if_pos hw]
   have:=a2G (ps:=ps) k t b (o++[y])
   rw[List.length_append,List.length_singleton]at this
   omega
  ·rw[if_neg hw]
   cases a3O y.2.2 with
   | none=>
    have:=a2G (ps:=ps) k t b o
    exact Nat.le_trans this (by omega)
   | some m=>
    show(if m∈b then lay ps k t b o else lay ps k (R1 m (U7 ps m)++t) (b++[m]) o).length<=_
    by_cases hm:m∈b
    ·rw[if_pos hm]
     have:=a2G (ps:=ps) k t b o
     omega
    ·rw[if_neg hm]
     have:=a2G (ps:=ps) k (R1 m (U7 ps m)++t) (b++[m]) o
     omega
noncomputable def b1M (ps:List Pt) (x:Pl):Prop:=∃rs,(x.1,rs)∈ps/\rs[x.2.1]?=some x.2.2
theorem b2r{ps:List Pt}{k:Nat}{n:Str}:∀x∈lay ps k (R1 n (U7 ps n)) [n] [],b1M ps x/\D6 x.2.2=true:=by
 have hC:∀m,∀x∈R1 m (U7 ps m),b1M ps x:=fun m x hx=>by
  obtain⟨e1,e2⟩:=a0p.mp hx
  exact⟨U7 ps m,by rw[e1];exact b0c (List.mem_of_getElem? e2),e2⟩
 exact a3p hC k _ _ _ (hC n) fun x hx=>by simp at hx
theorem a7B{K:PySem.W.Frag}{a:Addr}{xs:List V}{g:TG}{tt:TT}{te:TE}{Q:Hp->Prop}{σ:L2.St}{H:Hp}{D:Addr}(Pv:Nat->L2.St->Hp->Prop)(h0:Pv 0 σ (upd H D (.lst [])))
  (hl:∀i σ2 H2,Pv i σ2 H2->SqL K H2 a xs)
  (hs:∀i x σ2 H2,xs[i]?=some x->Pv i σ2 H2->g x σ2 H2 fun σ4 H4=>tt σ4 H4 fun b H5=>
   if b=true then te σ4 H5 fun y H6=>∃ys,H6 D=some (.lst ys)/\ys.length < sizeLine/\Pv (i+1) σ4 (upd H6 D (.lst (ys++[y])))else Pv (i+1) σ4 H5)
  (hd:∀σ2 H2,Pv xs.length σ2 H2->Q H2):
  ∃W:Nat->Nat->L2.St->Hp->Prop,(∃m,W 0 m σ (upd H D (.lst [])))/\∀i m σ2 H2,W i m σ2 H2->
   ((Itl K a).stop i H2/\Q H2)\/((Itl K a).go i H2/\∃N:L2.St->Hp->Prop,(∀σ' H',N σ' H'->∃m',m' < m/\W (i+1) m' σ' H')/\∀x H3,(Itl K a).yld i H2 x H3->g x σ2 H3 fun σ4 H4=>tt σ4 H4 fun b H5=>
    if b=true then te σ4 H5 fun y H6=>∃ys,H6 D=some (.lst ys)/\ys.length < sizeLine/\N σ4 (upd H6 D (.lst (ys++[y])))else N σ4 H5):=by
 refine a3t xs.length Pv h0 (fun i σ2 H2 hi p=>?_) fun σ2 H2 p=>⟨⟨xs,hl _ _ _ p,Nat.le_refl _⟩,hd _ _ p⟩
 have e:=List.getElem?_eq_getElem hi
 refine⟨⟨xs,_,hl _ _ _ p,e⟩,fun x H3 hy=>?_⟩
 obtain⟨rfl,hx⟩:=hy
 exact hs i x σ2 H3 (hx xs (hl _ _ _ p)) p
noncomputable def b0V (NN:Str->Str->Str) (H:Hp) (v:V) (x:Pl):Prop:=∃r,v= .ref r/\RV (NN x.1) H r x.2.2
noncomputable def b0w (H:Hp) (v:V) (x:Pl):Prop:=∃c,v= .ref c/\H c=some (.tup [.str x.1,.int (x.2.1:Int)])
theorem b0V.mono{NN:Str->Str->Str}{H H':Hp}(s:J9 H H'){v:V}{x:Pl}(h:b0V NN H v x):b0V NN H' v x:=by
 obtain⟨r,e,h⟩:=h
 exact⟨r,e,h.mono s⟩
theorem b0w.mono{H H':Hp}(s:J9 H H'){v:V}{x:Pl}(h:b0w H v x):b0w H' v x:=by
 obtain⟨r,e,h⟩:=h
 exact⟨r,e,s _ _ h⟩
noncomputable def a9B (ps:List Pt):Prop:=∀x,b1M ps x->D6 x.2.2=true->a2C (fun y=>(x.1,y)∈a7V (G7 ps)) x.2.2
noncomputable def b4v:Sp:=fun vs H Q _=>∃(a:Addr)(ps:List Pt)(n:Str),vs=[.ref a,.str n]/\F3 H a ps/\a0c ps/\M3 (G7 ps)/\(∀k∈W1 (G7 ps),k.2.length<=100)/\a1W ps/\b1E ps/\n∈ps.map (·.1)/\a9B ps/\
 ∀(t rt ot:Addr)(rv ov:List V)(NN:Str->Str->Str)(ts:List Tr)(H':Hp),G6 H H'->H' t=some (.tup [.ref rt,.ref ot])->H' rt=some (.tup rv)->H' ot=some (.tup ov)->ts.map (fun t=>(t.1,t.2.1))=W1 (G7 ps)->a4H ((W1 (G7 ps)).map (·.2)) ts->(∀m,IsN (G7 ps) ts m (NN m))->Paired (b0V NN H') rv (lay ps 960 (R1 n (U7 ps n)) [n] [])->Paired (b0w H') ov (lay ps 960 (R1 n (U7 ps n)) [n] [])->Q (.ref t) H'
theorem b3J(T:Txt K mg):L2.Cl P w K mg base 6 "flat" ["parts","root"] b4v:=by
 have C_refuse_asks:=b0B (P:=P) (w:=w) (base:=base) T
 have C_makers_names:=b0D (P:=P) (w:=w) (base:=base) T
 have C_work_in_order:=b2S (P:=P) (w:=w) (base:=base) T
 have C_renamed_row:=b3S (P:=P) (w:=w) (base:=base) T
 refine Cl.of T.d_flat a3T (fun vs H Q E h=>?_) (fun _ _ _ _ _ _ us hl=>by obtain⟨a,b,rfl⟩:=a3F hl;rfl) (fun fa cdv A outer s H vs Q E hr h=>?_)
 ·obtain⟨a,ps,n,rfl,_⟩:=h
  rfl
 ·obtain⟨a,ps,n,rfl,hpf,hfit,hnet,hklen,hcl,hna,hn,hU,q⟩:=h
  refine⟨_,(G3 (Z1 (U9 C_refuse_asks hr (by rfl) (G0 (pv 0) (G0 (pv 1) G4))))
   (G3 (I9 (i:=2) a3T.nd rfl (Or.inr rfl) (U9 C_makers_names hr (by rfl) (G0 (pv 0) G4)))
   (G3 (I9 (i:=3) a3T.nd rfl (Or.inl rfl) (U9 C_work_in_order hr (by rfl) (G0 (pv 0) (G0 (pv 1) G4))))
   (G3 (a3S (j:=4) (M:=["part","number","row","news"]) (ρ:=[none,none,none,some 2]) (J3 a5a) ["parts","root","news","work","rows","origins"] ⟨rfl,by decide +kernel,by decide +kernel,by decide +kernel,rfl,by decide +kernel,by decide +kernel⟩ a3T.nd rfl (Or.inl rfl) (a1T (pv 3)) (fun _ _ _ _ _ _=>(a1X (K:=K) (n:=3) rfl rfl (J0 (I0 (i:=0) (show(["part","number","row","news"]:List Str).Nodup by decide +kernel) rfl (Or.inl rfl)) (J0 (I0 (i:=1) (show(["part","number","row","news"]:List Str).Nodup by decide +kernel) rfl (Or.inl rfl)) (J0 (I0 (i:=2) (show(["part","number","row","news"]:List Str).Nodup by decide +kernel) rfl (Or.inl rfl)) Y1))))) (fun _ _ _ _ _ _=>a1m) (fun _ _ _ _ _ _=>(U9 C_renamed_row hr (by rfl) (G0 (pv 0) (G0 (pv 2) (G0 (pv 3) G4))))))
   (G3 (a3S (j:=5) (M:=["part","number","row"]) (ρ:=[none,none,none]) (J3 a5a) ["parts","root","news","work","rows","origins"] ⟨rfl,by decide +kernel,by decide +kernel,by decide +kernel,rfl,by decide +kernel,by decide +kernel⟩ a3T.nd rfl (Or.inl rfl) (a1T (pv 3)) (fun _ _ _ _ _ _=>(a1X (K:=K) (n:=3) rfl rfl (J0 (I0 (i:=0) (show(["part","number","row"]:List Str).Nodup by decide +kernel) rfl (Or.inl rfl)) (J0 (I0 (i:=1) (show(["part","number","row"]:List Str).Nodup by decide +kernel) rfl (Or.inl rfl)) (J0 (I0 (i:=2) (show(["part","number","row"]:List Str).Nodup by decide +kernel) rfl (Or.inl rfl)) Y1))))) (fun _ _ _ _ _ _=>a1m) (fun _ _ _ _ _ _=>(R9 (G0 (pv 0) (G0 (pv 1) G4)))))
   (G5 (R4 (R9 (G0 (U6 Y2 (by rfl) T.n_tuple boot_tuple (G0 (pv 4) G4)) (G0 (U6 Y2 (by rfl) T.n_tuple boot_tuple (G0 (pv 5) G4)) G4)))))))))),?_⟩
  refine⟨_,rfl,_,rfl,a,ps,n,rfl,hpf,hfit,hcl,hna,hn,fun H1 s1=>?_⟩
  refine⟨_,rfl,a,ps,rfl,s1.partsF hpf,hfit,hnet,hklen,fun f fkv ts H2 s2 hf hks hnn hnam=>?_⟩
  have s12:=s1.trans s2
  refine⟨_,rfl,_,rfl,a,ps,n,rfl,s12.partsF hpf,hfit,hcl,hn,fun wk us H3 s3 hwk hus=>?_⟩
  have hin:=b2r (ps:=ps) (k:=960) (n:=n)
  have hlen:=a2G (ps:=ps) 960 (R1 n (U7 ps n)) [n] []
  generalize hL:lay ps 960 (R1 n (U7 ps n)) [n] []=L at hus hin hlen
  have hul:us.length=L.length:=Paired.length hus
  simp only[List.length_nil,Nat.zero_add]at hlen
  have s13:=s12.trans s3
  have hf3:=s3 _ _ hf
  have hNN:∀m y,(m,y)∈a7V (G7 ps)->b0m fkv m (fun y=>a8b (Y6 fkv (U0 (m,y)))) y/\∃p,Mk (R5 (G7 ps)) (O3 (G7 ps)) (m,y) p/\(p,a8b (Y6 fkv (U0 (m,y))))∈M2 (R5 (G7 ps)) ts:=fun m y hy=>by
   obtain⟨p,nm,h1,h2,h3⟩:=hnam _ hy
   refine⟨?_,p,h1,?_⟩
   ·show Y6 fkv (U0 (m,y))=some (.str (a8b (Y6 fkv (U0 (m,y)))))
    rw[h3]
    rfl
   ·rw[h3]
    exact h2
  refine⟨_,rfl,wk,rfl,⟨_,SqL.of hwk⟩,fun D hD=>?_⟩
  refine a7B (K:=K) (a:=wk) (xs:=us) (fun i σ H4=>∃(v0 v1 v2:Option V)(rv:List V),σ=[v0,v1,v2,some (.ref f)]/\G6 H3 H4/\H4 D=some (.lst rv)/\Paired (b0V (fun m y=>a8b (Y6 fkv (U0 (m,y)))) H4) rv (L.take i)) ⟨_,_,_,[],rfl,(G6.refl H3).new hD,G1,by rw[List.take_zero];exact .nil⟩ (fun i σ2 H4⟨_,_,_,_,_,s4,_⟩=>SqL.of (s4 _ _ hwk)) ?_ ?_
  ·rintro i x σ H4 hx ⟨v0,v1,v2,rv,rfl,s4,hD4,hrv⟩
   obtain⟨y,hy,c,r,ex,hc,hra⟩:=Paired.get? hus hx
   subst ex
   have hrl:rv.length<=960:=by rw[Paired.length hrv,List.length_take];omega
   obtain⟨hyin,hyw⟩:=hin y (List.mem_of_getElem? hy)
   refine⟨c,_,rfl,SqT.of (s4 _ _ hc),rfl,_,_,rfl,_,_,rfl,_,_,rfl,rfl,?_⟩
   refine⟨_,rfl,_,rfl,_,rfl,y.1,r,y.2.2,f,fkv,fun z=>a8b (Y6 fkv (U0 (y.1,z))),rfl,hra.mono s4.tups,s4 _ _ hf3,(hU y hyin hyw).imp fun z hz=>(hNN y.1 z hz).1,fun r' H5 s5 hrv'=>?_⟩
   have hD5:=s5 _ _ hD4
   have TL:=J9.lst (ys:=rv++[.ref r']) hD5
   refine⟨rv,hD5,J6 (by omega),_,_,_,rv++[.ref r'],rfl,(s4.trans s5).put hD,G1,?_⟩
   rw[J2 hy]
   exact Paired.snoc (Paired.mapP hrv fun _ _ z=>z.mono (s5.tups.trans TL)) ⟨r',rfl,hrv'.mono TL⟩
  ·rintro σ H4 ⟨v0,v1,v2,rv,rfl,s4,hD4,hrv⟩
   rw[hul,List.take_length]at hrv
   refine⟨_,rfl,wk,rfl,⟨_,SqL.of (s4 _ _ hwk)⟩,fun D2 hD2=>?_⟩
   refine a7B (K:=K) (a:=wk) (xs:=us) (fun i σ H5=>∃(v0 v1 v2:Option V)(ov:List V),σ=[v0,v1,v2]/\G6 H4 H5/\H5 D2=some (.lst ov)/\Paired (b0w H5) ov (L.take i)) ⟨_,_,_,[],rfl,(G6.refl H4).new hD2,G1,by rw[List.take_zero];exact .nil⟩ (fun i σ2 H5⟨_,_,_,_,_,s5,_⟩=>SqL.of ((s4.trans s5) _ _ hwk)) ?_ ?_
   ·rintro i x σ H5 hx ⟨v0,v1,v2,ov,rfl,s5,hD5,hov⟩
    obtain⟨y,hy,c,r,ex,hc,hra⟩:=Paired.get? hus hx
    subst ex
    have hol:ov.length<=960:=by rw[Paired.length hov,List.length_take];omega
    refine⟨c,_,rfl,SqT.of ((s4.trans s5) _ _ hc),rfl,_,_,rfl,_,_,rfl,_,_,rfl,rfl,?_⟩
    refine⟨_,rfl,_,rfl,Z9,fun e ge=>?_⟩
    have s6:G6 H5 (upd H5 e (.tup [.str y.1,.int (y.2.1:Int)])):=(G6.refl H5).new ge
    have hD6:=s6 _ _ hD5
    have TL:=J9.lst (ys:=ov++[.ref e]) hD6
    refine⟨ov,hD6,J6 (by omega),_,_,_,ov++[.ref e],rfl,(s5.trans s6).put hD2,G1,?_⟩
    rw[J2 hy]
    exact Paired.snoc (Paired.mapP hov fun _ _ z=>z.mono (s6.tups.trans TL)) ⟨e,rfl,TL _ _ G1⟩
   ·rintro σ H5 ⟨v0,v1,v2,ov,rfl,s5,hD5,hov⟩
    rw[hul,List.take_length]at hov
    refine⟨_,rfl,D,_,rfl,.inl ⟨SqL.of (s5 _ _ hD4),fun rt grt=>?_⟩⟩
    have s6:G6 H5 (upd H5 rt (.tup rv)):=(G6.refl H5).new grt
    refine⟨_,rfl,D2,_,rfl,.inl ⟨SqL.of (s6 _ _ hD5),fun ot got=>?_⟩⟩
    have s7:=s6.new (o:= .tup ov) got
    refine⟨Z9,fun t gt=>?_⟩
    have s8:=s7.new (o:= .tup [.ref rt,.ref ot]) gt
    exact q t rt ot rv ov _ ts _ (s13.trans (s4.trans (s5.trans s8))) G1 (U4 (U4 G1 got) gt) (U4 G1 gt) hks hnn (fun m y hy=>(hNN m y hy).2) (by rw[hL];exact Paired.mapP hrv fun _ _ z=>z.mono (s5.trans s8).tups) (by rw[hL];exact Paired.mapP hov fun _ _ z=>z.mono s8.tups)
theorem a5G{osc:Scope}{N:List Str}{sc:Scope}{M:List Str}{ρ:List (Option Nat)}(kind:sc.kind= .function)(only:∀y∈sc.names,y.2≠ .cell/\y.2≠ .free)(own:∀y∈sc.names,y.2= .local->sc.names.lookup y.1=some .local)(len:ρ.length=M.length)(ren:∀o∈ρ,o=none)(nd:M.Nodup):a2Q osc N sc M ρ where
 kind:=kind
 nocell:=fun y hy=>(only y hy).1
 own:=own
 fre:=fun y hy h=>absurd h (only y hy).2
 len:=len
 ren:=fun p hp=>by
  have h1:=ren p.1 (List.of_mem_zip hp).1
  rw[h1]
 nd:=nd
theorem b3f{X:Cx}{K:PySem.W.Frag}(h:X.K=K){tg l:Expr}{tl:TE}(hl:PE X l tl):PI X tg l (b5D K tl):=h▸F1 hl
theorem b1u(r:Rw):decide (V.str (R0 r)=V.str "ask")= !a0D r:=by
 unfold a0D
 by_cases h:R0 r="ask"
 ·rw[h];rfl
 ·rw[decide_eq_false h,decide_eq_false (fun z=>h (V.str.inj z))];rfl
noncomputable def a9K:Sp:=fun vs H Q _=>∃(a:Addr)(ps:List Pt),vs=[.ref a]/\F3 H a ps/\a0c ps/\∀(x:Addr)(H':Hp),G6 H H'->F3 H' x (quiet ps)->Q (.ref x) H'
theorem a9f(T:Txt K mg):L2.Cl P w K mg base 1 "_law_quieted" ["_law_parts_here"] a9K:=by
 refine Cl.of T.d_law_quieted a4V (fun vs H Q E h=>?_) (fun _ _ _ _ _ _ us hl=>by obtain⟨a,rfl⟩:=a2V hl;rfl) (fun fa cdv A outer s H vs Q E hr h=>?_)
 ·obtain⟨a,ps,rfl,_⟩:=h
  rfl
 ·obtain⟨a,ps,rfl,hpf,hfit,q⟩:=h
  have hhi:=hfit.hi
  obtain⟨o,vs,ha,ho,hps⟩:=id hpf
  have sqa:∀{H2:Hp},G6 H H2->SqT K H2 a vs:=fun s2=> .inl (.inr ⟨o,s2 _ _ ha⟩)
  have hvl:vs.length=ps.length:=Paired.length hps
  refine⟨_,(G5 (R4 (U6 a2p (by rfl) T.n_tuple boot_tuple (G0 (a4L (M:=["_law_name_here","_law_rows"]) (ρ:=[none,none]) (J3 a0t) ["_law_parts_here"] ⟨rfl,by decide +kernel,by decide +kernel,by decide +kernel,rfl,by decide +kernel,by decide +kernel⟩ (F1 (pv 0)) (fun _ _ _ _ _ _=>(a1X (K:=K) (n:=2) rfl rfl (J0 (I0 (i:=0) (show(["_law_name_here","_law_rows"]:List Str).Nodup by decide +kernel) rfl (Or.inl rfl)) (J0 (I0 (i:=1) (show(["_law_name_here","_law_rows"]:List Str).Nodup by decide +kernel) rfl (Or.inl rfl)) Y1)))) (fun _ _ _ _ _ _=>a1m) (fun _ _ _ _ _ _=>(R9 (G0 (pv 0) (G0 (U6 (a4R (K:=K) rfl) (by rfl) T.n_tuple boot_tuple (G0 (a4L (M:=["_law_row_here"]) (ρ:=[none]) _ ["_law_name_here","_law_rows"] (a5G rfl (by decide +kernel) (by decide +kernel) rfl (by decide +kernel) (by decide +kernel)) (b3f (K:=K) rfl (pv 1)) (fun _ _ _ _ _ _=>(I0 (i:=0) (show(["_law_row_here"]:List Str).Nodup by decide +kernel) rfl (Or.inl rfl))) (fun _ _ _ _ _ _=>(b3G (J7 a5v (G9 (b3V (K:=K) rfl) (pv 0) G2 (fun _ _=>rfl)) R6 (R7 _)))) (fun _ _ _ _ _ _=>(pv 0))) G4)) G4))))) G4)))),?_⟩
  refine⟨_,rfl,a,rfl,⟨_,sqa (G6.refl H)⟩,fun D hD=>?_⟩
  refine a3B (K:=K) (a:=a) (xs:=vs) (fun i σ H2=>∃(v0 v1:Option V)(us:List V),σ=[v0,v1]/\G6 H H2/\H2 D=some (.lst us)/\Paired (a1t H2) us (quiet (ps.take i))) ⟨_,_,[],rfl,(G6.refl H).new hD,G1,by rw[List.take_zero];exact .nil⟩ (fun i σ2 H2⟨_,_,_,_,s2,_⟩=>sqa s2) ?_ ?_
  ·rintro i x σ H2 hx ⟨v0,v1,us,rfl,s2,hD2,hus⟩
   obtain⟨pt,hpt,t,u,ws,ex,ht,hu',hrs⟩:=Paired.get? hps hx
   subst ex
   have hi:=(List.getElem?_eq_some_iff.mp hpt).1
   have hwl:ws.length=pt.2.length:=Paired.length hrs
   have hr40:=hfit.rows _ (List.mem_of_getElem? hpt)
   have hul:us.length<=100:=by
    have:=Paired.length hus
    unfold quiet at this
    rw[List.length_map,List.length_take]at this
    omega
   refine⟨t,_,rfl,SqT.of (s2 _ _ ht),rfl,_,_,rfl,_,_,rfl,rfl,?_⟩
   refine⟨_,rfl,_,rfl,u,rfl,⟨_,SqT.of (s2 _ _ hu')⟩,fun D2 hD2'=>?_⟩
   refine a3B (K:=K) (a:=u) (xs:=ws) (fun j σ H3=>∃(v0:Option V)(zs:List V),σ=[v0]/\G6 H2 H3/\H3 D2=some (.lst zs)/\a0K H3 zs ((pt.2.take j).filter a0D)) ⟨_,[],rfl,(G6.refl H2).new hD2',G1,by rw[List.take_zero];exact .nil⟩ (fun i σ2 H3⟨_,_,_,s3,_⟩=>SqT.of ((s2.trans s3) _ _ hu')) ?_ ?_
   ·rintro j y σ H3 hy ⟨w0,zs,rfl,s3,hD3,hzs⟩
    obtain⟨rw,hrw,r,er,hra⟩:=Paired.get? hrs hy
    subst er
    have hj:=(List.getElem?_eq_some_iff.mp hrw).1
    have hra3:=hra.mono (s2.trans s3).tups
    obtain⟨x1,rs1,hrt⟩:=hra3.kind
    have z0:atI (V.str (R0 rw)::x1::rs1) 0=some (.str (R0 rw)):=U3 (j:=0) rfl
    have hzl:zs.length<=40:=by
     rw[Paired.length hzs]
     refine Nat.le_trans (List.length_filter_le _ _) ?_
     rw[List.length_take]
     omega
    refine⟨_,rfl,r,_,_,_,rfl,rfl,SqT.of hrt,z0,rfl,?_⟩
    rw[b1u]
    cases hk:a0D rw with
    | false=>
     refine⟨_,rfl,F6 ?_⟩
     refine⟨_,zs,rfl,s3,hD3,?_⟩
     rw[J2 hrw,List.filter_append,List.filter_cons_of_neg (by rw[hk];decide),List.filter_nil,List.append_nil]
     exact hzs
    | true=>
     refine⟨_,rfl,B9 ?_⟩
     have TL:=J9.lst (ys:=zs++[.ref r]) hD3
     refine⟨_,rfl,zs,hD3,J6 (by omega),_,zs++[.ref r],rfl,s3.put hD2',G1,?_⟩
     rw[J2 hrw,List.filter_append,List.filter_cons_of_pos hk,List.filter_nil]
     exact Paired.snoc (hzs.mono TL) ⟨r,rfl,hra3.mono TL⟩
   ·rintro σ H3 ⟨w0,zs,rfl,s3,hD3,hzs⟩
    rw[hwl,List.take_length]at hzs
    refine⟨D2,_,rfl,.inl ⟨SqL.of hD3,fun p gp=>?_⟩⟩
    have s4:G6 H2 (upd H3 p (.tup zs)):=s3.new gp
    refine⟨Z9,fun e ge=>?_⟩
    have s5:=s4.new (o:= .tup [.str pt.1,.ref p]) ge
    have hD5:=s5 _ _ hD2
    have TL:=J9.lst (ys:=us++[.ref e]) hD5
    refine⟨us,hD5,J6 (by omega),_,_,us++[.ref e],rfl,(s2.trans s5).put hD,G1,?_⟩
    have eq:quiet (ps.take (i+1))=quiet (ps.take i)++[(pt.1,pt.2.filter a0D)]:=by
     rw[J2 hpt]
     unfold quiet
     rw[List.map_append]
     rfl
    rw[eq]
    refine Paired.snoc (Paired.mapP hus fun _ _ z=>z.mono (s5.tups.trans TL)) ⟨e,p,zs,rfl,TL _ _ G1,TL _ _ (U4 G1 ge),?_⟩
    exact hzs.mono (((J9.new gp).trans (J9.new ge)).trans TL)
  ·rintro σ H2 ⟨v0,v1,us,rfl,s2,hD2,hus⟩
   rw[hvl,List.take_length]at hus
   refine⟨D,_,rfl,SqL.of hD2,fun x o' hx ho'=>?_⟩
   have s3:G6 H2 (upd H2 x (.frz o' (.tup us))):=(G6.refl H2).new hx
   exact q x _ (s2.trans s3) ⟨o',us,G1,ho',Paired.mapP hus fun _ _ z=>z.mono s3.tups⟩
noncomputable def a9h (ps:List Pt):Prop:=∀pt∈ps,∀r∈pt.2,D6 r=true\/R0 r="bring" \/R0 r="give"
noncomputable def a3h (H:Hp) (e:Addr) (s:Str×Nat):Prop:=H e=some (.lst [.str s.1,.int (s.2:Int)])
noncomputable def a0g (ps:List Pt) (st:List (Str×Nat)):List Pl:=st.flatMap fun s=>(R1 s.1 (U7 ps s.1)).drop s.2
theorem a8o{n:Str}{rs:List Rw}{k:Nat}{rw:Rw}(h:rs[k]?=some rw):(R1 n rs)[k]?=some (n,k,rw):=by
 unfold R1
 rw[List.getElem?_map,List.getElem?_zipIdx,h]
 simp
theorem a9Y{ps:List Pt}{n:Str}{k:Nat}{st:List (Str×Nat)}{rw:Rw}(h:(U7 ps n)[k]?=some rw):a0g ps ((n,k)::st)=(n,k,rw)::a0g ps ((n,k+1)::st):=by
 have h1:=a8o (n:=n) h
 have h2:=(List.getElem?_eq_some_iff.mp h1).1
 have h3:=(List.getElem?_eq_some_iff.mp h1).2
 show(R1 n (U7 ps n)).drop k++a0g ps st=(n,k,rw)::((R1 n (U7 ps n)).drop (k+1)++a0g ps st)
 rw[List.drop_eq_getElem_cons h2,h3]
 rfl
theorem b1w{ps:List Pt}{n:Str}{k:Nat}{st:List (Str×Nat)}(h:k=(U7 ps n).length):a0g ps ((n,k)::st)=a0g ps st:=by
 show(R1 n (U7 ps n)).drop k++a0g ps st=_
 rw[List.drop_eq_nil_of_le (by rw[O7,h];exact Nat.le_refl _),List.nil_append]
theorem a3o{r:Rw}(h:D6 r=true):¬R0 r="bring"/\¬R0 r="give":=by
 cases r with
 | set o ts=>simp only[R0];exact⟨by decide +kernel,by decide +kernel⟩
 | take o=>simp only[R0];exact⟨by decide +kernel,by decide +kernel⟩
 | say ts w=>simp only[R0];exact⟨by decide +kernel,by decide +kernel⟩
 | need ts=>simp only[R0];exact⟨by decide +kernel,by decide +kernel⟩
 | _=>cases h
theorem a0e{α β:Type}{F G:α->β->Prop}:∀{xs:List α}{ys:List β},Paired F xs ys->(∀x y,x∈xs->F x y->G x y)->Paired G xs ys
 | _,_,.nil,_=> .nil
 | _,_,.cons h r,f=> .cons (f _ _ List.mem_cons_self h) (a0e r fun x y hx=>f x y (List.mem_cons_of_mem _ hx))
theorem a3h.put{H:Hp}{e:Addr}{x:Addr}{o:HO}{s:Str×Nat}(h:a3h H x s)(hne:x≠e):a3h (upd H e o) x s:=by
 unfold a3h
 rw[G8 hne]
 exact h
theorem b1O{c A B:Prop}[Decidable c](hc:¬c)(h:A):if(!decide c)=true then A else B:=by
 rw[decide_eq_false hc]
 exact B9 h
noncomputable def b4A:Sp:=fun vs H Q _=>∃(a:Addr)(ps:List Pt)(n:Str),vs=[.ref a,.str n]/\F3 H a ps/\a0c ps/\a1W ps/\a9h ps/\n∈ps.map (·.1)/\∀(wk:Addr)(us:List V)(H':Hp),G6 H H'->H' wk=some (.lst us)->Paired (a0q H') us (lay ps 960 (R1 n (U7 ps n)) [n] [])->Q (.ref wk) H'
theorem b3F(T:Txt K mg):L2.Cl P w K mg base 1 "_law_laid" ["_law_parts_here","_law_root"] b4A:=by
 refine Cl.of T.d_law_laid E7 (fun vs H Q E h=>?_) (fun _ _ _ _ _ _ us hl=>by obtain⟨a,b,rfl⟩:=a3F hl;rfl) (fun fa cdv A outer s H vs Q E hr h=>?_)
 ·obtain⟨a,ps,n,rfl,_⟩:=h
  rfl
 ·obtain⟨a,ps,root,rfl,hpf,hfit,hcl,hko,hroot,q⟩:=h
  have hu:=D4 hr
  have hu0:=Nat.lt_of_succ_lt hu
  have hhi:=hfit.hi
  obtain⟨o,vs,ha,ho,hps⟩:=id hpf
  have sqa:∀{H2:Hp},G6 H H2->SqT K H2 a vs:=fun s2=> .inl (.inr ⟨o,s2 _ _ ha⟩)
  have hvl:vs.length=ps.length:=Paired.length hps
  refine⟨_,(G3 (I9 (i:=2) E7.nd rfl (Or.inl rfl) a2z)
   (G3 (Y0 PassesOwn.never rfl (F1 (pv 0)) (E2 rfl (J0 (I0 (i:=3) E7.nd rfl (Or.inl rfl)) (J0 (I0 (i:=4) E7.nd rfl (Or.inl rfl)) Y1)))
    (G5 (E5 hu (pv 2) (pv 3) (pv 4) rfl)))
   (G3 (I9 (i:=5) E7.nd rfl (Or.inl rfl) (Y5 (G0 (pv 1) G4)))
   (G3 (I9 (i:=6) E7.nd rfl (Or.inl rfl) (Y5 (G0 (Y5 (G0 (pv 1) (G0 G2 G4))) G4)))
   (G3 (I9 (i:=7) E7.nd rfl (Or.inl rfl) (Y5 G4))
   (G3 (a1c PassesOwn.never (J7 (a1P hu0) (pv 6) (Y5 G4) (R7 _))
    (G3 (I9 (i:=3) E7.nd rfl (Or.inl rfl) (G9 J4 (G9 J4 (pv 6) (a7t a4Q G2) (fun _ _=>rfl)) G2 (fun _ _=>rfl)))
    (G3 (I9 (i:=8) E7.nd rfl (Or.inl rfl) (G9 J4 (G9 J4 (pv 6) (a7t a4Q G2) (fun _ _=>rfl)) G2 (fun _ _=>rfl)))
    (G5 (U8 (J7 Z8 (pv 8) (R3 J8 (by rfl) T.n_len PySem.boot_len (G0 (Z0 hu (pv 2) (pv 3) (fun _ _=>rfl)) G4)) (R7 _))
     (G5 (Z1 (a8B PySem.F.plainAttrs_list PySem.F.slot_list_pop PySem.F.type_list_pop a8w (pv 6)))) (G3 (a8V (J1 O0 (pv 8) G2) (b4V (G9 J4 (pv 6) (a7t a4Q G2) (fun _ _=>rfl)) G2 b1k))
     (G3 (I9 (i:=9) E7.nd rfl (Or.inl rfl) (G9 J5 (Z0 hu (pv 2) (pv 3) (fun _ _=>rfl)) (pv 8) (fun _ _=>rfl)))
     (G3 (U8 (PW.pt (a0Y (J7 Z8 (G9 J5 (pv 9) G2 (fun _ _=>rfl)) R6 (R7 _)) (a0k (J7 a7c (G9 J5 (pv 9) G2 (fun _ _=>rfl)) (pv 5) (by with_unfolding_all rfl)))))
      (G3 (Z1 (D7 PySem.F.plainAttrs_list PySem.F.slot_list_append PySem.F.type_list_append Z5 (pv 5) (G0 (G9 J5 (pv 9) G2 (fun _ _=>rfl)) G4)))
      (G5 (Z1 (D7 PySem.F.plainAttrs_list PySem.F.slot_list_append PySem.F.type_list_append Z5 (pv 6) (G0 (Y5 (G0 (G9 J5 (pv 9) G2 (fun _ _=>rfl)) (G0 G2 G4))) G4))))) R8)
     (G5 (U8 (PW.pt (a0Y (J7 a5v (G9 J5 (pv 9) G2 (fun _ _=>rfl)) R6 (R7 _)) (a0k (J7 a5v (G9 J5 (pv 9) G2 (fun _ _=>rfl)) R6 (R7 _)))))
      (G5 (Z1 (D7 PySem.F.plainAttrs_list PySem.F.slot_list_append PySem.F.type_list_append Z5 (pv 7) (G0 (R9 (G0 (pv 3) (G0 (pv 8) (G0 (pv 9) G4)))) G4)))) R8))))))))))
   (G5 (R4 (pv 7))))))))),?_⟩
  intro rd grd
  refine⟨_,rfl,a,rfl,⟨_,sqa ((G6.refl H).new grd)⟩,E6 (K:=K) (a:=a) (xs:=vs) (fun i σ H2=>∃(kvs:List (Key×V))(v3 v4:Option V),σ=[some (.ref a),some (.str root),some (.ref rd),v3,v4,none,none,none,none,none]/\G6 H H2/\H2 rd=some (.dK kvs)/\kvs.length<=i/\∀pt∈ps.take i,∃u ws,Y6 kvs (Sum.inr pt.1)=some (.ref u)/\H u=some (.tup ws)/\a0K H ws pt.2)
   ⟨[],none,none,rfl,(G6.refl H).new grd,G1,by simp,fun pt hpt=>by simp at hpt⟩ (fun i σ H2 _⟨_,_,_,_,s2,_⟩=>sqa s2) ?_ ?_⟩
  ·rintro i y σ H2 hy ⟨kvs,v3,v4,rfl,s2,hrd,hkl,hval⟩
   obtain⟨pt,hpt,t,u,ws,ey,ht,hu',hrs⟩:=Paired.get? hps hy
   subst ey
   have hi:=(List.getElem?_eq_some_iff.mp hpt).1
   refine⟨t,_,rfl,SqT.of (s2 _ _ ht),rfl,_,_,rfl,_,_,rfl,rfl,?_⟩
   refine⟨_,rfl,_,rfl,_,rfl,rd,_,rfl,a0C.k (k:=Sum.inr pt.1) hrd (J6 (by omega)),?_⟩
   have hkl':=B4 kvs (Sum.inr pt.1) (.ref u)
   refine⟨_,_,_,rfl,s2.put grd,G1,by omega,fun p hp=>?_⟩
   rw[J2 hpt]at hp
   rcases List.mem_append.mp hp with z | z
   ·obtain⟨u',ws',h1,h2,h3⟩:=hval p z
    refine⟨u',ws',?_,h2,h3⟩
    rw[O9]
    by_cases e:p.1=pt.1
    ·exfalso
     have hnd:=hfit.nd
     rw[<-List.take_append_drop i ps,List.map_append]at hnd
     have hd:pt∈ps.drop i:=by
      rw[List.drop_eq_getElem_cons hi]
      rw[List.getElem?_eq_getElem hi]at hpt
      rw[<-Option.some.inj hpt]
      exact List.mem_cons_self
     exact(List.nodup_append.mp hnd).2.2 p.1 (List.mem_map_of_mem (f:=(·.1)) z) pt.1 (List.mem_map_of_mem (f:=(·.1)) hd) e
    ·rw[if_neg fun z=>e (Sum.inr.inj z)]
     exact h1
   ·rw[List.mem_singleton.mp z]
    exact⟨u,ws,by rw[O9,if_pos rfl],hu',hrs⟩
  ·rintro σ H2 ⟨kvs,v3,v4,rfl,s2,hrd,hkl,hval⟩
   rw[hvl,List.take_length]at hval
   refine⟨_,rfl,b1I,fun bg gbg=>?_⟩
   have s3:G6 H2 (upd H2 bg (.lst [.str root])):=(G6.refl H2).new gbg
   have hbg3:upd H2 bg (.lst [.str root]) bg=some (.lst [.str root]):=G1
   have nrb:rd≠bg:=fun z=>by rw[<-z,hrd]at gbg;cases gbg
   generalize upd H2 bg (.lst [.str root])=H3 at s3 hbg3⊢
   refine⟨_,rfl,Z9,fun e0 ge0=>?_⟩
   have s4:G6 H3 (upd H3 e0 (.lst [.str root,.int 0])):=(G6.refl H3).new ge0
   have he04:upd H3 e0 (.lst [.str root,.int 0]) e0=some (.lst [.str root,.int 0]):=G1
   have neb:e0≠bg:=fun z=>by rw[z,hbg3]at ge0;cases ge0
   have ner:e0≠rd:=fun z=>by rw[z,s3 _ _ hrd]at ge0;cases ge0
   generalize upd H3 e0 (.lst [.str root,.int 0])=H4 at s4 he04⊢
   refine⟨b1I,fun am gam=>?_⟩
   have s5:G6 H4 (upd H4 am (.lst [.ref e0])):=(G6.refl H4).new gam
   have ham5:upd H4 am (.lst [.ref e0]) am=some (.lst [.ref e0]):=G1
   have nae:e0≠am:=fun z=>by rw[<-z,he04]at gam;cases gam
   have nab:bg≠am:=fun z=>by rw[<-z,s4 _ _ hbg3]at gam;cases gam
   have nar:rd≠am:=fun z=>by rw[<-z,s4 _ _ (s3 _ _ hrd)]at gam;cases gam
   generalize upd H4 am (.lst [.ref e0])=H5 at s5 ham5⊢
   refine⟨a0E,fun ld gld=>?_⟩
   have s6:G6 H5 (upd H5 ld (.lst [])):=(G6.refl H5).new gld
   have hld6:upd H5 ld (.lst []) ld=some (.lst []):=G1
   have nle:e0≠ld:=fun z=>by rw[<-z,s5 _ _ he04]at gld;cases gld
   have nlb:bg≠ld:=fun z=>by rw[<-z,s5 _ _ (s4 _ _ hbg3)]at gld;cases gld
   have nlr:rd≠ld:=fun z=>by rw[<-z,s5 _ _ (s4 _ _ (s3 _ _ hrd))]at gld;cases gld
   have nla:am≠ld:=fun z=>by rw[<-z,ham5]at gld;cases gld
   generalize upd H5 ld (.lst [])=H6 at s6 hld6⊢
   have gbgH:H bg=none:=s2.free gbg
   have ge0H:H e0=none:=(s2.trans s3).free ge0
   have gamH:H am=none:=((s2.trans s3).trans s4).free gam
   have gldH:H ld=none:=(((s2.trans s3).trans s4).trans s5).free gld
   have s06:G6 H H6:=(((s2.trans s3).trans s4).trans s5).trans s6
   have hrd6:H6 rd=some (.dK kvs):=s6 _ _ (s5 _ _ (s4 _ _ (s3 _ _ hrd)))
   have hbg6:H6 bg=some (.lst [.str root]):=s6 _ _ (s5 _ _ (s4 _ _ hbg3))
   have ham6:H6 am=some (.lst [.ref e0]):=s6 _ _ ham5
   have he06:H6 e0=some (.lst [.str root,.int 0]):=s6 _ _ (s5 _ _ he04)
   obtain⟨rs0,hm0⟩:=a0Q hroot
   have hro:U7 ps root=rs0:=D0 hfit.nd hm0
   have hfu0:=a5C hfit hm0
   generalize hLdef:lay ps 960 (R1 root (U7 ps root)) [root] []=L at q
   apply a3M
   ·with_reducible_and_instances rfl
   refine⟨fun m σ H7=>∃(st:List (Str×Nat))(as:List Addr)(b:List Str)(oo:List Pl)(os:List V)(k:Nat)(v3 v4 v8 v9:Option V),σ=[some (.ref a),some (.str root),some (.ref rd),v3,v4,some (.ref bg),some (.ref am),some (.ref ld),v8,v9]/\G6 H H7/\H7 rd=some (.dK kvs)/\H7 bg=some (.lst (b.map V.str))/\H7 am=some (.lst (as.map V.ref).reverse)/\Paired (a3h H7) as st/\as.Nodup/\(∀x∈as,x≠rd/\x≠bg/\x≠am/\x≠ld/\H x=none)/\H7 ld=some (.lst os)/\Paired (a0q H7) os oo/\lay ps k (a0g ps st) b oo=L/\(a0g ps st).length+a1h ps b<=k/\oo.length+k<=960/\b.Nodup/\(∀x∈b,x∈ps.map (·.1))/\st.length<=b.length/\(∀x∈st,x.1∈ps.map (·.1)/\x.2<=(U7 ps x.1).length)/\m=2*((a0g ps st).length+a1h ps b)+st.length,
    ⟨_,[(root,0)],[e0],[root],[],[],960,_,_,_,_,rfl,s06,hrd6,hbg6,ham6,.cons he06 .nil,by simp,fun x hx=>by rw[List.mem_singleton.mp hx];exact⟨ner,neb,nae,nle,ge0H⟩,hld6,.nil,?_,?_,by simp,by simp,fun x hx=>by rw[List.mem_singleton.mp hx];exact hroot,Nat.le_refl _,fun x hx=>by rw[List.mem_singleton.mp hx];exact⟨hroot,Nat.zero_le _⟩,rfl⟩,?_⟩
   ·rw[<-hLdef]
    show lay ps 960 (((R1 root (U7 ps root)).drop 0)++[]) [root] []=_
    rw[List.drop_zero,List.append_nil]
   ·show(((R1 root (U7 ps root)).drop 0)++[]).length+a1h ps [root]<=960
    rw[List.drop_zero,List.append_nil,hro]
    exact hfu0
   ·rintro m σ H7 ⟨st,as,b,oo,os,k,v3,v4,v8,v9,rfl,s7,hrd7,hbg7,ham7,hst,hasn,hasx,hld7,hos,hlay,hfu,hok,hbn,hbi,hstb,hsti,rfl⟩
    have hbl:=B1 b _ hbn hbi
    rw[List.length_map]at hbl
    refine⟨_,rfl,a0E,fun z gz=>?_⟩
    have s8:G6 H7 (upd H7 z (.lst [])):=(G6.refl H7).new gz
    refine⟨am,z,_,rfl,rfl,SqL.of (s8 _ _ ham7),SqL.of G1,_,rfl,?_⟩
    generalize upd H7 z (.lst [])=H8 at s8⊢
    have s08:=s7.trans s8
    have hrd8:=s8 _ _ hrd7
    have hbg8:=s8 _ _ hbg7
    have ham8:=s8 _ _ ham7
    have hld8:=s8 _ _ hld7
    have hst8:Paired (a3h H8) as st:=Paired.mapP hst fun _ _ z=>s8 _ _ z
    have hos8:Paired (a0q H8) os oo:=Paired.mapP hos fun _ _ z=>z.mono s8.tups
    clear hst hos ham7 hbg7 hrd7 hld7
    cases hst8 with
    | nil=>
     refine F6 ?_
     refine⟨_,rfl,q ld os H8 s08 hld8 ?_⟩
     rw[<-hlay]
     show Paired (a0q H8) os (lay ps k [] b oo)
     cases k with
     | zero=>exact hos8
     | succ k=>exact hos8
    | @cons e sx as' st' he hst'=>
     obtain⟨n,at'⟩:=sx
     rw[show(!((e::as').map V.ref).reverse.isEmpty)=true by simp]
     refine B9 ?_
     refine⟨fun σ' H'=>∃m',m' < 2*((a0g ps ((n,at')::st')).length+a1h ps b)+((n,at')::st').length/\∃(st:List (Str×Nat))(as:List Addr)(b:List Str)(oo:List Pl)(os:List V)(k:Nat)(v3 v4 v8 v9:Option V),σ'=[some (.ref a),some (.str root),some (.ref rd),v3,v4,some (.ref bg),some (.ref am),some (.ref ld),v8,v9]/\G6 H H'/\H' rd=some (.dK kvs)/\H' bg=some (.lst (b.map V.str))/\H' am=some (.lst (as.map V.ref).reverse)/\Paired (a3h H') as st/\as.Nodup/\(∀x∈as,x≠rd/\x≠bg/\x≠am/\x≠ld/\H x=none)/\H' ld=some (.lst os)/\Paired (a0q H') os oo/\lay ps k (a0g ps st) b oo=L/\(a0g ps st).length+a1h ps b<=k/\oo.length+k<=960/\b.Nodup/\(∀x∈b,x∈ps.map (·.1))/\st.length<=b.length/\(∀x∈st,x.1∈ps.map (·.1)/\x.2<=(U7 ps x.1).length)/\m'=2*((a0g ps st).length+a1h ps b)+st.length,fun σ' H' h=>h,?_⟩
     have elast:atI ((e::as').map V.ref).reverse (-1)=some (.ref e):=by
      rw[List.map_cons,List.reverse_cons]
      exact b1j _ _
     have he8:H8 e=some (.lst [.str n,.int (at':Int)]):=he
     refine⟨_,rfl,_,rfl,am,_,_,_,rfl,rfl,SqL.of ham8,elast,e,_,_,_,rfl,rfl,SqL.of he8,rfl,?_⟩
     refine⟨_,rfl,_,rfl,am,_,_,_,rfl,rfl,SqL.of ham8,elast,e,_,_,_,rfl,rfl,SqL.of he8,rfl,?_⟩
     obtain⟨hnN,hat⟩:=hsti (n,at') List.mem_cons_self
     have hsti':∀x∈st',x.1∈ps.map (·.1)/\x.2<=(U7 ps x.1).length:=fun x hx=>hsti x (List.mem_cons_of_mem _ hx)
     obtain⟨ner',neb',nea',nel',gee⟩:=hasx e List.mem_cons_self
     have hasx':∀x∈as',x≠rd/\x≠bg/\x≠am/\x≠ld/\H x=none:=fun x hx=>hasx x (List.mem_cons_of_mem _ hx)
     obtain⟨hen,hasn'⟩:=List.nodup_cons.mp hasn
     obtain⟨rs,hm⟩:=a0Q hnN
     have hrn:U7 ps n=rs:=D0 hfit.nd hm
     obtain⟨u,ws,hval1,hu1,hrs1⟩:=hval _ hm
     have hwl:ws.length=rs.length:=Paired.length hrs1
     have hdg:∀{H9:Hp},H9 rd=some (.dK kvs)->F5 H9 rd (.str n) (some (.ref u)):=fun h9=>by
      have:=F5.k (k:=Sum.inr n) h9
      rw[show Y6 kvs (Sum.inr n)=some (.ref u)from hval1]at this
      exact this
     rw[List.length_cons]at hstb
     have hr40:=hfit.rows _ hm
     refine⟨_,rfl,_,rfl,_,rfl,rd,_,rfl,hdg hrd8,u,_,rfl,.inr (SqT.of (s08 _ _ hu1)),rfl,_,rfl,?_⟩
     have hat':at'<=(U7 ps n).length:=hat
     rw[hrn]at hat'
     by_cases hend:at'=rs.length
     ·rw[hwl,hend]
      refine b5x ?_
      have hlast:(((e::as').map V.ref).reverse)[(((e::as').map V.ref).reverse).length - 1]?=some (.ref e):=by simp
      refine⟨_,rfl,.inl ⟨rfl,_,SqL.of ham8⟩,am,_,_,rfl,rfl,ham8,hlast,?_⟩
      rw[show(((e::as').map V.ref).reverse).dropLast=(as'.map V.ref).reverse by simp]
      have TA:=J9.lst (ys:=(as'.map V.ref).reverse) ham8
      have etd:a0g ps ((n,rs.length)::st')=a0g ps st':=b1w (by rw[hrn])
      rw[hend,etd]at hlay hfu
      refine⟨_,?_,st',as',b,oo,os,k,_,_,_,_,rfl,s08.put gamH,by rw[G8 nar];exact hrd8,by rw[G8 nab];exact hbg8,G1,?_,hasn',hasx',by rw[G8 nla.symm];exact hld8,Paired.mapP hos8 fun _ _ z=>z.mono TA,hlay,hfu,hok,hbn,hbi,by omega,hsti',rfl⟩
      ·rw[etd,List.length_cons]
       omega
      ·exact a0e hst' fun x y hx z=>a3h.put z (hasx' x hx).2.2.1
     ·refine b5o (by omega) ?_
      have hlt:at' < rs.length:=by omega
      obtain⟨rr,hrr⟩:∃rr,rs[at']?=some rr:=⟨rs[at'],by simp[hlt]⟩
      obtain⟨v,hv,r,er,hra⟩:=Paired.get?' hrs1 hrr
      subst er
      have hatr:atI ws (at':Int)=some (.ref r):=U3 hv
      have etd:=a9Y (st:=st') (show(U7 ps n)[at']?=some rr by rw[hrn];exact hrr)
      rw[etd]at hlay hfu⊢
      rw[List.length_cons]at hfu
      obtain⟨k,rfl⟩:∃k',k=k'+1:=⟨k - 1,by omega⟩
      refine⟨_,rfl,_,_,rfl,rfl,_,rfl,_,rfl,am,_,_,_,rfl,rfl,SqL.of ham8,elast,e,_,1,1,rfl,rfl,he8,rfl,?_⟩
      rw[show([V.str n,V.int (at':Int)].set 1 (V.int ((at':Int)+1)))=[V.str n,V.int ((at'+1:Nat):Int)]by simp]
      have TE:=J9.lst (ys:=[V.str n,V.int ((at'+1:Nat):Int)]) he8
      have s9:G6 H (upd H8 e (.lst [.str n,.int ((at'+1:Nat):Int)])):=s08.put gee
      have hrd9:upd H8 e (.lst [.str n,.int ((at'+1:Nat):Int)]) rd=some (.dK kvs):=by rw[G8 ner'.symm];exact hrd8
      have hbg9:upd H8 e (.lst [.str n,.int ((at'+1:Nat):Int)]) bg=some (.lst (b.map V.str)):=by rw[G8 neb'.symm];exact hbg8
      have ham9:upd H8 e (.lst [.str n,.int ((at'+1:Nat):Int)]) am=some (.lst ((e::as').map V.ref).reverse):=by rw[G8 nea'.symm];exact ham8
      have hld9:upd H8 e (.lst [.str n,.int ((at'+1:Nat):Int)]) ld=some (.lst os):=by rw[G8 nel'.symm];exact hld8
      have hst9:Paired (a3h (upd H8 e (.lst [.str n,.int ((at'+1:Nat):Int)]))) (e::as') ((n,at'+1)::st'):= .cons G1 (a0e hst' fun x y hx z=>a3h.put z fun w=>hen (w▸hx))
      have hos9:Paired (a0q (upd H8 e (.lst [.str n,.int ((at'+1:Nat):Int)]))) os oo:=Paired.mapP hos8 fun _ _ z=>z.mono TE
      generalize upd H8 e (.lst [.str n,.int ((at'+1:Nat):Int)])=H9 at TE s9 hrd9 hbg9 ham9 hld9 hst9 hos9⊢
      refine⟨_,rfl,_,rfl,rd,_,rfl,hdg hrd9,_,rfl,u,_,_,_,rfl,rfl,SqT.of (s9 _ _ hu1),hatr,?_⟩
      have hra9:=hra.mono s9.tups
      obtain⟨x1,rs1,hrt⟩:=hra9.kind
      have z0:atI (V.str (R0 rr)::x1::rs1) 0=some (.str (R0 rr)):=U3 (j:=0) rfl
      have hsti9:∀x∈(n,at'+1)::st',x.1∈ps.map (·.1)/\x.2<=(U7 ps x.1).length:=fun x hx=>by
       rcases List.mem_cons.mp hx with z | z
       ·rw[z];exact⟨hnN,by rw[hrn];omega⟩
       ·exact hsti' x z
      have hstb9:((n,at'+1)::st').length<=b.length:=hstb
      have hol:os.length=oo.length:=Paired.length hos9
      rcases hko _ hm rr (List.mem_of_getElem? hrr)with hw | hkb | hkg
      ·obtain⟨hnb,hng⟩:=a3o hw
       refine⟨_,rfl,r,_,_,_,rfl,rfl,SqT.of hrt,z0,rfl,_,rfl,W3 hnb ?_⟩
       refine F6 ?_
       refine⟨_,rfl,r,_,_,_,rfl,rfl,SqT.of hrt,z0,rfl,_,rfl,b1O (fun z=>hnb (V.str.inj z)) ?_⟩
       refine⟨_,rfl,r,_,_,_,rfl,rfl,SqT.of hrt,z0,rfl,_,rfl,b1O (fun z=>hng (V.str.inj z)) ?_⟩
       refine⟨_,rfl,.inl ⟨rfl,_,SqL.of hld9⟩,_,rfl,_,rfl,_,rfl,a0n,fun c gc=>?_⟩
       have s10:G6 H9 (upd H9 c (.tup [.str n,.int (at':Int),.ref r])):=(G6.refl H9).new gc
       have hld10:=s10 _ _ hld9
       have hc10:upd H9 c (.tup [.str n,.int (at':Int),.ref r]) c=some (.tup [.str n,.int (at':Int),.ref r]):=G1
       generalize upd H9 c (.tup [.str n,.int (at':Int),.ref r])=H10 at s10 hld10 hc10⊢
       have TL:=J9.lst (ys:=os++[.ref c]) hld10
       refine⟨ld,_,_,rfl,rfl,hld10,J6 (by omega),?_⟩
       refine⟨_,?_,(n,at'+1)::st',e::as',b,oo++[(n,at',rr)],os++[.ref c],k,_,_,_,_,rfl,(s9.trans s10).put gldH,by rw[G8 nlr];exact s10 _ _ hrd9,by rw[G8 nlb];exact s10 _ _ hbg9,by rw[G8 nla];exact s10 _ _ ham9,?_,hasn,hasx,G1,Paired.snoc (Paired.mapP hos9 fun _ _ z=>z.mono (s10.tups.trans TL)) ⟨c,r,rfl,TL _ _ hc10,hra9.mono (s10.tups.trans TL)⟩,?_,by omega,by rw[List.length_append,List.length_singleton];omega,hbn,hbi,hstb9,hsti9,rfl⟩
       ·simp only[List.length_cons]
        omega
       ·exact a0e hst9 fun x y hx z=>a3h.put (s10 _ _ z) (hasx x hx).2.2.2.1
       ·rw[lay,if_pos hw]at hlay
        exact hlay
      ·obtain⟨mm,prs,em⟩:∃mm prs,rr= .bring mm prs:=by
        cases e:rr with
        | bring mm prs=>exact⟨mm,prs,rfl⟩
        | _=>rw[e]at hkb;simp only[R0]at hkb;exact absurd hkb (by decide +kernel)
       subst em
       obtain⟨t',hrt',_⟩:=hra9
       have hlay':(if mm∈b then lay ps k (a0g ps ((n,at'+1)::st')) b oo else lay ps k (R1 mm (U7 ps mm)++a0g ps ((n,at'+1)::st')) (b++[mm]) oo)=L:=hlay
       refine⟨_,rfl,r,_,_,_,rfl,rfl,SqT.of hrt',rfl,rfl,_,rfl,D1 ?_⟩
       refine⟨_,rfl,r,_,_,_,rfl,rfl,SqT.of hrt',rfl,_,rfl,bg,_,rfl,.inl (SqL.of hbg9),rfl,a6f b,_,rfl,?_⟩
       rw[if_pos (by decide),a3E]
       by_cases hmb:mm∈b
       ·rw[if_pos hmb]at hlay'
        rw[decide_eq_true hmb]
        refine F6 ?_
        refine⟨_,rfl,r,_,_,_,rfl,rfl,SqT.of hrt',rfl,rfl,_,rfl,a4P rfl ?_⟩
        refine F6 ?_
        exact⟨_,by simp only[List.length_cons];omega,(n,at'+1)::st',e::as',b,oo,os,k,_,_,_,_,rfl,s9,hrd9,hbg9,ham9,hst9,hasn,hasx,hld9,hos9,hlay',by omega,by omega,hbn,hbi,hstb9,hsti9,rfl⟩
       ·rw[if_neg hmb]at hlay'
        rw[decide_eq_false hmb]
        refine B9 ?_
        have hmN:mm∈ps.map (·.1):=by
         refine hcl n hnN mm ?_
         unfold k1
         rw[hrn]
         exact a5w rfl (List.mem_of_getElem? hrr)
        obtain⟨rm,hmm⟩:=a0Q hmN
        have hrm:U7 ps mm=rm:=D0 hfit.nd hmm
        have hlen:=a3s hmm hmb
        refine⟨_,rfl,.inl ⟨rfl,_,SqL.of hbg9⟩,_,rfl,r,_,_,_,rfl,rfl,SqT.of hrt',rfl,bg,_,_,rfl,rfl,hbg9,J6 (by rw[List.length_map];omega),?_⟩
        have TB:=J9.lst (ys:=b.map V.str++[.str mm]) hbg9
        have s10:G6 H (upd H9 bg (.lst (b.map V.str++[.str mm]))):=s9.put gbgH
        have hbg10:upd H9 bg (.lst (b.map V.str++[.str mm])) bg=some (.lst ((b++[mm]).map V.str)):=by rw[G1,List.map_append];rfl
        have hrd10:upd H9 bg (.lst (b.map V.str++[.str mm])) rd=some (.dK kvs):=by rw[G8 nrb];exact hrd9
        have ham10:upd H9 bg (.lst (b.map V.str++[.str mm])) am=some (.lst ((e::as').map V.ref).reverse):=by rw[G8 nab.symm];exact ham9
        have hld10:upd H9 bg (.lst (b.map V.str++[.str mm])) ld=some (.lst os):=by rw[G8 nlb.symm];exact hld9
        have hst10:Paired (a3h (upd H9 bg (.lst (b.map V.str++[.str mm])))) (e::as') ((n,at'+1)::st'):=a0e hst9 fun x y hx z=>a3h.put z (hasx x hx).2.1
        have hos10:Paired (a0q (upd H9 bg (.lst (b.map V.str++[.str mm])))) os oo:=Paired.mapP hos9 fun _ _ z=>z.mono TB
        have hrt10:=TB _ _ hrt'
        generalize upd H9 bg (.lst (b.map V.str++[.str mm]))=H10 at TB s10 hbg10 hrd10 ham10 hld10 hst10 hos10 hrt10⊢
        refine⟨_,rfl,.inl ⟨rfl,_,SqL.of ham10⟩,_,rfl,r,_,_,_,rfl,rfl,SqT.of hrt10,rfl,Z9,fun e1 ge1=>?_⟩
        have s11:G6 H10 (upd H10 e1 (.lst [.str mm,.int 0])):=(G6.refl H10).new ge1
        have he11:upd H10 e1 (.lst [.str mm,.int 0]) e1=some (.lst [.str mm,.int 0]):=G1
        have w1:e1≠rd:=fun z=>by rw[z,hrd10]at ge1;cases ge1
        have w2:e1≠bg:=fun z=>by rw[z,hbg10]at ge1;cases ge1
        have w3:e1≠am:=fun z=>by rw[z,ham10]at ge1;cases ge1
        have w4:e1≠ld:=fun z=>by rw[z,hld10]at ge1;cases ge1
        have w5:e1∉e::as':=fun z=>by
         obtain⟨i,hi⟩:=List.getElem?_of_mem z
         obtain⟨y,_,hy⟩:=Paired.get? hst10 hi
         rw[show H10 e1=_ from hy]at ge1
         cases ge1
        have ge1H:H e1=none:=s10.free ge1
        generalize upd H10 e1 (.lst [.str mm,.int 0])=H11 at s11 he11⊢
        have ham11:=s11 _ _ ham10
        have hal:(e::as').length<=100:=by
         have:=Paired.length hst10
         rw[this,List.length_cons]
         omega
        refine⟨am,_,_,rfl,rfl,ham11,J6 (by rw[List.length_reverse,List.length_map];omega),?_⟩
        have TA:=J9.lst (ys:=((e::as').map V.ref).reverse++[.ref e1]) ham11
        refine⟨_,rfl,r,_,_,_,rfl,rfl,SqT.of (TA _ _ (s11 _ _ hrt10)),rfl,rfl,_,rfl,a4P rfl ?_⟩
        refine F6 ?_
        have etd2:a0g ps ((mm,0)::(n,at'+1)::st')=R1 mm rm++a0g ps ((n,at'+1)::st'):=by
         show(R1 mm (U7 ps mm)).drop 0++_=_
         rw[List.drop_zero,hrm]
         rfl
        refine⟨_,?_,(mm,0)::(n,at'+1)::st',e1::e::as',b++[mm],oo,os,k,_,_,_,_,rfl,(s10.trans s11).put gamH,by rw[G8 nar];exact s11 _ _ hrd10,by rw[G8 nab];exact s11 _ _ hbg10,?_,.cons (a3h.put he11 w3) (a0e hst10 fun x y hx z=>a3h.put (s11 _ _ z) (hasx x hx).2.2.1),List.nodup_cons.mpr ⟨w5,hasn⟩,fun x hx=>?_,by rw[G8 nla.symm];exact s11 _ _ hld10,Paired.mapP hos10 fun _ _ z=>z.mono (s11.tups.trans TA),?_,?_,by omega,?_,fun y hy=>?_,?_,fun x hx=>?_,rfl⟩
        ·rw[etd2,List.length_append,O7]
         simp only[List.length_cons]
         omega
        ·rw[G1,List.map_cons (l:=e::as'),List.reverse_cons]
        ·rcases List.mem_cons.mp hx with z | z
         ·rw[z];exact⟨w1,w2,w3,w4,ge1H⟩
         ·exact hasx x z
        ·rw[etd2,<-hrm]
         exact hlay'
        ·rw[etd2,List.length_append,O7]
         omega
        ·exact List.nodup_append.mpr ⟨hbn,by simp,fun y hy z hz w=>hmb (by rw[<-List.mem_singleton.mp hz,<-w];exact hy)⟩
        ·rcases List.mem_append.mp hy with z | z
         ·exact hbi y z
         ·rw[List.mem_singleton.mp z];exact hmN
        ·rw[List.length_cons,List.length_append,List.length_singleton]
         omega
        ·rcases List.mem_cons.mp hx with z | z
         ·rw[z];exact⟨hmN,Nat.zero_le _⟩
         ·exact hsti9 x z
      ·have hnb:¬R0 rr="bring":=fun z=>by rw[hkg]at z;exact absurd z (by decide +kernel)
       have hw:¬D6 rr=true:=fun z=>(a3o z).2 hkg
       rw[lay,if_neg hw,a2Z hnb]at hlay
       refine⟨_,rfl,r,_,_,_,rfl,rfl,SqT.of hrt,z0,rfl,_,rfl,W3 hnb ?_⟩
       refine F6 ?_
       refine⟨_,rfl,r,_,_,_,rfl,rfl,SqT.of hrt,z0,rfl,_,rfl,b1O (fun z=>hnb (V.str.inj z)) ?_⟩
       refine⟨_,rfl,r,_,_,_,rfl,rfl,SqT.of hrt,z0,rfl,_,rfl,a4P (by rw[hkg]) ?_⟩
       exact⟨_,by simp only[List.length_cons];omega,(n,at'+1)::st',e::as',b,oo,os,k,_,_,_,_,rfl,s9,hrd9,hbg9,ham9,hst9,hasn,hasx,hld9,hos9,hlay,by omega,by omega,hbn,hbi,hstb9,hsti9,rfl⟩
noncomputable def b0x (H:Hp) (pkv nkv:List (List Key×V)) (n:Str) (N:Str->Str) (y:Str):Prop:=∃t p,Y6 pkv (U0 (n,y))=some (.ref t)/\H t=some (.tup [.str p.1,.int ((p.2:Nat):Int)])/\Y6 nkv (kp p)=some (.str (N y))
noncomputable def b0n:Sp:=fun vs H Q _=>∃(n:Str)(r:Addr)(rw:Rw)(m nd:Addr)(pkv nkv:List (List Key×V))(N:Str->Str),vs=[.ref r,.str n,.ref m,.ref nd]/\a0y H r rw/\D6 rw=true/\H m=some (.dT pkv)/\H nd=some (.dT nkv)/\a2C (b0x H pkv nkv n N) rw/\∀(r':Addr)(H':Hp),G6 H H'->RV N H' r' rw->Q (.ref r') H'
theorem b3I{H:Hp}{r:Addr}{rw:Rw}{C:Str->Prop}(h:a0y H r rw)(hw:D6 rw=true)(hU:a2C C rw)(hk:¬R0 rw="take"):∃(x1:V)(rest:List V)(t:Addr)(ts:List (Int×Th)),H r=some (.tup (.str (R0 rw)::x1::rest))/\atI (V.str (R0 rw)::x1::rest) (if decide (V.str (R0 rw)=V.str "set")=true then 2 else 1)=some (.ref t)/\a0R H t ts/\a5s C ts/\
  ((∃o,rw= .set o ts/\H r=some (.tup [.str "set",.str o,.ref t])/\C o)\/(∃w,rw= .say ts w/\H r=some (.tup [.str "say",.ref t,a5l w])/\a6j C w)\/(rw= .need ts/\H r=some (.tup [.str "need",.ref t]))):=by
 cases rw with
 | take o=>exact absurd rfl hk
 | set o ts=>obtain⟨t,h1,h2⟩:=h;exact⟨_,_,t,ts,h1,(congrArg (atI _) (if_pos (decide_eq_true rfl))).trans rfl,h2,hU.2,.inl ⟨o,rfl,h1,hU.1⟩⟩
 | say ts w=>obtain⟨t,h1,h2⟩:=h;exact⟨_,_,t,ts,h1,(congrArg (atI _) (if_neg fun z=>absurd (V.str.inj (of_decide_eq_true z)) (show¬("say":Str)="set" by decide +kernel))).trans rfl,h2,hU.1,.inr (.inl ⟨w,rfl,h1,hU.2⟩)⟩
 | need ts=>obtain⟨t,h1,h2⟩:=h;exact⟨_,_,t,ts,h1,(congrArg (atI _) (if_neg fun z=>absurd (V.str.inj (of_decide_eq_true z)) (show¬("need":Str)="set" by decide +kernel))).trans rfl,h2,hU,.inr (.inr ⟨rfl,h1⟩)⟩
 | _=>cases hw
theorem a8j(T:Txt K mg):L2.Cl P w K mg base 1 "_law_changed" ["_law_row_here","_law_part","_law_makers_here","_law_news_here"] b0n:=by
 refine Cl.of T.d_law_changed D9 (fun vs H Q E h=>?_) (fun _ _ _ _ _ _ us hl=>by obtain⟨a,b,c,d,rfl⟩:=b5p hl;rfl) (fun fa cdv A outer s H vs Q E hr h=>?_)
 ·obtain⟨n,r,rw,m,nd,pkv,nkv,N,rfl,_⟩:=h
  rfl
 ·obtain⟨n,r,rw,m,nd,pkv,nkv,N,rfl,hra,hw,hm,hnd,hN,q⟩:=h
  have hu:=D4 hr
  refine⟨_,(G3 (U8 (J7 Z8 (G9 J5 (pv 0) G2 (fun _ _=>rfl)) R6 (R7 _))
    (G5 (R4 (R9 (G0 R6 (G0 (Z0 hu (pv 3) (Z0 hu (pv 2) (R9 (G0 (pv 1) (G0 (G9 J5 (pv 0) G2 (fun _ _=>rfl)) G4))) (fun _ _=>rfl)) (fun _ _=>rfl)) G4))))) R8)
   (G3 (I9 (i:=4) D9.nd rfl (Or.inl rfl) (Y5 G4))
   (G3 (Y0 PassesOwn.never rfl (F1 (G9 J5 (pv 0) (G9 J4 (Y5 (G0 G2 (G0 G2 G4))) (U6 b0g (by rfl) T.n_int boot_int (G0 (a6I Z8 (G9 J5 (pv 0) G2 (fun _ _=>rfl)) R6 (R7 _)) G4)) (fun _ _=>rfl)) (fun _ _=>rfl))) (E2 rfl (J0 (I0 (i:=5) D9.nd rfl (Or.inl rfl)) (J0 (I0 (i:=6) D9.nd rfl (Or.inl rfl)) Y1)))
    (G3 (U8 (a0s (R3 E9 (by rfl) T.n_isinstance PyProof.Rows.boot_isinstance (G0 (pv 6) (G0 (a0w (v:= .ty "str") (by rfl) T.n_str boot_str rfl) G4))))
     (G5 (I9 (i:=6) D9.nd rfl (Or.inl rfl) (Z0 hu (pv 3) (Z0 hu (pv 2) (R9 (G0 (pv 1) (G0 (pv 6) G4))) (fun _ _=>rfl)) (fun _ _=>rfl)))) R8)
    (G5 (Z1 (D7 PySem.F.plainAttrs_list PySem.F.slot_list_append PySem.F.type_list_append Z5 (pv 4) (G0 (R9 (G0 (pv 5) (G0 (pv 6) G4))) G4))))))
   (G3 (U8 (J7 Z8 (G9 J5 (pv 0) G2 (fun _ _=>rfl)) R6 (R7 _))
    (G5 (R4 (R9 (G0 R6 (G0 (Z0 hu (pv 3) (Z0 hu (pv 2) (R9 (G0 (pv 1) (G0 (G9 J5 (pv 0) G2 (fun _ _=>rfl)) G4))) (fun _ _=>rfl)) (fun _ _=>rfl)) (G0 (U6 Y2 (by rfl) T.n_tuple boot_tuple (G0 (pv 4) G4)) G4)))))) R8)
   (G3 (U8 (J7 Z8 (G9 J5 (pv 0) G2 (fun _ _=>rfl)) R6 (R7 _))
    (G5 (R4 (R9 (G0 R6 (G0 (U6 Y2 (by rfl) T.n_tuple boot_tuple (G0 (pv 4) G4)) G4))))) R8)
   (G3 (U8 (a2m (b2d (G9 J5 (pv 0) G2 (fun _ _=>rfl))))
    (G5 (R4 (R9 (G0 R6 (G0 (U6 Y2 (by rfl) T.n_tuple boot_tuple (G0 (pv 4) G4)) (G0 a6C G4)))))) R8)
   (G5 (R4 (R9 (G0 R6 (G0 (U6 Y2 (by rfl) T.n_tuple boot_tuple (G0 (pv 4) G4)) (G0 (Z0 hu (pv 3) (Z0 hu (pv 2) (R9 (G0 (pv 1) (G0 (G9 J5 (pv 0) G2 (fun _ _=>rfl)) G4))) (fun _ _=>rfl)) (fun _ _=>rfl)) G4)))))))))))),?_⟩
  have get:∀{H2:Hp}{y:Str}{e:Addr},G6 H H2->H2 e=some (.tup [.str n,.str y])->b0x H pkv nkv n N y->∃t,F5 H2 m (.ref e) (some (.ref t))/\F5 H2 nd (.ref t) (some (.str (N y))):=fun{H2 y e}s2 he⟨t,p,h1,h2,h3⟩=>by
   have a1:=F5.t (k:=U0 (n,y)) (s2 _ _ hm) he
   have a2:=F5.t (k:=kp p) (s2 _ _ hnd) (s2 _ _ h2)
   rw[h1]at a1
   rw[h3]at a2
   exact⟨t,a1,a2⟩
  by_cases hk:R0 rw="take"
  ·cases rw with
   | take o=>
    have hrt:H r=some (.tup [.str "take",.str o]):=hra
    refine⟨_,rfl,r,_,_,_,rfl,rfl,SqT.of hrt,rfl,rfl,_,rfl,D1 ?_⟩
    refine⟨_,rfl,_,rfl,_,rfl,_,rfl,r,_,_,_,rfl,rfl,SqT.of hrt,rfl,Z9,fun e ge=>?_⟩
    have s1:G6 H (upd H e (.tup [.str n,.str o])):=(G6.refl H).new ge
    obtain⟨t,g1,g2⟩:=get s1 G1 hN
    refine⟨m,_,rfl,g1,nd,_,rfl,g2,Z9,fun r' gr=>?_⟩
    exact q r' _ (s1.new gr) G1
   | _=>simp only[R0]at hk;exact absurd hk (by decide +kernel)
  ·obtain⟨x1,rest,t,ts,hrt,hat,hts,hUT,hend⟩:=b3I hra hw hN hk
   have z0:atI (V.str (R0 rw)::x1::rest) 0=some (.str (R0 rw)):=U3 (j:=0) rfl
   refine⟨_,rfl,r,_,_,_,rfl,rfl,SqT.of hrt,z0,rfl,_,rfl,W3 hk ?_⟩
   refine⟨a0E,fun L gL=>?_⟩
   have sl:G6 H (upd H L (.lst [])):=(G6.refl H).new gL
   have hL0:upd H L (.lst []) L=some (.lst []):=G1
   generalize upd H L (.lst [])=H3 at sl hL0⊢
   refine⟨_,rfl,Z9,fun l2 gl2=>?_⟩
   have s4:G6 H3 (upd H3 l2 (.lst [.int 1,.int 2])):=(G6.refl H3).new gl2
   have hl2:upd H3 l2 (.lst [.int 1,.int 2]) l2=some (.lst [.int 1,.int 2]):=G1
   generalize upd H3 l2 (.lst [.int 1,.int 2])=H4 at s4 hl2⊢
   have hrt4:=s4 _ _ (sl _ _ hrt)
   refine⟨_,rfl,r,_,_,_,rfl,rfl,SqT.of hrt4,z0,rfl,.inr ⟨_,rfl,?_⟩⟩
   have hix:atI [V.int 1,V.int 2] (if decide (V.str (R0 rw)=V.str "set")=true then 1 else 0)=some (.int (if decide (V.str (R0 rw)=V.str "set")=true then 2 else 1)):=by
    cases decide (V.str (R0 rw)=V.str "set")<;>rfl
   refine⟨l2,_,_,_,rfl,rfl,SqL.of hl2,hix,r,_,_,_,rfl,rfl,SqT.of hrt4,hat,?_⟩
   obtain⟨⟨vs,ht,htv⟩,hlo,hhi⟩:=hts.mono (sl.tups.trans s4.tups)
   have hvl:vs.length=ts.length:=Paired.length htv
   refine⟨t,rfl,⟨_,SqT.of ht⟩,E6 (K:=K) (a:=t) (xs:=vs) (fun i σ H5=>∃(us:List V)(v5 v6:Option V),σ=[some (.ref r),some (.str n),some (.ref m),some (.ref nd),some (.ref L),v5,v6]/\G6 H H5/\J9 H4 H5/\H5 L=some (.lst us)/\Paired (TmV N H5) us (ts.take i))
    ⟨[],_,_,rfl,sl.trans s4,J9.refl H4,s4 _ _ hL0,by rw[List.take_zero];exact .nil⟩ (fun i σ H5 _⟨_,_,_,_,_,t5,_⟩=>SqT.of (t5 _ _ ht)) ?_ ?_⟩
   ·rintro i x σ H5 hx ⟨us,v5,v6,rfl,s5,t5,hL5,hus⟩
    obtain⟨d,hd,c2,ex,hc2,_⟩:=Paired.get? htv hx
    subst ex
    have hul:us.length<=6:=by rw[Paired.length hus,List.length_take];omega
    refine⟨c2,_,rfl,SqT.of (t5 _ _ hc2),rfl,_,_,rfl,_,_,rfl,rfl,?_⟩
    obtain⟨sg,th⟩:=d
    cases th with
    | num k=>
     refine⟨_,rfl,_,_,_,_,rfl,.int k,a4B _,_,rfl,F6 ?_⟩
     refine⟨_,rfl,.inl ⟨rfl,_,SqL.of hL5⟩,_,rfl,_,rfl,Z9,fun e2 ge2=>?_⟩
     have s6:G6 H5 (upd H5 e2 (.tup [.int sg,.int k])):=(G6.refl H5).new ge2
     have hL6:=s6 _ _ hL5
     have TL:=J9.lst (ys:=us++[.ref e2]) hL6
     refine⟨L,_,_,rfl,rfl,hL6,J6 (by omega),us++[.ref e2],_,_,rfl,(s5.trans s6).put gL,t5.trans (s6.tups.trans TL),G1,?_⟩
     rw[J2 hd]
     exact Paired.snoc (Paired.mapP hus fun _ _ z=>z.mono (s6.tups.trans TL)) ⟨e2,rfl,TL _ _ G1⟩
    | nam yy=>
     refine⟨_,rfl,_,_,_,_,rfl,.str yy,a0m _ _,_,rfl,B9 ?_⟩
     refine⟨_,rfl,_,rfl,_,rfl,_,rfl,Z9,fun e1 ge1=>?_⟩
     have s6:G6 H5 (upd H5 e1 (.tup [.str n,thV ((sg,Th.nam yy):Int×Th).2])):=(G6.refl H5).new ge1
     obtain⟨t0,g1,g2⟩:=get (y:=yy) (s5.trans s6) G1 (hUT _ (List.mem_of_getElem? hd) yy rfl)
     refine⟨m,_,rfl,g1,nd,_,rfl,g2,?_⟩
     generalize upd H5 e1 (.tup [.str n,thV ((sg,Th.nam yy):Int×Th).2])=H6 at s6⊢
     refine⟨_,rfl,.inl ⟨rfl,_,SqL.of (s6 _ _ hL5)⟩,_,rfl,_,rfl,Z9,fun e2 ge2=>?_⟩
     have s7:G6 H5 (upd H6 e2 (.tup [.int sg,.str (N yy)])):=s6.new ge2
     have hL6:=s7 _ _ hL5
     have TL:=J9.lst (ys:=us++[.ref e2]) hL6
     refine⟨L,_,_,rfl,rfl,hL6,J6 (by omega),us++[.ref e2],_,_,rfl,(s5.trans s7).put gL,t5.trans (s7.tups.trans TL),G1,?_⟩
     rw[J2 hd]
     exact Paired.snoc (Paired.mapP hus fun _ _ z=>z.mono (s7.tups.trans TL)) ⟨e2,rfl,TL _ _ G1⟩
   ·rintro σ H5 ⟨us,v5,v6,rfl,s5,t5,hL5,hus⟩
    rw[hvl,List.take_length]at hus
    rcases hend with⟨o,rfl,hrs,hCo⟩ | ⟨wn,rfl,hrs,hCw⟩ | ⟨rfl,hrs⟩
    ·have hr5:=s5 _ _ hrs
     refine⟨_,rfl,r,_,_,_,rfl,rfl,SqT.of hr5,rfl,rfl,_,rfl,D1 ?_⟩
     refine⟨_,rfl,_,rfl,_,rfl,_,rfl,r,_,_,_,rfl,rfl,SqT.of hr5,rfl,Z9,fun e ge=>?_⟩
     have s6:G6 H5 (upd H5 e (.tup [.str n,.str o])):=(G6.refl H5).new ge
     obtain⟨t0,g1,g2⟩:=get (s5.trans s6) G1 hCo
     refine⟨m,_,rfl,g1,nd,_,rfl,g2,_,rfl,L,_,rfl,.inl ⟨SqL.of (s6 _ _ hL5),fun u gu=>?_⟩⟩
     have s7:=s6.new (o:= .tup us) gu
     refine⟨a0n,fun r' gr=>?_⟩
     exact q r' _ (s5.trans (s7.new gr)) ⟨u,G1,us,U4 G1 gr,Paired.mapP hus fun _ _ z=>z.mono (s7.new gr).tups⟩
    ·have hr5:=s5 _ _ hrs
     refine⟨_,rfl,r,_,_,_,rfl,rfl,SqT.of hr5,rfl,rfl,_,rfl,W3 (show¬("say":Str)="set" by decide +kernel) ?_⟩
     refine⟨_,rfl,r,_,_,_,rfl,rfl,SqT.of hr5,rfl,rfl,_,rfl,W3 (show¬("say":Str)="need" by decide +kernel) ?_⟩
     cases wn with
     | none=>
      refine⟨_,rfl,r,_,_,_,rfl,rfl,SqT.of hr5,rfl,_,rfl,B9 ?_⟩
      refine⟨_,rfl,L,_,rfl,.inl ⟨SqL.of hL5,fun u gu=>?_⟩⟩
      have s7:G6 H5 (upd H5 u (.tup us)):=(G6.refl H5).new gu
      refine⟨a0n,fun r' gr=>?_⟩
      exact q r' _ (s5.trans (s7.new gr)) ⟨u,G1,us,U4 G1 gr,Paired.mapP hus fun _ _ z=>z.mono (s7.new gr).tups⟩
     | some y=>
      refine⟨_,rfl,r,_,_,_,rfl,rfl,SqT.of hr5,rfl,_,rfl,F6 ?_⟩
      refine⟨_,rfl,L,_,rfl,.inl ⟨SqL.of hL5,fun u gu=>?_⟩⟩
      have s6:G6 H5 (upd H5 u (.tup us)):=(G6.refl H5).new gu
      have hu6:upd H5 u (.tup us) u=some (.tup us):=G1
      generalize upd H5 u (.tup us)=H6 at s6 hu6⊢
      refine⟨_,rfl,_,rfl,_,rfl,_,rfl,r,_,_,_,rfl,rfl,SqT.of (s6 _ _ hr5),rfl,Z9,fun e ge=>?_⟩
      have s7:G6 H5 (upd H6 e (.tup [.str n,a5l (some y)])):=s6.new ge
      obtain⟨t0,g1,g2⟩:=get (y:=y) (s5.trans s7) G1 (hCw y rfl)
      refine⟨m,_,rfl,g1,nd,_,rfl,g2,a0n,fun r' gr=>?_⟩
      exact q r' _ (s5.trans (s7.new gr)) ⟨u,G1,us,U4 (U4 hu6 ge) gr,Paired.mapP hus fun _ _ z=>z.mono (s7.new gr).tups⟩
    ·have hr5:=s5 _ _ hrs
     refine⟨_,rfl,r,_,_,_,rfl,rfl,SqT.of hr5,rfl,rfl,_,rfl,W3 (show¬("need":Str)="set" by decide +kernel) ?_⟩
     refine⟨_,rfl,r,_,_,_,rfl,rfl,SqT.of hr5,rfl,rfl,_,rfl,D1 ?_⟩
     refine⟨_,rfl,L,_,rfl,.inl ⟨SqL.of hL5,fun u gu=>?_⟩⟩
     have s7:G6 H5 (upd H5 u (.tup us)):=(G6.refl H5).new gu
     refine⟨Z9,fun r' gr=>?_⟩
     exact q r' _ (s5.trans (s7.new gr)) ⟨u,G1,us,U4 G1 gr,Paired.mapP hus fun _ _ z=>z.mono (s7.new gr).tups⟩
theorem EqD.flat{K:PySem.W.Frag}{H:Hp}{n:Nat}{x:V}(h:a0Z x=true):EqD K H n x x:=by
 cases n with
 | zero=>exact⟨rfl,h⟩
 | succ n=>exact .inl ⟨rfl,h⟩
theorem b2m(N:Str->Str)(th:Th):a0Z (thN N th)=true:=by
 cases th<;>rfl
theorem a6r(w:Option Str):a0Z (a5l w)=true:=by
 cases w<;>rfl
theorem a7f{K:PySem.W.Frag}{N:Str->Str}{H:Hp}{t u:Addr}{ts:List (Int×Th)}(h1:a6P N H t ts)(h2:a6P N H u ts):EqD K H 2 (.ref t) (.ref u):=by
 obtain⟨vs,e1,p1⟩:=h1
 obtain⟨ws,e2,p2⟩:=h2
 refine .inr ⟨t,u,vs,ws,rfl,rfl,SqT.of e1,SqT.of e2,?_⟩
 clear e1 e2
 induction p1 generalizing ws with
 | nil=>cases p2;exact .nil
 | cons a _ ih=>
  cases p2 with
  | cons b r2=>
   obtain⟨p,e1,hp⟩:=a
   obtain⟨q,e2,hq⟩:=b
   exact .cons (.inr ⟨p,q,_,_,e1,e2,SqT.of hp,SqT.of hq,.cons (EqD.flat rfl) (.cons (EqD.flat (b2m _ _)) .nil)⟩) (ih _ r2)
theorem b4i(K:PySem.W.Frag){N:Str->Str}{H:Hp}{r u:Addr}{rw:Rw}(h1:RV N H r rw)(h2:RV N H u rw):∃xs ys,H r=some (.tup xs)/\H u=some (.tup ys)/\Paired (EqD K H 2) xs ys:=by
 cases rw with
 | set o ts=>
  obtain⟨t,a1,a2⟩:=h1
  obtain⟨t',b1,b2⟩:=h2
  exact⟨_,_,a1,b1,.cons (EqD.flat rfl) (.cons (EqD.flat rfl) (.cons (a7f a2 b2) .nil))⟩
 | take o=>exact⟨_,_,h1,h2,.cons (EqD.flat rfl) (.cons (EqD.flat rfl) .nil)⟩
 | say ts w=>
  obtain⟨t,a1,a2⟩:=h1
  obtain⟨t',b1,b2⟩:=h2
  exact⟨_,_,a1,b1,.cons (EqD.flat rfl) (.cons (a7f a2 b2) (.cons (EqD.flat (a6r _)) .nil))⟩
 | need ts=>
  obtain⟨t,a1,a2⟩:=h1
  obtain⟨t',b1,b2⟩:=h2
  exact⟨_,_,a1,b1,.cons (EqD.flat rfl) (.cons (a7f a2 b2) .nil)⟩
 | ask p w=>exact⟨_,_,h1,h2,.cons (EqD.flat rfl) (.cons (EqD.flat rfl) (.cons (EqD.flat (a6r _)) .nil))⟩
 | _=>exact h1.elim
noncomputable def b1q:Sp:=fun vs H Q _=>∃(c d:Addr)(n:Str)(k:Int),vs=[.ref c,.ref d]/\H c=some (.tup [.str n,.int k])/\H d=some (.tup [.str n,.int k])/\∀H',G6 H H'->Q (.bl true) H'
theorem a9Q(T:Txt K mg):L2.Cl P w K mg base 1 "_law_is_origin" ["_law_found","_law_due"] b1q:=by
 refine Cl.of T.d_law_is_origin a4d (fun vs H Q E h=>?_) (fun _ _ _ _ _ _ us hl=>by obtain⟨a,b,rfl⟩:=a3F hl;rfl) (fun fa cdv A outer s H vs Q E hr h=>?_)
 ·obtain⟨c,d,n,k,rfl,_⟩:=h
  rfl
 ·obtain⟨c,d,n,k,rfl,hc,hd,q⟩:=h
  have hu:=D4 hr
  refine⟨_,(G3 (U8 (PW.pt (a2l (a1V (a0s (R3 E9 (by rfl) T.n_isinstance PyProof.Rows.boot_isinstance (G0 (pv 0) (G0 (a0w (v:= .ty "tuple") (by rfl) T.n_tuple boot_tuple rfl) G4))))) (a2l (J7 a5v (R3 J8 (by rfl) T.n_len PySem.boot_len (G0 (pv 0) G4)) G2 (R7 _)) (a1v (a1V (a0s (R3 E9 (by rfl) T.n_isinstance PyProof.Rows.boot_isinstance (G0 (G9 J5 (pv 0) G2 (fun _ _=>rfl)) (G0 (a0w (v:= .ty "str") (by rfl) T.n_str boot_str rfl) G4)))))))))
    (G5 (R4 a0O)) R8)
   (G5 (R4 (b2l (R3 E9 (by rfl) T.n_isinstance PyProof.Rows.boot_isinstance (G0 (G9 J5 (pv 0) G2 (fun _ _=>rfl)) (G0 (a0w (v:= .ty "int") (by rfl) T.n_int boot_int rfl) G4))) (b2l (b4L (R3 E9 (by rfl) T.n_isinstance PyProof.Rows.boot_isinstance (G0 (G9 J5 (pv 0) G2 (fun _ _=>rfl)) (G0 (a0w (v:= .ty "bool") (by rfl) T.n_bool boot_bool rfl) G4)))) (b4p (a6I (b4S 0 hu) (pv 0) (pv 1) (R7 _)))))))),?_⟩
  refine⟨_,rfl,_,_,_,_,rfl,.tup hc,a0m _ _,_,rfl,F6 ?_⟩
  refine⟨_,rfl,c,_,rfl,.inr (SqT.of hc),rfl,_,rfl,a4P rfl ?_⟩
  refine⟨_,rfl,c,_,_,_,rfl,rfl,SqT.of hc,rfl,_,_,_,_,rfl,.str _,a0m _ _,_,rfl,F6 ?_⟩
  refine⟨_,rfl,c,_,_,_,rfl,rfl,SqT.of hc,rfl,_,_,_,_,rfl,.int _,a0m _ _,_,rfl,B9 ?_⟩
  refine⟨_,rfl,c,_,_,_,rfl,rfl,SqT.of hc,rfl,_,_,_,_,rfl,.int _,a6Q _,_,rfl,_,rfl,B9 ?_⟩
  exact⟨_,rfl,_,rfl,c,d,_,_,rfl,rfl,SqT.of hc,SqT.of hd,.cons ⟨rfl,rfl⟩ (.cons ⟨rfl,rfl⟩ .nil),q H (G6.refl H)⟩
theorem b0x.mono{H H':Hp}(s:J9 H H'){pkv nkv:List (List Key×V)}{n:Str}{N:Str->Str}{y:Str}(h:b0x H pkv nkv n N y):b0x H' pkv nkv n N y:=by
 obtain⟨t,p,h1,h2,h3⟩:=h
 exact⟨t,p,h1,s _ _ h2,h3⟩
noncomputable def b3x:Sp:=fun vs H Q _=>∃(t rt ot ld m nd:Addr)(rv ov us:List V)(L:List Pl)(NN:Str->Str->Str)(pkv nkv:List (List Key×V)),vs=[.ref t,.ref ld,.ref m,.ref nd]/\H t=some (.tup [.ref rt,.ref ot])/\H rt=some (.tup rv)/\H ot=some (.tup ov)/\H ld=some (.lst us)/\H m=some (.dT pkv)/\H nd=some (.dT nkv)/\L.length<=960/\Paired (a0q H) us L/\Paired (b0V NN H) rv L/\Paired (b0w H) ov L/\
 (∀x∈L,D6 x.2.2=true/\a2C (b0x H pkv nkv x.1 (NN x.1)) x.2.2)/\∀H',G6 H H'->Q (.bl true) H'
theorem b1D(T:Txt K mg):L2.Cl P w K mg base 2 "_law_right" ["_law_found","_law_laid_here","_law_makers_here","_law_news_here"] b3x:=by
 have C_law_changed:=a8j (P:=P) (w:=w) (base:=base) T
 have C_law_is_origin:=a9Q (P:=P) (w:=w) (base:=base) T
 refine Cl.of T.d_law_right B8 (fun vs H Q E h=>?_) (fun _ _ _ _ _ _ us hl=>by obtain⟨a,b,c,d,rfl⟩:=b5p hl;rfl) (fun fa cdv A outer s H vs Q E hr h=>?_)
 ·obtain⟨t,rt,ot,ld,m,nd,rv,ov,us,L,NN,pkv,nkv,rfl,_⟩:=h
  rfl
 ·obtain⟨t,rt,ot,ld,m,nd,rv,ov,us,L,NN,pkv,nkv,rfl,ht,hrt,hot,hld,hm,hnd,hL,hus,hrv,hov,hall,q⟩:=h
  have hu3:=Nat.lt_of_le_of_lt (Nat.add_le_add_left (by decide:3<=64) _) hr.units
  have l1:us.length=L.length:=Paired.length hus
  have l2:rv.length=L.length:=Paired.length hrv
  have l3:ov.length=L.length:=Paired.length hov
  refine⟨_,(G3 (U8 (PW.pt (a2l (a1V (a0s (R3 E9 (by rfl) T.n_isinstance PyProof.Rows.boot_isinstance (G0 (pv 0) (G0 (a0w (v:= .ty "tuple") (by rfl) T.n_tuple boot_tuple rfl) G4))))) (a1v (J7 a5v (R3 J8 (by rfl) T.n_len PySem.boot_len (G0 (pv 0) G4)) G2 (R7 _)))))
    (G5 (R4 a0O)) R8)
   (G3 (U8 (PW.pt (a2l (a1V (a0s (R3 E9 (by rfl) T.n_isinstance PyProof.Rows.boot_isinstance (G0 (G9 J5 (pv 0) G2 (fun _ _=>rfl)) (G0 (a0w (v:= .ty "tuple") (by rfl) T.n_tuple boot_tuple rfl) G4))))) (a1v (a1V (a0s (R3 E9 (by rfl) T.n_isinstance PyProof.Rows.boot_isinstance (G0 (G9 J5 (pv 0) G2 (fun _ _=>rfl)) (G0 (a0w (v:= .ty "tuple") (by rfl) T.n_tuple boot_tuple rfl) G4))))))))
    (G5 (R4 a0O)) R8)
   (G3 (U8 (PW.pt (a2l (J7 a5v (R3 J8 (by rfl) T.n_len PySem.boot_len (G0 (G9 J5 (pv 0) G2 (fun _ _=>rfl)) G4)) (R3 J8 (by rfl) T.n_len PySem.boot_len (G0 (pv 1) G4)) (R7 _)) (a1v (J7 a5v (R3 J8 (by rfl) T.n_len PySem.boot_len (G0 (G9 J5 (pv 0) G2 (fun _ _=>rfl)) G4)) (R3 J8 (by rfl) T.n_len PySem.boot_len (G0 (pv 1) G4)) (R7 _)))))
    (G5 (R4 a0O)) R8)
   (G3 (Y0 PassesOwn.never rfl (a0f (by rfl) T.n_range (G0 (R3 J8 (by rfl) T.n_len PySem.boot_len (G0 (pv 1) G4)) G4)) (I0 (i:=4) B8.nd rfl (Or.inl rfl))
    (G3 (a8V (G9 J4 (pv 1) (pv 4) (fun _ _=>rfl)) (E2 rfl (J0 (I0 (i:=5) B8.nd rfl (Or.inl rfl)) (J0 (I0 (i:=6) B8.nd rfl (Or.inl rfl)) (J0 (I0 (i:=7) B8.nd rfl (Or.inl rfl)) Y1)))))
    (G3 (I9 (i:=8) B8.nd rfl (Or.inl rfl) (U9 C_law_changed hr (by rfl) (G0 (pv 7) (G0 (pv 5) (G0 (pv 2) (G0 (pv 3) G4))))))
    (G3 (U8 (PW.pt (a2l (a1V (a0s (R3 E9 (by rfl) T.n_isinstance PyProof.Rows.boot_isinstance (G0 (G9 J5 (G9 J5 (pv 0) G2 (fun _ _=>rfl)) (pv 4) (fun _ _=>rfl)) (G0 (a0w (v:= .ty "tuple") (by rfl) T.n_tuple boot_tuple rfl) G4))))) (a1v (J7 (b4F 2 hu3) (G9 J5 (G9 J5 (pv 0) G2 (fun _ _=>rfl)) (pv 4) (fun _ _=>rfl)) (pv 8) (R7 _)))))
     (G5 (R4 a0O)) R8)
    (G5 (U8 (a1V (a0s (U9 C_law_is_origin hr (by rfl) (G0 (G9 J5 (G9 J5 (pv 0) G2 (fun _ _=>rfl)) (pv 4) (fun _ _=>rfl)) (G0 (R9 (G0 (pv 5) (G0 (pv 6) G4))) G4)))))
     (G5 (R4 a0O)) R8))))))
   (G5 (R4 a0O)))))),?_⟩
  refine⟨_,rfl,_,_,_,_,rfl,.tup ht,a0m _ _,_,rfl,F6 ?_⟩
  refine⟨_,rfl,t,_,rfl,.inr (SqT.of ht),rfl,_,rfl,a4P rfl ?_⟩
  refine⟨_,rfl,t,_,_,_,rfl,rfl,SqT.of ht,rfl,_,_,_,_,rfl,.tup hrt,a0m _ _,_,rfl,F6 ?_⟩
  refine⟨_,rfl,t,_,_,_,rfl,rfl,SqT.of ht,rfl,_,_,_,_,rfl,.tup hot,a0m _ _,_,rfl,F6 ?_⟩
  refine⟨_,rfl,t,_,_,_,rfl,rfl,SqT.of ht,rfl,rt,_,rfl,.inr (SqT.of hrt),_,rfl,ld,_,rfl,.inl (SqL.of hld),rfl,_,rfl,a4P (by rw[l1,l2]) ?_⟩
  refine⟨_,rfl,t,_,_,_,rfl,rfl,SqT.of ht,rfl,ot,_,rfl,.inr (SqT.of hot),_,rfl,ld,_,rfl,.inl (SqL.of hld),rfl,_,rfl,a4P (by rw[l1,l3]) ?_⟩
  refine⟨_,rfl,ld,_,rfl,.inl (SqL.of hld),_,rfl,(by omega),(by omega),B7 (fun i σ H2=>∃(v4 v5 v6 v7 v8:Option V),σ=[some (.ref t),some (.ref ld),some (.ref m),some (.ref nd),v4,v5,v6,v7,v8]/\G6 H H2)
   ⟨_,_,_,_,_,rfl,G6.refl H⟩ ?_ ?_⟩
  ·rintro i σ H2 hi ⟨v4,v5,v6,v7,v8,rfl,s2⟩
   rw[Int.zero_add]
   have hi':i < us.length:=by omega
   obtain⟨x,hx⟩:∃x,us[i]?=some x:=⟨us[i],by simp[hi']⟩
   obtain⟨y,hy,c,r,ex,hc,hra⟩:=Paired.get? hus hx
   subst ex
   obtain⟨x1,hx1,r1,e1,hr1⟩:=Paired.get?' hrv hy
   subst e1
   obtain⟨x2,hx2,c2,e2,hc2⟩:=Paired.get?' hov hy
   subst e2
   obtain⟨hw,hU⟩:=hall y (List.mem_of_getElem? hy)
   refine⟨_,rfl,_,rfl,ld,_,_,_,rfl,rfl,SqL.of (s2 _ _ hld),U3 hx,c,_,rfl,SqT.of (s2 _ _ hc),rfl,_,_,rfl,_,_,rfl,_,_,rfl,rfl,?_⟩
   refine⟨_,rfl,_,rfl,_,rfl,_,rfl,y.1,r,y.2.2,m,nd,pkv,nkv,NN y.1,rfl,hra.mono s2.tups,hw,s2 _ _ hm,s2 _ _ hnd,hU.imp fun z hz=>hz.mono s2.tups,fun r2 H3 s3 hrv2=>?_⟩
   have s03:=s2.trans s3
   obtain⟨xs,ys,h1,h2,hP⟩:=b4i K (hr1.mono s03.tups) hrv2
   refine⟨_,rfl,t,_,_,_,rfl,rfl,SqT.of (s03 _ _ ht),rfl,_,rfl,rt,_,_,_,rfl,rfl,SqT.of (s03 _ _ hrt),U3 hx1,_,_,_,_,rfl,.tup h1,a0m _ _,_,rfl,F6 ?_⟩
   refine⟨_,rfl,t,_,_,_,rfl,rfl,SqT.of (s03 _ _ ht),rfl,_,rfl,rt,_,_,_,rfl,rfl,SqT.of (s03 _ _ hrt),U3 hx1,_,rfl,r1,r2,_,_,rfl,rfl,SqT.of h1,SqT.of h2,hP,_,rfl,F6 ?_⟩
   refine⟨_,rfl,t,_,_,_,rfl,rfl,SqT.of (s03 _ _ ht),rfl,_,rfl,ot,_,_,_,rfl,rfl,SqT.of (s03 _ _ hot),U3 hx2,_,rfl,_,rfl,Z9,fun e ge=>?_⟩
   have s4:G6 H3 (upd H3 e (.tup [.str y.1,.int (y.2.1:Int)])):=(G6.refl H3).new ge
   refine⟨c2,e,y.1,y.2.1,rfl,s4 _ _ (s03 _ _ hc2),G1,fun H5 s5=>?_⟩
   refine⟨_,rfl,F6 ?_⟩
   exact⟨_,_,_,_,_,rfl,s03.trans (s4.trans s5)⟩
  ·rintro σ H2 ⟨v4,v5,v6,v7,v8,rfl,s2⟩
   exact q H2 s2
noncomputable def b6m (K:PySem.W.Frag) (te:TE) (tl th tk:TO):TE:=fun σ H Q=>te σ H fun x H1=>tl σ H1 fun _ H2=>th σ H2 fun _ H3=>tk σ H3 fun k H4=>∃a xs i,x= .ref a/\(∀H5,G6 H4 H5->SqT K H5 a xs)/\k=some i/\0 < i/\∀p ys H5,G6 H4 H5->(∀H6,G6 H5 H6->SqT K H6 p ys)->(∀y∈ys,y∈xs)->Q (.ref p) H5
theorem a8F{X:Cx}{e:Expr}{te:TE}{lo hi:Option Expr}{st:Expr}{tl th tk:TO}{pos p2:Pos}(he:PE X e te)(hl:PO X lo tl)(hu:PO X hi th)(hk:PO X (some st) tk):PE X (.Subscript e (.Slice lo hi (some st) p2) pos) (b6m X.K te tl th tk):=by
 unfold PE PO at*
 intro pins s σ H Q I h
 refine Subscript_ (thn (he pins s σ H _ I h) fun v s1⟨x,H1,I1,r1,q1⟩=>?_)
 refine wpAny_Slice (thn (hl pins s1 σ H1 _ I1 q1) fun vl s2⟨l,H2,I2,pl,q2⟩=>thn (hu pins s2 σ H2 _ I2 q2) fun vu s3⟨u,H3,I3,pu,q3⟩=>thn (hk pins s3 σ H3 _ I3 q3) fun vk s4⟨k,H4,I4,pk,a,xs,i,ex,hxa,ek,h0,q⟩=>?_)
 subst ex ek
 have hx:=hxa H4 (G6.refl H4)
 obtain rfl:v=Value.ref a:=r1
 have I5:Inv X pins σ H4 {s4 with heap:=s4.heap.push {cls:= .type "slice",data:= .fields #[vl,vu,vk]}}:=I4.kept (t':=s4.toks) fun b ob q=>Heap.get?_push_of_some _ q
 obtain⟨its,r,ht,hz⟩:=I5.tuple hx
 have hlen:=r.length
 have hsz:its.toArray.size=its.length:=List.size_toArray ..
 show wpAny (model X.prog X.w) X.A (subscriptTail e (.Slice lo hi (some st) p2) (.ref a) (.ref s4.heap.objs.size)) (EP X pins σ Q) X.xe {s4 with heap:=s4.heap.push {cls:= .type "slice",data:= .fields #[vl,vu,vk]}}
 refine tail_any (ops:=[.ref a,.ref s4.heap.objs.size]) ht.typeIs PyProof.Rows.slot_tuple_getitem.lookup ?_ (by with_unfolding_all rfl)
 refine a3g ht (Heap.IsSliceOf.new ..) pl pu pk h0 (by omega) ⟨.ref a,H4,I5,rfl,q a xs H4 (G6.refl H4) hxa fun y hy=>hy⟩ fun js hjs=>?_
 obtain⟨ys,h1,h2⟩:=a6x r js
 have e:(js.filterMap fun j=>its.toArray[j]?)=js.filterMap fun j=>its[j]?:=by simp
 rw[e]
 have hyl:ys.length<=xs.length:=by
  have h3:=List.length_filterMap_le (fun j=>xs[j]?) js
  rw[<-h2]at h3
  omega
 refine⟨.ref _,_,I5.laid (t':=s4.toks) (o:= .tup ys) (fun b ob q=>Heap.get?_push_of_some _ q) (Nat.le_refl _) ⟨Nat.le_trans hyl hz,_,h1,IsTup.new _ _⟩,rfl,q _ ys _ ((G6.refl H4).new (I5.hok.fresh (Nat.le_refl _))) (fun H6 s6=>SqT.of (s6 _ _ G1)) fun y hy=>?_⟩
 rw[h2]at hy
 obtain⟨j,_,hj⟩:=List.mem_filterMap.mp hy
 exact List.mem_of_getElem? hj
theorem b1t{nms owns:List Str}{pr:Pr}{rw:Rw}(f:a2c nms owns pr rw)(hm:∀y∈a0N pr,y∈owns):a2C (fun y=>y∈owns) rw\/R0 rw="bring" \/R0 rw="give":=by
 cases pr with
 | own k n xs=>
  rcases f with⟨_,e⟩ | ⟨_,ts,e,_,h⟩
  ·subst e;exact .inl (hm n (by simp[a0N]))
  ·subst e;exact .inl ⟨hm n (by simp[a0N]),fun d hd y e=>h d hd y e⟩
 | bring j ps xs=>obtain⟨nm,_,e⟩:=f;subst e;exact .inr (.inl rfl)
 | give o g xs=>rw[show rw= .give o g from f];exact .inr (.inr rfl)
 | ask j xs=>obtain⟨nm,w,_,e,h⟩:=f;subst e;exact .inl fun y e=>h y e
 | sum k xs=>
  rcases f with⟨_,ts,e,_,h⟩ | ⟨_,ts,w,e,_,h,h2⟩
  ·subst e;exact .inl fun d hd y e=>h d hd y e
  ·subst e;exact .inl ⟨fun d hd y e=>h d hd y e,fun y e=>h2 y e⟩
theorem O8.uses{hs:List Pp}{b0 b1 b2:Int}{ps:List Pt}(d:O8 hs b0 b1 b2 ps){pt:Pt}(hpt:pt∈ps){rw:Rw}(hrw:rw∈pt.2):a2C (fun y=>(pt.1,y)∈a7V (G7 ps)) rw\/R0 rw="bring" \/R0 rw="give":=by
 obtain⟨i,hi⟩:=List.getElem?_of_mem hpt
 obtain⟨pp,hpp,ok,_,hf⟩:=d.at hi
 obtain⟨j,hj⟩:=List.getElem?_of_mem hrw
 obtain⟨pr,hpr,hfr⟩:=Paired.get?' hf hj
 have hprm:=List.mem_of_getElem? hpr
 rcases b1t hfr (fun y hy=>ok.md.mem_iff.mp (List.mem_flatMap.mpr ⟨pr,hprm,hy⟩))with h | h
 ·refine .inl (h.imp fun y hy=>?_)
  have h2:=(a3Q hf).mem_iff.mpr (ok.md.mem_iff.mpr hy)
  unfold a7V
  rw[a3J,a4Z,a8J]
  rcases List.mem_append.mp h2 with w | w
  ·exact List.mem_append_left _ (List.mem_flatMap.mpr ⟨_,hpt,List.mem_map.mpr ⟨y,w,rfl⟩⟩)
  ·exact List.mem_append_right _ (List.mem_flatMap.mpr ⟨_,hpt,List.mem_map.mpr ⟨y,w,rfl⟩⟩)
 ·exact .inr h
theorem a5P{ps:List Pt}{pt:Pt}(h:pt∈quiet ps){r:Rw}(hr:r∈pt.2):∃rs,(pt.1,rs)∈ps/\r∈rs/\¬R0 r="ask":=by
 obtain⟨rs,hm,e⟩:=a1E h
 have hr':=hr
 rw[e]at hr'
 exact⟨rs,hm,(List.mem_filter.mp hr').1,a4D ps pt h r hr⟩
theorem b0L{C:Str->Prop}{r:Rw}(h:a2C C r)(ha:¬R0 r="ask"):D6 r=true:=by
 cases r with
 | ask p w=>exact absurd rfl ha
 | set o ts=>rfl
 | take o=>rfl
 | say ts w=>rfl
 | need ts=>rfl
 | _=>exact h.elim
theorem O8.kindsQ{hs:List Pp}{b0 b1 b2:Int}{ps:List Pt}(d:O8 hs b0 b1 b2 ps):a9h (quiet ps):=fun pt hpt r hr=>by
 obtain⟨rs,hm,hr',ha⟩:=a5P hpt hr
 rcases d.uses hm hr' with h | h
 ·exact .inl (b0L h ha)
 ·exact .inr h
theorem O8.usesQ{hs:List Pp}{b0 b1 b2:Int}{ps:List Pt}(d:O8 hs b0 b1 b2 ps):a9B (quiet ps):=fun x hx hw=>by
 obtain⟨rs,h1,h2⟩:=hx
 obtain⟨rs',hm,hr',ha⟩:=a5P h1 (List.mem_of_getElem? h2)
 rw[a8s]
 rcases d.uses hm hr' with h | h | h
 ·exact h
 ·exact absurd h (a3o hw).1
 ·exact absurd h (a3o hw).2
theorem O8.closedQ{hs:List Pp}{b0 b1 b2:Int}{ps:List Pt}(d:O8 hs b0 b1 b2 ps):a1W (quiet ps):=fun n hn m hm=>by
 have hf:=d.fit
 obtain⟨rs,hrs⟩:=a0Q hn
 obtain⟨rs',hm',e⟩:=a1E hrs
 rw[a4C]at hn⊢
 refine d.closedB n hn m ?_
 unfold k1 at hm⊢
 rw[D0 (a5Z hf).nd hrs,show rs=rs'.filter a0D from e]at hm
 rw[D0 hf.nd hm']
 obtain⟨rw,h1,h2⟩:=(a1l "bring" m _).mp hm
 exact(a1l "bring" m _).mpr ⟨rw,(List.mem_filter.mp h1).1,h2⟩
theorem b5d{f:Addr}{fd:FuncData}(F:Fun K "law" "law" a9n f fd)(T:Txt K mg):a5I P w K mg base CX0 7 f fd ["_law_script"] (a9D K):=by
 have C_law_cell_at:=a3x (P:=P) (w:=w) (base:=base) T
 have C_law_parts:=b1Z (P:=P) (w:=w) (base:=base) T
 have C_law_quieted:=a9f (P:=P) (w:=w) (base:=base) T
 have C_law_makers:=a8H (P:=P) (w:=w) (base:=base) T
 have C_law_news:=b1o (P:=P) (w:=w) (base:=base) T
 have C_flat:=b3J (P:=P) (w:=w) (base:=base) T
 have C_law_laid:=b3F (P:=P) (w:=w) (base:=base) T
 have C_law_right:=b1D (P:=P) (w:=w) (base:=base) T
 refine F.ok a2s (fun vs H Q E h=>?_) (fun cdv A outer s H vs Q E hr h=>?_)
 ·obtain⟨a,ns,rfl,_⟩:=h
  rfl
 ·obtain⟨a,ns,rfl,hS,hlen,q⟩:=h
  have hu:=D4 hr
  refine⟨_,(G3 (I9 (i:=1) a2s.nd rfl (Or.inl rfl) (U9 C_law_quieted hr (by rfl) (G0 (U9 C_law_parts hr (by rfl) (G0 (pv 0) G4)) G4)))
   (G3 (I9 (i:=2) a2s.nd rfl (Or.inl rfl) (U9 C_law_makers hr (by rfl) (G0 (pv 1) G4)))
   (G3 (I9 (i:=3) a2s.nd rfl (Or.inl rfl) (U9 C_law_news hr (by rfl) (G0 (pv 1) G4)))
   (G3 (I9 (i:=4) a2s.nd rfl (Or.inl rfl) (J1 O0 G2 (J1 Y7 (R3 J8 (by rfl) T.n_len PySem.boot_len (G0 (pv 1) G4)) G2)))
   (G3 (Y0 PassesOwn.never rfl (F1 (a8F (pv 1) (a9q (J1 U5 (U9 C_law_cell_at hr (by rfl) (G0 (pv 0) (G0 G2 G4))) (pv 4))) b2Y (a9q (pv 4)))) (E2 rfl (J0 (I0 (i:=5) a2s.nd rfl (Or.inl rfl)) (J0 (I0 (i:=6) a2s.nd rfl (Or.inl rfl)) Y1)))
    (G3 (I9 (i:=7) a2s.nd rfl (Or.inl rfl) (U9 C_law_laid hr (by rfl) (G0 (pv 1) (G0 (pv 5) G4))))
    (G5 (U8 (a1V (a0s (U9 C_law_right hr (by rfl) (G0 (U9 C_flat hr (by rfl) (G0 (pv 1) (G0 (pv 5) G4))) (G0 (pv 7) (G0 (pv 2) (G0 (pv 3) G4)))))))
     (G5 (R4 a0O)) R8))))
   (G5 (R4 a0O))))))),?_⟩
  refine⟨_,rfl,a,ns,rfl,hS,by omega,fun x0 hs b0 b1 b2 ps0 H0 s0 hpf0 hd=>?_⟩
  refine⟨x0,ps0,rfl,hpf0,hd.fit,fun x H1 s1 hpf=>?_⟩
  have hfit:=a5Z hd.fit
  have hnet:=b0M hd.net
  obtain⟨hknd,hklen0⟩:=hd.keys
  have hcl:=hd.closedQ
  have hko:=hd.kindsQ
  have hU:=hd.usesQ
  have hna:=a4D ps0
  have hklen:∀k∈W1 (G7 (quiet ps0)),k.2.length<=100:=by
   rw[F0,a2R,<-F0]
   exact hklen0
  generalize quiet ps0=ps at hpf hfit hnet hklen hcl hko hU hna
  clear hd hpf0 hknd hklen0
  refine⟨_,rfl,x,ps,rfl,hpf,hfit,hnet,fun m pkv H2 s2 _ hm2 fi2 hall=>?_⟩
  refine⟨_,rfl,x,ps,rfl,s2.partsF hpf,hfit,hnet,hklen,fun nd nkv ts H3 s3 hnd3 hks hnn hnv=>?_⟩
  have hpf3:=(s2.trans s3).partsF hpf
  have hm3:=s3 _ _ hm2
  have fi3:=fi2.mono s3.tups
  have sS3:=((s0.trans s1).trans s2).trans s3
  have htl:ts.length=(R5 (G7 ps)).length:=by
   have:=congrArg List.length hks
   rw[List.length_map,F0,List.length_map]at this
   exact this
  have hnf:=a6Z htl
  have hpnd:=a1N hfit.nd
  have hnnd:((M2 (R5 (G7 ps)) ts).map (·.1)).Nodup:=by rw[hnf];exact hpnd
  obtain⟨o,vs,hx,ho,hps⟩:=id hpf3
  have sqx:∀{H5:Hp},G6 H3 H5->SqT K H5 x vs:=fun s5=> .inl (.inr ⟨o,s5 _ _ hx⟩)
  have hvl:vs.length=ps.length:=Paired.length hps
  have hhi:=hfit.hi
  refine⟨_,rfl,x,_,rfl,.inr (sqx (G6.refl H3)),_,_,rfl,rfl,⟨by decide,by decide⟩,_,_,rfl,rfl,?_⟩
  have hst:0 < (1:Int)+(vs.length:Int)/5:=by omega
  refine⟨_,rfl,_,rfl,a,ns,_,rfl,sS3.seq hS,(by decide),fun c3=>?_⟩
  refine⟨_,rfl,_,_,rfl,rfl,hst,_,rfl,_,rfl,_,rfl,x,vs,_,rfl,(fun H5 s5=>sqx s5),rfl,hst,fun p ys H5 s5 hp5 hys=>?_⟩
  refine⟨p,rfl,⟨_,hp5 H5 (G6.refl H5)⟩,E6 (K:=K) (a:=p) (xs:=ys) (fun i σ H6=>∃(v5 v6 v7:Option V),σ=[some (.ref a),some (.ref x),some (.ref m),some (.ref nd),some (.int (1+(vs.length:Int)/5)),v5,v6,v7]/\G6 H5 H6)
   ⟨_,_,_,rfl,G6.refl H5⟩ (fun i σ H6 _⟨_,_,_,_,s6⟩=>hp5 _ s6) ?_ ?_⟩
  ·rintro i y σ H6 hy ⟨w5,w6,w7,rfl,s6⟩
   have s36:=s5.trans s6
   obtain⟨j,hj⟩:=List.getElem?_of_mem (hys y (List.mem_of_getElem? hy))
   obtain⟨pt,hpt,t,u,ws,ey,ht,hu',hrs⟩:=Paired.get? hps hj
   subst ey
   have hmem:pt.1∈ps.map (·.1):=List.mem_map_of_mem (f:=(·.1)) (List.mem_of_getElem? hpt)
   refine⟨t,_,rfl,SqT.of (s36 _ _ ht),rfl,_,_,rfl,_,_,rfl,rfl,?_⟩
   refine⟨_,rfl,_,rfl,x,ps,pt.1,rfl,s36.partsF hpf3,hfit,hcl,hko,hmem,fun ld us H7 s7 hld hus=>?_⟩
   have s37:=s36.trans s7
   refine⟨_,rfl,_,rfl,x,ps,pt.1,rfl,s37.partsF hpf3,hfit,hnet,hklen,hcl,hna,hmem,hU,fun t' rt ot rv ov NN ts' H8 s8 ht' hrt hot hks' hnn' hN hrv hov=>?_⟩
   have htt:ts'=ts:=b3o hnn' hnn (hks'.trans hks.symm)
   subst htt
   have s38:=s37.trans s8
   have hlen:=a2G (ps:=ps) 960 (R1 pt.1 (U7 ps pt.1)) [pt.1] []
   simp only[List.length_nil,Nat.zero_add]at hlen
   refine⟨_,rfl,_,rfl,_,rfl,t',rt,ot,ld,m,nd,rv,ov,us,_,NN,pkv,nkv,rfl,ht',hrt,hot,s8 _ _ hld,s38 _ _ hm3,s38 _ _ hnd3,hlen,Paired.mapP hus fun _ _ z=>z.mono s8.tups,hrv,hov,fun y hy=>?_,fun H9 s9=>?_⟩
   ·obtain⟨hin,hw⟩:=b2r y hy
    refine⟨hw,(hU y hin hw).imp fun z hz=>?_⟩
    obtain⟨p0,hmk,hin'⟩:=hN y.1 z hz
    have hsome:(Y6 pkv (U0 (y.1,z))).isSome=true:=by
     rcases List.mem_append.mp hz with w | w
     ·exact fi2.has _ w
     ·exact hall _ w
    cases e:Y6 pkv (U0 (y.1,z))with
    | none=>rw[e]at hsome;cases hsome
    | some v=>
     obtain⟨t',p',ev,ht',hmk'⟩:=fi3.val _ v e
     have hpp:p'=p0:=hnet.uniq hmk' hmk
     subst hpp
     exact⟨t',p',by rw[e,ev],s38 _ _ ht',a9e hnv hnnd hin'⟩
   ·refine⟨_,rfl,F6 ?_⟩
    exact⟨_,_,_,rfl,s6.trans (s7.trans (s8.trans s9))⟩
  ·rintro σ H6 ⟨w5,w6,w7,rfl,s6⟩
   exact q H6
end
end K43
namespace K43
open PySem L2
noncomputable def DA (K:PySem.W.Frag) (x:Str) (st:Stmt):Prop:=∃f od an sl oc kV dc pm cd ct,PySem.W.nsIn K mainGlobals x=some (some (.ref f))/\K.lookup f=some ⟨oc,od,.func (PySem.W.fnOf x x (a1j st) (a0x st) (J3 st) .none kV dc pm an cd ct),sl⟩/\PySem.W.codeIn K cd x=true/\PySem.W.keepIn K (.ref f)=true
theorem DA.has{K:PySem.W.Frag}{h:Heap}{mg:Str->Option Value}{x:Str}{st:Stmt}(X:K.In h)(G:h.Ns mainGlobals mg)(d:DA K x st):W0 K mg x st:=by
 obtain⟨f,od,an,sl,oc,kV,dc,pm,cd,ct,a,l,c,k⟩:=d
 exact b0N X G a l c k
theorem DA.mk{K:PySem.W.Frag}{x:Str}{st:Stmt}{f:Addr}{od an:Option Addr}{sl:Array (Option Value)}{oc kV dc pm cd ct:Value}(a:PySem.W.nsIn K mainGlobals x=some (some (.ref f)))(l:K.lookup f=some ⟨oc,od,.func (PySem.W.fnOf x x (a1j st) (a0x st) (J3 st) .none kV dc pm an cd ct),sl⟩)(c:PySem.W.codeIn K cd x=true)(k:PySem.W.keepIn K (.ref f)=true):DA K x st:=⟨f,od,an,sl,oc,kV,dc,pm,cd,ct,a,l,c,k⟩
theorem b4s{l:PySem.W.OpenLaw}{w:World}{K:PySem.W.Frag}{h:Heap}{mg:Str->Option Value}{fa:Addr}(X:K.In h)(G:h.Ns mainGlobals mg)(hfa:mg "law"=some (.ref fa))
  (hd:DA K "placed_rows" a1y/\
  DA K "given_owns" a1S/\
  DA K "links" a6L/\
  DA K "makers" a5p/\
  DA K "made" a8A/\
  DA K "brings" a5b/\
  DA K "named_parts" a1s/\
  DA K "order" a7e/\
  DA K "new_names" a2x/\
  DA K "numbered" a3j/\
  DA K "makers_names" a1a/\
  DA K "renamed_row" a1z/\
  DA K "renamed_sum" a0v/\
  DA K "renamed_thing" a0J/\
  DA K "renamed_when" a0W/\
  DA K "flat" a5a/\
  DA K "refuse_asks" a1A/\
  DA K "work_in_order" a0H/\
  DA K "last_first" a0S/\
  DA K "_law_cell_at" a1w/\
  DA K "_law_stream" a1U/\
  DA K "_law_name" a3d/\
  DA K "_law_pool" a3e/\
  DA K "_law_begun" a2o/\
  DA K "_law_fresh" a2D/\
  DA K "_law_pairs" a2t/\
  DA K "_law_added" a2n/\
  DA K "_law_sum" a4f/\
  DA K "_law_row" a4c/\
  DA K "_law_owned" a1q/\
  DA K "_law_finished" a0j/\
  DA K "_law_pools" a2y/\
  DA K "_law_parts" a2r/\
  DA K "_law_made" a3k/\
  DA K "_law_makers" a1Q/\
  DA K "_law_news" a1M/\
  DA K "_law_quieted" a0t/\
  DA K "_law_laid" a3a/\
  DA K "_law_changed" a1x/\
  DA K "_law_is_origin" a0G/\
  DA K "_law_right" a2f/\
  DA K "law" a9n)
  (z0:PySem.W.nsIn K mainGlobals "len"=some none)
  (z1:PySem.W.nsIn K mainGlobals "range"=some none)
  (z2:PySem.W.nsIn K mainGlobals "str"=some none)
  (z3:PySem.W.nsIn K mainGlobals "tuple"=some none)
  (z4:PySem.W.nsIn K mainGlobals "list"=some none)
  (z5:PySem.W.nsIn K mainGlobals "dict"=some none)
  (z6:PySem.W.nsIn K mainGlobals "enumerate"=some none)
  (z7:PySem.W.nsIn K mainGlobals "isinstance"=some none)
  (z8:PySem.W.nsIn K mainGlobals "min"=some none)
  (z9:PySem.W.nsIn K mainGlobals "max"=some none)
  (z10:PySem.W.nsIn K mainGlobals "zip"=some none)
  (z11:PySem.W.nsIn K mainGlobals "int"=some none)
  (z12:PySem.W.nsIn K mainGlobals "bool"=some none)
  (z13:PySem.W.nsIn K mainGlobals "reversed"=some none):
  ∃fd:FuncData,(∀(s:Shared)(v:Value),BindsTo s fd ⟨[v],[]⟩ [("_law_script",v)])/\∀base:Heap,K.In base->base.Ns mainGlobals mg->a5I l.prog w K mg base CX0 7 fa fd ["_law_script"] (a9D K):=by
 obtain⟨d0,d1,d2,d3,d4,d5,d6,d7,d8,d9,d10,d11,d12,d13,d14,d15,d16,d17,d18,d19,d20,d21,d22,d23,d24,d25,d26,d27,d28,d29,d30,d31,d32,d33,d34,d35,d36,d37,d38,d39,d40,f,od,an,sl,oc,kV,dc,pm,cd,ct,a,l,c,k⟩:=hd
 have e:=hfa.symm.trans (PySem.W.mg_of X G a)
 cases e
 have T:Txt K mg:=⟨PySem.W.mg_none_of X G z0,PySem.W.mg_none_of X G z1,PySem.W.mg_none_of X G z2,PySem.W.mg_none_of X G z3,PySem.W.mg_none_of X G z4,PySem.W.mg_none_of X G z5,PySem.W.mg_none_of X G z6,PySem.W.mg_none_of X G z7,PySem.W.mg_none_of X G z8,PySem.W.mg_none_of X G z9,PySem.W.mg_none_of X G z10,PySem.W.mg_none_of X G z11,PySem.W.mg_none_of X G z12,PySem.W.mg_none_of X G z13,d0.has X G,d1.has X G,d2.has X G,d3.has X G,d4.has X G,d5.has X G,d6.has X G,d7.has X G,d8.has X G,d9.has X G,d10.has X G,d11.has X G,d12.has X G,d13.has X G,d14.has X G,d15.has X G,d16.has X G,d17.has X G,d18.has X G,d19.has X G,d20.has X G,d21.has X G,d22.has X G,d23.has X G,d24.has X G,d25.has X G,d26.has X G,d27.has X G,d28.has X G,d29.has X G,d30.has X G,d31.has X G,d32.has X G,d33.has X G,d34.has X G,d35.has X G,d36.has X G,d37.has X G,d38.has X G,d39.has X G,d40.has X G⟩
 exact⟨_,fun s v=> .of_eq rfl,fun base _ _=>b5d (b2y (st:=a9n) l c k) T⟩
theorem b5X{l:PySem.W.OpenLaw}{q:Program}{loose:List Str}{XP:(Str->Option Value)->Heap->Prop}{YP:World->Heap->Prop}{d:DefRec}{K:Params->PySem.W.Frag}(hn:l.most=some 63)(hdf:d.params.defaults=[])
  (hY:∀(w:World)(h:Heap),YP w h->(K w.params).In h)
  (F:∀(w:World)(mg:Str->Option Value)(fa:Addr)(h:Heap),(K w.params).In h->h.Ns mainGlobals mg->mg d.name=some (.ref fa)->
   ∃fd:FuncData,(∀(s:Shared)(u:Value),BindsTo s fd ⟨[u],[]⟩ [("_law_script",u)])/\∀base:Heap,(K w.params).In base->base.Ns mainGlobals mg->a5I l.prog w (K w.params) mg base CX0 7 fa fd ["_law_script"] (a9D (K w.params))):
  PySem.W.WalkO q loose XP YP l.row.toRowW d [] (fun f vs=>PySem.call f vs):=
 L2.b3y (n:=63) (k:=7) (x:="_law_script") (CX:=fun _=>CX0) (sp:=fun w=>a9D (K w.params)) hn (by decide) hdf ⟨rfl,by decide,by decide⟩ hY F (fun _ _ a ns hl _ hS=>⟨a,ns,rfl,hS,hl,fun _=>rfl⟩) fun _ _ _ _ _ z=>z
end K43
open PySem PySem.W PyProof.Rows
set_option maxRecDepth 100000 in
set_option maxHeartbeats 0 in
theorem PySem.Challenge.cw_bundlehouse_k43_flat_rows_holds : PySem.Challenge.rw_bundlehouse_k43_flat_rows.Holds := by
 w_on
 refine HD.b3p (l:=PySem.Challenge.rw_bundlehouse_k43_flat_rows) (q:=HD.a1f PySem.Challenge.rw_bundlehouse_k43_flat_rows.prog [1,2,3,5,6,7,8,9,10,11,12,14,15,16,17,18,19,20,22,23,24,25,27,28,29,30,31,32,33,34,35,36,37,38,39,40,41,42,43,44,45,46,47,48,49]) (K:=K43.a6l) (as:=K43.a6y) (N:=4268) K43.a8c K43.b5b K43.b3a (by rfl) (by rfl) (by rfl) (by rfl) (by decide +kernel) ⟨rfl,rfl,rfl,rfl,rfl,by decide +kernel⟩ ?hw ?hc
 (case hw=>w_witness2)
 k_fill
 refine K43.b5X (l:=PySem.Challenge.rw_bundlehouse_k43_flat_rows) rfl rfl (fun w h Y=>PySem.W.kIn_of Y) ?F
 case F=>
  intro w mg fa h KX G hmg
  refine' K43.b4s KX G hmg ?hd ?z0 ?z1 ?z2 ?z3 ?z4 ?z5 ?z6 ?z7 ?z8 ?z9 ?z10 ?z11 ?z12 ?z13
  case hd=>
   iterate 41 (refine⟨?_,?_⟩;focus (apply K43.DA.mk;k_is;k_is;k_is;k_is))
   apply K43.DA.mk;k_is;k_is;k_is;k_is
  (case z0=>k_is);(case z1=>k_is);(case z2=>k_is);(case z3=>k_is);(case z4=>k_is);(case z5=>k_is);(case z6=>k_is);(case z7=>k_is);(case z8=>k_is);(case z9=>k_is);(case z10=>k_is);(case z11=>k_is);(case z12=>k_is);(case z13=>k_is)