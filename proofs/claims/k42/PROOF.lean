import PyProof.Rows.All
import Wide.All
import OpenK.AllK
import Wide.FinOn
import Lean
import PyProof.EqAt
import PyProof.EqKinds
import PyProof.TupleCall
import PySem.Challenge.RW_bundlehouse_k42_a_row_renamed
noncomputable section
set_option Elab.async false
set_option linter.all false
set_option maxRecDepth 100000
theorem leS0 : 0 ≤ PySem.sizeLine:=by decide
theorem leS1 : 1 ≤ PySem.sizeLine:=by decide
theorem leS2 : 2 ≤ PySem.sizeLine:=by decide
theorem leS3 : 3 ≤ PySem.sizeLine:=by decide
namespace HD
open PySem PySem.W
abbrev cutTo (p : Program) (ks : List Nat) : Program :=
 { p with main:={ p.main with body:=ks.filterMap fun i=>p.main.body[i]? } }
abbrev en (P : Params) (x : Str) (t : Tok) (v : Value) : DictEntry:=⟨PyData.keyHash P x,.str x t,v⟩
abbrev tp (p : Program) (i : Nat) : Stmt:=p.main.body.getD i (.Pass ⟨0,0,0,0⟩)
def dA (s : Stmt) : Arguments:=match s with
 | .FunctionDef _ a _ _ _ _ _ _ _ _=>a
 | _=>⟨[],[],none,[],[],none,[]⟩
def dB (s : Stmt) : List Stmt:=match s with
 | .FunctionDef _ _ b _ _ _ _ _ _ _=>b
 | _=>[]
def dS (s : Stmt) : Scope:=match s with
 | .FunctionDef _ _ _ _ _ _ c _ _ _=>c
 | _=>default
theorem left_of {p q : Program} {Xt : Shared→Bool} {α : Type} {Yf : Shared→α} {Ya : World→α} {N : Nat}
  (h1 : ∀ w,((openEnds treeTable p w N).map fun s=>(openSeen q [] (importedModules p.main.body) Xt true s).1) = some (openGood q []).1)
  (h2 : ∀ w,((openEnds treeTable p w N).map fun s=>((openSeen q [] (importedModules p.main.body) Xt true s).2.1,(openSeen q [] (importedModules p.main.body) Xt true s).2.2.1)) = some ((openGood q []).2.1,(openGood q []).2.2.1))
  (h3 : ∀ w,((openEnds treeTable p w N).map fun s=>(openSeen q [] (importedModules p.main.body) Xt true s).2.2.2) = some (openGood q []).2.2.2)
  (h4 : ∀ w,(openEnds treeTable p w N).map Yf = some (Ya w)) : LeftO p q [] Xt Yf Ya N:=by
 intro w
 have a1:=h1 w
 have a2:=h2 w
 have a3:=h3 w
 have a4:=h4 w
 generalize openEnds treeTable p w N = r at a1 a2 a3 a4 ⊢
 cases r with
 | none=>cases a4
 | some s =>
  have b1:=Option.some.inj a1
  have b2:=Prod.mk.inj (Option.some.inj a2)
  have b3:=Option.some.inj a3
  have b4:=Option.some.inj a4
  have e : openSeen q [] (importedModules p.main.body) Xt true s = openGood q []:=Prod.ext b1 (Prod.ext b2.1 (Prod.ext b2.2 b3))
  show some (openSeen q [] (importedModules p.main.body) Xt true s,Yf s) = some (openGood q [],Ya w)
  rw [e,b4]
theorem head_of {l : OpenLaw} {q : Program} {K : Params→Frag} {as : List Addr} {N : Nat} {d : DefRec} {kwd : List (Str × Expr)}
  (e : ∀ P,as = (K P).map (·.1)) (said : l.wellSaid = true)
  (hl : LeftO l.row.prog q [] (fun s=>xlAt q [] s && recOk (RowW.records l.row.toRowW) s) (kHook K as e).obs (kHook K as e).val N)
  (h1 : defOf q l.row.name = some (d,kwd)) (h2 : l.row.prog.theDef l.row.name = some (d.params,d.body,d.scope))
  (h3 : kwWritten? d.params.kwonlyargs d.params.kw_defaults = some kwd) (h4 : (!l.row.writes || l.row.records.isEmpty) = true)
  (h5 : (chainsOk q && opensWell l.row.prog && (frees l.row.toRowW && l.row.within.isEmpty)) = true)
  (h6 : l.row.prog.bare) (h7 : l.row.toRowW.promised)
  (go : WalkO q [] (XL q []) (kHook K as e).says l.row.toRowW d kwd fun f vs=>PySem.call f vs) : l.Holds:=by
 refine holds_law said fun sd=>?_
 refine holds_open (XP:=XL q []) (YP:=(kHook K as e).says) hl (kHook K as e).of (kHook K as e).keeps ?_ XL.keeps h1 h2 h3 ?_ h4 sd h5 h6 h7 go
 ·intro s x
  exact xl_of s (Bool.and_eq_true_iff.mp x).1
 ·intro s x
  exact recFacts_of (Bool.and_eq_true_iff.mp x).2
end HD
set_option Elab.async false
set_option linter.all false
set_option maxRecDepth 100000
namespace K42
open PySem PySem.W
theorem len1 {α : Type} {us : List α} (h : us.length = 1) : ∃ a,us = [a]:=by
 match us,h with
 | [a],_=>exact ⟨a,rfl⟩
theorem len2 {α : Type} {us : List α} (h : us.length = 2) : ∃ a b,us = [a,b]:=by
 match us,h with
 | [a,b],_=>exact ⟨a,b,rfl⟩
theorem len3 {α : Type} {us : List α} (h : us.length = 3) : ∃ a b c,us = [a,b,c]:=by
 match us,h with
 | [a,b,c],_=>exact ⟨a,b,c,rfl⟩
theorem len4 {α : Type} {us : List α} (h : us.length = 4) : ∃ a b c d,us = [a,b,c,d]:=by
 match us,h with
 | [a,b,c,d],_=>exact ⟨a,b,c,d,rfl⟩
set_option maxHeartbeats 0
def heapK (P : Params) : PySem.W.Frag :=
 (nat_lit 2,{ cls:=Value.none,data:=Data.dict #[] }) ::
 (nat_lit 3,{ cls:=Value.type "dict",data:=Data.dict #[HD.en P "__name__" 165 (Value.str ("law_bundlehouse_k42_a_row_renamed") 332),HD.en P "__doc__" 166 (Value.none),HD.en P "__package__" 167 (Value.none),HD.en P "__loader__" 168 (Value.builtin "__main__.__loader__#opaque"),HD.en P "__spec__" 169 (Value.none),HD.en P "__annotations__" 170 (Value.ref 6),HD.en P "__builtins__" 171 (Value.ref 4),HD.en P "__file__" 173 (Value.str ("/claim/cut.py") 172),HD.en P "__cached__" 174 (Value.none),HD.en P "placed_rows" 200 (Value.ref 21),HD.en P "given_owns" 211 (Value.ref 28),HD.en P "links" 225 (Value.ref 35),HD.en P "makers" 238 (Value.ref 42),HD.en P "made" 249 (Value.ref 49),HD.en P "new_names" 264 (Value.ref 56),HD.en P "numbered" 273 (Value.ref 63),HD.en P "makers_names" 288 (Value.ref 70),HD.en P "renamed" 297 (Value.ref 77),HD.en P "renamed_row" 307 (Value.ref 84),HD.en P "renamed_sum" 313 (Value.ref 89),HD.en P "renamed_thing" 322 (Value.ref 96),HD.en P "renamed_when" 331 (Value.ref 103),HD.en P "_law_cell_at" 341 (Value.ref 110),HD.en P "_law_stream" 352 (Value.ref 117),HD.en P "_law_name" 365 (Value.ref 124),HD.en P "_law_pool" 373 (Value.ref 131),HD.en P "_law_begun" 384 (Value.ref 138),HD.en P "_law_fresh" 393 (Value.ref 145),HD.en P "_law_pairs" 409 (Value.ref 152),HD.en P "_law_added" 425 (Value.ref 159),HD.en P "_law_sum" 437 (Value.ref 166),HD.en P "_law_row" 451 (Value.ref 173),HD.en P "_law_owned" 457 (Value.ref 178),HD.en P "_law_finished" 463 (Value.ref 183),HD.en P "_law_pools" 473 (Value.ref 190),HD.en P "_law_parts" 483 (Value.ref 197),HD.en P "_law_made" 494 (Value.ref 204),HD.en P "_law_makers" 511 (Value.ref 211),HD.en P "_law_news" 517 (Value.ref 216),HD.en P "_law_changed" 531 (Value.ref 223),HD.en P "_law_alike" 541 (Value.ref 230),HD.en P "law" 557 (Value.ref 237)] 42 }) ::
 (nat_lit 15,{ cls:=Value.type "tuple",data:=Data.seq #[] }) ::
 (nat_lit 17,{ cls:=Value.type "tuple",data:=Data.seq #[Value.str ("parts") 192,Value.str ("found") 193,Value.str ("part") 194,Value.str ("rows") 195,Value.str ("number") 196,Value.str ("row") 197] }) ::
 (nat_lit 18,{ cls:=Value.type "tuple",data:=Data.seq #[] }) ::
 (nat_lit 20,{ cls:=Value.type "code",data:=Data.fields #[Value.str ("placed_rows") 189,Value.str ("placed_rows") 190,Value.str ("/claim/cut.py") 191,Value.int 2 0,Value.int 1 0,Value.int 0 0,Value.int 0 0,Value.int 3 0,Value.ref 15,Value.bool true,Value.int 181 0,Value.ref 16,Value.none,Value.ref 17,Value.ref 18,Value.ref 19,Value.int 198 0,Value.int 2 0,Value.str ("/claim/cut.py") 199] }) ::
 (nat_lit 21,⟨Value.type "function",none,.func (PySem.W.fnOf "placed_rows" "placed_rows" (HD.dA (HD.tp PySem.Challenge.pw_bundlehouse_k42_a_row_renamed 1)) (HD.dB (HD.tp PySem.Challenge.pw_bundlehouse_k42_a_row_renamed 1)) (HD.dS (HD.tp PySem.Challenge.pw_bundlehouse_k42_a_row_renamed 1)) (Value.none) (Value.none) (Value.none) (Value.str ("bundlehouse.net") 187) (none) (Value.ref 20) (Value.none)),#[]⟩) ::
 (nat_lit 22,{ cls:=Value.type "tuple",data:=Data.seq #[] }) ::
 (nat_lit 24,{ cls:=Value.type "tuple",data:=Data.seq #[Value.str ("parts") 204,Value.str ("owns") 205,Value.str ("part") 206,Value.str ("number") 207,Value.str ("row") 208] }) ::
 (nat_lit 25,{ cls:=Value.type "tuple",data:=Data.seq #[] }) ::
 (nat_lit 27,{ cls:=Value.type "code",data:=Data.fields #[Value.str ("given_owns") 201,Value.str ("given_owns") 202,Value.str ("/claim/cut.py") 203,Value.int 8 0,Value.int 1 0,Value.int 0 0,Value.int 0 0,Value.int 3 0,Value.ref 22,Value.bool true,Value.int 181 0,Value.ref 23,Value.none,Value.ref 24,Value.ref 25,Value.ref 26,Value.int 209 0,Value.int 8 0,Value.str ("/claim/cut.py") 210] }) ::
 (nat_lit 28,⟨Value.type "function",none,.func (PySem.W.fnOf "given_owns" "given_owns" (HD.dA (HD.tp PySem.Challenge.pw_bundlehouse_k42_a_row_renamed 2)) (HD.dB (HD.tp PySem.Challenge.pw_bundlehouse_k42_a_row_renamed 2)) (HD.dS (HD.tp PySem.Challenge.pw_bundlehouse_k42_a_row_renamed 2)) (Value.none) (Value.none) (Value.none) (Value.str ("bundlehouse.net") 187) (none) (Value.ref 27) (Value.none)),#[]⟩) ::
 (nat_lit 29,{ cls:=Value.type "tuple",data:=Data.seq #[] }) ::
 (nat_lit 31,{ cls:=Value.type "tuple",data:=Data.seq #[Value.str ("parts") 215,Value.str ("owns") 216,Value.str ("onward") 217,Value.str ("part") 218,Value.str ("number") 219,Value.str ("row") 220,Value.str ("given") 221,Value.str ("own") 222] }) ::
 (nat_lit 32,{ cls:=Value.type "tuple",data:=Data.seq #[] }) ::
 (nat_lit 34,{ cls:=Value.type "code",data:=Data.fields #[Value.str ("links") 212,Value.str ("links") 213,Value.str ("/claim/cut.py") 214,Value.int 14 0,Value.int 1 0,Value.int 0 0,Value.int 0 0,Value.int 3 0,Value.ref 29,Value.bool true,Value.int 181 0,Value.ref 30,Value.none,Value.ref 31,Value.ref 32,Value.ref 33,Value.int 223 0,Value.int 14 0,Value.str ("/claim/cut.py") 224] }) ::
 (nat_lit 35,⟨Value.type "function",none,.func (PySem.W.fnOf "links" "links" (HD.dA (HD.tp PySem.Challenge.pw_bundlehouse_k42_a_row_renamed 3)) (HD.dB (HD.tp PySem.Challenge.pw_bundlehouse_k42_a_row_renamed 3)) (HD.dS (HD.tp PySem.Challenge.pw_bundlehouse_k42_a_row_renamed 3)) (Value.none) (Value.none) (Value.none) (Value.str ("bundlehouse.net") 187) (none) (Value.ref 34) (Value.none)),#[]⟩) ::
 (nat_lit 36,{ cls:=Value.type "tuple",data:=Data.seq #[] }) ::
 (nat_lit 38,{ cls:=Value.type "tuple",data:=Data.seq #[Value.str ("parts") 229,Value.str ("found") 230,Value.str ("onward") 231,Value.str ("start") 232,Value.str ("way") 233,Value.str ("here") 234,Value.str ("name") 235] }) ::
 (nat_lit 39,{ cls:=Value.type "tuple",data:=Data.seq #[] }) ::
 (nat_lit 41,{ cls:=Value.type "code",data:=Data.fields #[Value.str ("makers") 226,Value.str ("makers") 227,Value.str ("/claim/cut.py") 228,Value.int 22 0,Value.int 1 0,Value.int 0 0,Value.int 0 0,Value.int 3 0,Value.ref 36,Value.bool true,Value.int 181 0,Value.ref 37,Value.none,Value.ref 38,Value.ref 39,Value.ref 40,Value.int 236 0,Value.int 22 0,Value.str ("/claim/cut.py") 237] }) ::
 (nat_lit 42,⟨Value.type "function",none,.func (PySem.W.fnOf "makers" "makers" (HD.dA (HD.tp PySem.Challenge.pw_bundlehouse_k42_a_row_renamed 4)) (HD.dB (HD.tp PySem.Challenge.pw_bundlehouse_k42_a_row_renamed 4)) (HD.dS (HD.tp PySem.Challenge.pw_bundlehouse_k42_a_row_renamed 4)) (Value.none) (Value.none) (Value.none) (Value.str ("bundlehouse.net") 187) (none) (Value.ref 41) (Value.none)),#[]⟩) ::
 (nat_lit 43,{ cls:=Value.type "tuple",data:=Data.seq #[] }) ::
 (nat_lit 45,{ cls:=Value.type "tuple",data:=Data.seq #[Value.str ("parts") 242,Value.str ("found") 243,Value.str ("part") 244,Value.str ("number") 245,Value.str ("row") 246] }) ::
 (nat_lit 46,{ cls:=Value.type "tuple",data:=Data.seq #[] }) ::
 (nat_lit 48,{ cls:=Value.type "code",data:=Data.fields #[Value.str ("made") 239,Value.str ("made") 240,Value.str ("/claim/cut.py") 241,Value.int 34 0,Value.int 1 0,Value.int 0 0,Value.int 0 0,Value.int 3 0,Value.ref 43,Value.bool true,Value.int 181 0,Value.ref 44,Value.none,Value.ref 45,Value.ref 46,Value.ref 47,Value.int 247 0,Value.int 34 0,Value.str ("/claim/cut.py") 248] }) ::
 (nat_lit 49,⟨Value.type "function",none,.func (PySem.W.fnOf "made" "made" (HD.dA (HD.tp PySem.Challenge.pw_bundlehouse_k42_a_row_renamed 5)) (HD.dB (HD.tp PySem.Challenge.pw_bundlehouse_k42_a_row_renamed 5)) (HD.dS (HD.tp PySem.Challenge.pw_bundlehouse_k42_a_row_renamed 5)) (Value.none) (Value.none) (Value.none) (Value.str ("bundlehouse.net") 187) (none) (Value.ref 48) (Value.none)),#[]⟩) ::
 (nat_lit 50,{ cls:=Value.type "tuple",data:=Data.seq #[] }) ::
 (nat_lit 52,{ cls:=Value.type "tuple",data:=Data.seq #[Value.str ("parts") 255,Value.str ("owns") 256,Value.str ("used") 257,Value.str ("part") 258,Value.str ("own") 259,Value.str ("found") 260,Value.str ("new") 261] }) ::
 (nat_lit 53,{ cls:=Value.type "tuple",data:=Data.seq #[] }) ::
 (nat_lit 55,{ cls:=Value.type "code",data:=Data.fields #[Value.str ("new_names") 252,Value.str ("new_names") 253,Value.str ("/claim/cut.py") 254,Value.int 41 0,Value.int 1 0,Value.int 0 0,Value.int 0 0,Value.int 3 0,Value.ref 50,Value.bool true,Value.int 181 0,Value.ref 51,Value.none,Value.ref 52,Value.ref 53,Value.ref 54,Value.int 262 0,Value.int 41 0,Value.str ("/claim/cut.py") 263] }) ::
 (nat_lit 56,⟨Value.type "function",none,.func (PySem.W.fnOf "new_names" "new_names" (HD.dA (HD.tp PySem.Challenge.pw_bundlehouse_k42_a_row_renamed 7)) (HD.dB (HD.tp PySem.Challenge.pw_bundlehouse_k42_a_row_renamed 7)) (HD.dS (HD.tp PySem.Challenge.pw_bundlehouse_k42_a_row_renamed 7)) (Value.none) (Value.none) (Value.none) (Value.str ("bundlehouse.names") 250) (none) (Value.ref 55) (Value.none)),#[]⟩) ::
 (nat_lit 57,{ cls:=Value.type "tuple",data:=Data.seq #[] }) ::
 (nat_lit 59,{ cls:=Value.type "tuple",data:=Data.seq #[Value.str ("own") 268,Value.str ("used") 269,Value.str ("number") 270] }) ::
 (nat_lit 60,{ cls:=Value.type "tuple",data:=Data.seq #[] }) ::
 (nat_lit 62,{ cls:=Value.type "code",data:=Data.fields #[Value.str ("numbered") 265,Value.str ("numbered") 266,Value.str ("/claim/cut.py") 267,Value.int 52 0,Value.int 2 0,Value.int 0 0,Value.int 0 0,Value.int 3 0,Value.ref 57,Value.bool true,Value.int 181 0,Value.ref 58,Value.none,Value.ref 59,Value.ref 60,Value.ref 61,Value.int 271 0,Value.int 52 0,Value.str ("/claim/cut.py") 272] }) ::
 (nat_lit 63,⟨Value.type "function",none,.func (PySem.W.fnOf "numbered" "numbered" (HD.dA (HD.tp PySem.Challenge.pw_bundlehouse_k42_a_row_renamed 8)) (HD.dB (HD.tp PySem.Challenge.pw_bundlehouse_k42_a_row_renamed 8)) (HD.dS (HD.tp PySem.Challenge.pw_bundlehouse_k42_a_row_renamed 8)) (Value.none) (Value.none) (Value.none) (Value.str ("bundlehouse.names") 250) (none) (Value.ref 62) (Value.none)),#[]⟩) ::
 (nat_lit 64,{ cls:=Value.type "tuple",data:=Data.seq #[] }) ::
 (nat_lit 66,{ cls:=Value.type "tuple",data:=Data.seq #[Value.str ("parts") 277,Value.str ("places") 278,Value.str ("news") 279,Value.str ("part") 280,Value.str ("own") 281,Value.str ("new") 282,Value.str ("found") 283,Value.str ("name") 284,Value.str ("place") 285] }) ::
 (nat_lit 67,{ cls:=Value.type "tuple",data:=Data.seq #[] }) ::
 (nat_lit 69,{ cls:=Value.type "code",data:=Data.fields #[Value.str ("makers_names") 274,Value.str ("makers_names") 275,Value.str ("/claim/cut.py") 276,Value.int 57 0,Value.int 1 0,Value.int 0 0,Value.int 0 0,Value.int 3 0,Value.ref 64,Value.bool true,Value.int 181 0,Value.ref 65,Value.none,Value.ref 66,Value.ref 67,Value.ref 68,Value.int 286 0,Value.int 57 0,Value.str ("/claim/cut.py") 287] }) ::
 (nat_lit 70,⟨Value.type "function",none,.func (PySem.W.fnOf "makers_names" "makers_names" (HD.dA (HD.tp PySem.Challenge.pw_bundlehouse_k42_a_row_renamed 9)) (HD.dB (HD.tp PySem.Challenge.pw_bundlehouse_k42_a_row_renamed 9)) (HD.dS (HD.tp PySem.Challenge.pw_bundlehouse_k42_a_row_renamed 9)) (Value.none) (Value.none) (Value.none) (Value.str ("bundlehouse.names") 250) (none) (Value.ref 69) (Value.none)),#[]⟩) ::
 (nat_lit 71,{ cls:=Value.type "tuple",data:=Data.seq #[] }) ::
 (nat_lit 73,{ cls:=Value.type "tuple",data:=Data.seq #[Value.str ("parts") 292,Value.str ("part") 293,Value.str ("row") 294] }) ::
 (nat_lit 74,{ cls:=Value.type "tuple",data:=Data.seq #[] }) ::
 (nat_lit 76,{ cls:=Value.type "code",data:=Data.fields #[Value.str ("renamed") 289,Value.str ("renamed") 290,Value.str ("/claim/cut.py") 291,Value.int 66 0,Value.int 3 0,Value.int 0 0,Value.int 0 0,Value.int 3 0,Value.ref 71,Value.bool true,Value.int 181 0,Value.ref 72,Value.none,Value.ref 73,Value.ref 74,Value.ref 75,Value.int 295 0,Value.int 66 0,Value.str ("/claim/cut.py") 296] }) ::
 (nat_lit 77,⟨Value.type "function",none,.func (PySem.W.fnOf "renamed" "renamed" (HD.dA (HD.tp PySem.Challenge.pw_bundlehouse_k42_a_row_renamed 10)) (HD.dB (HD.tp PySem.Challenge.pw_bundlehouse_k42_a_row_renamed 10)) (HD.dS (HD.tp PySem.Challenge.pw_bundlehouse_k42_a_row_renamed 10)) (Value.none) (Value.none) (Value.none) (Value.str ("bundlehouse.names") 250) (none) (Value.ref 76) (Value.none)),#[]⟩) ::
 (nat_lit 78,{ cls:=Value.type "tuple",data:=Data.seq #[] }) ::
 (nat_lit 80,{ cls:=Value.type "tuple",data:=Data.seq #[Value.str ("part") 301,Value.str ("row") 302,Value.str ("news") 303,Value.str ("kind") 304] }) ::
 (nat_lit 81,{ cls:=Value.type "tuple",data:=Data.seq #[] }) ::
 (nat_lit 83,{ cls:=Value.type "code",data:=Data.fields #[Value.str ("renamed_row") 298,Value.str ("renamed_row") 299,Value.str ("/claim/cut.py") 300,Value.int 68 0,Value.int 3 0,Value.int 0 0,Value.int 0 0,Value.int 3 0,Value.ref 78,Value.bool true,Value.int 181 0,Value.ref 79,Value.none,Value.ref 80,Value.ref 81,Value.ref 82,Value.int 305 0,Value.int 68 0,Value.str ("/claim/cut.py") 306] }) ::
 (nat_lit 84,⟨Value.type "function",none,.func (PySem.W.fnOf "renamed_row" "renamed_row" (HD.dA (HD.tp PySem.Challenge.pw_bundlehouse_k42_a_row_renamed 11)) (HD.dB (HD.tp PySem.Challenge.pw_bundlehouse_k42_a_row_renamed 11)) (HD.dS (HD.tp PySem.Challenge.pw_bundlehouse_k42_a_row_renamed 11)) (Value.none) (Value.none) (Value.none) (Value.str ("bundlehouse.names") 250) (none) (Value.ref 83) (Value.none)),#[]⟩) ::
 (nat_lit 85,{ cls:=Value.type "tuple",data:=Data.seq #[] }) ::
 (nat_lit 88,{ cls:=Value.type "code",data:=Data.fields #[Value.str ("renamed_sum") 308,Value.str ("renamed_sum") 309,Value.str ("/claim/cut.py") 310,Value.int 79 0,Value.int 3 0,Value.int 0 0,Value.int 0 0,Value.int 3 0,Value.ref 85,Value.bool true,Value.int 181 0,Value.ref 86,Value.none,Value.none,Value.none,Value.ref 87,Value.int 311 0,Value.int 79 0,Value.str ("/claim/cut.py") 312] }) ::
 (nat_lit 89,⟨Value.type "function",none,.func (PySem.W.fnOf "renamed_sum" "renamed_sum" (HD.dA (HD.tp PySem.Challenge.pw_bundlehouse_k42_a_row_renamed 12)) (HD.dB (HD.tp PySem.Challenge.pw_bundlehouse_k42_a_row_renamed 12)) (HD.dS (HD.tp PySem.Challenge.pw_bundlehouse_k42_a_row_renamed 12)) (Value.none) (Value.none) (Value.none) (Value.str ("bundlehouse.names") 250) (none) (Value.ref 88) (Value.none)),#[]⟩) ::
 (nat_lit 90,{ cls:=Value.type "tuple",data:=Data.seq #[] }) ::
 (nat_lit 92,{ cls:=Value.type "tuple",data:=Data.seq #[Value.str ("part") 317,Value.str ("thing") 318,Value.str ("news") 319] }) ::
 (nat_lit 93,{ cls:=Value.type "tuple",data:=Data.seq #[] }) ::
 (nat_lit 95,{ cls:=Value.type "code",data:=Data.fields #[Value.str ("renamed_thing") 314,Value.str ("renamed_thing") 315,Value.str ("/claim/cut.py") 316,Value.int 81 0,Value.int 3 0,Value.int 0 0,Value.int 0 0,Value.int 3 0,Value.ref 90,Value.bool true,Value.int 181 0,Value.ref 91,Value.none,Value.ref 92,Value.ref 93,Value.ref 94,Value.int 320 0,Value.int 81 0,Value.str ("/claim/cut.py") 321] }) ::
 (nat_lit 96,⟨Value.type "function",none,.func (PySem.W.fnOf "renamed_thing" "renamed_thing" (HD.dA (HD.tp PySem.Challenge.pw_bundlehouse_k42_a_row_renamed 13)) (HD.dB (HD.tp PySem.Challenge.pw_bundlehouse_k42_a_row_renamed 13)) (HD.dS (HD.tp PySem.Challenge.pw_bundlehouse_k42_a_row_renamed 13)) (Value.none) (Value.none) (Value.none) (Value.str ("bundlehouse.names") 250) (none) (Value.ref 95) (Value.none)),#[]⟩) ::
 (nat_lit 97,{ cls:=Value.type "tuple",data:=Data.seq #[] }) ::
 (nat_lit 99,{ cls:=Value.type "tuple",data:=Data.seq #[Value.str ("part") 326,Value.str ("when") 327,Value.str ("news") 328] }) ::
 (nat_lit 100,{ cls:=Value.type "tuple",data:=Data.seq #[] }) ::
 (nat_lit 102,{ cls:=Value.type "code",data:=Data.fields #[Value.str ("renamed_when") 323,Value.str ("renamed_when") 324,Value.str ("/claim/cut.py") 325,Value.int 85 0,Value.int 3 0,Value.int 0 0,Value.int 0 0,Value.int 3 0,Value.ref 97,Value.bool true,Value.int 181 0,Value.ref 98,Value.none,Value.ref 99,Value.ref 100,Value.ref 101,Value.int 329 0,Value.int 85 0,Value.str ("/claim/cut.py") 330] }) ::
 (nat_lit 103,⟨Value.type "function",none,.func (PySem.W.fnOf "renamed_when" "renamed_when" (HD.dA (HD.tp PySem.Challenge.pw_bundlehouse_k42_a_row_renamed 14)) (HD.dB (HD.tp PySem.Challenge.pw_bundlehouse_k42_a_row_renamed 14)) (HD.dS (HD.tp PySem.Challenge.pw_bundlehouse_k42_a_row_renamed 14)) (Value.none) (Value.none) (Value.none) (Value.str ("bundlehouse.names") 250) (none) (Value.ref 102) (Value.none)),#[]⟩) ::
 (nat_lit 104,{ cls:=Value.type "tuple",data:=Data.seq #[] }) ::
 (nat_lit 106,{ cls:=Value.type "tuple",data:=Data.seq #[Value.str ("_law_script") 337,Value.str ("_law_k") 338] }) ::
 (nat_lit 107,{ cls:=Value.type "tuple",data:=Data.seq #[] }) ::
 (nat_lit 109,{ cls:=Value.type "code",data:=Data.fields #[Value.str ("_law_cell_at") 334,Value.str ("_law_cell_at") 335,Value.str ("/claim/cut.py") 336,Value.int 90 0,Value.int 2 0,Value.int 0 0,Value.int 0 0,Value.int 3 0,Value.ref 104,Value.bool true,Value.int 181 0,Value.ref 105,Value.none,Value.ref 106,Value.ref 107,Value.ref 108,Value.int 339 0,Value.int 90 0,Value.str ("/claim/cut.py") 340] }) ::
 (nat_lit 110,⟨Value.type "function",none,.func (PySem.W.fnOf "_law_cell_at" "_law_cell_at" (HD.dA (HD.tp PySem.Challenge.pw_bundlehouse_k42_a_row_renamed 16)) (HD.dB (HD.tp PySem.Challenge.pw_bundlehouse_k42_a_row_renamed 16)) (HD.dS (HD.tp PySem.Challenge.pw_bundlehouse_k42_a_row_renamed 16)) (Value.none) (Value.none) (Value.none) (Value.str ("law_bundlehouse_k42_a_row_renamed") 332) (none) (Value.ref 109) (Value.none)),#[]⟩) ::
 (nat_lit 111,{ cls:=Value.type "tuple",data:=Data.seq #[] }) ::
 (nat_lit 113,{ cls:=Value.type "tuple",data:=Data.seq #[Value.str ("_law_cell") 345,Value.str ("_law_k") 346,Value.str ("_law_found") 347,Value.str ("_law_number") 348,Value.str ("_law_by") 349] }) ::
 (nat_lit 114,{ cls:=Value.type "tuple",data:=Data.seq #[] }) ::
 (nat_lit 116,{ cls:=Value.type "code",data:=Data.fields #[Value.str ("_law_stream") 342,Value.str ("_law_stream") 343,Value.str ("/claim/cut.py") 344,Value.int 94 0,Value.int 2 0,Value.int 0 0,Value.int 0 0,Value.int 3 0,Value.ref 111,Value.bool true,Value.int 181 0,Value.ref 112,Value.none,Value.ref 113,Value.ref 114,Value.ref 115,Value.int 350 0,Value.int 94 0,Value.str ("/claim/cut.py") 351] }) ::
 (nat_lit 117,⟨Value.type "function",none,.func (PySem.W.fnOf "_law_stream" "_law_stream" (HD.dA (HD.tp PySem.Challenge.pw_bundlehouse_k42_a_row_renamed 17)) (HD.dB (HD.tp PySem.Challenge.pw_bundlehouse_k42_a_row_renamed 17)) (HD.dS (HD.tp PySem.Challenge.pw_bundlehouse_k42_a_row_renamed 17)) (Value.none) (Value.none) (Value.none) (Value.str ("law_bundlehouse_k42_a_row_renamed") 332) (none) (Value.ref 116) (Value.none)),#[]⟩) ::
 (nat_lit 118,{ cls:=Value.type "tuple",data:=Data.seq #[] }) ::
 (nat_lit 120,{ cls:=Value.type "tuple",data:=Data.seq #[Value.str ("_law_base") 356,Value.str ("_law_k") 357,Value.str ("_law_letters") 358,Value.str ("_law_size") 359,Value.str ("_law_name_here") 360,Value.str ("_law_j") 361,Value.str ("_law_step") 362] }) ::
 (nat_lit 121,{ cls:=Value.type "tuple",data:=Data.seq #[] }) ::
 (nat_lit 123,{ cls:=Value.type "code",data:=Data.fields #[Value.str ("_law_name") 353,Value.str ("_law_name") 354,Value.str ("/claim/cut.py") 355,Value.int 101 0,Value.int 2 0,Value.int 0 0,Value.int 0 0,Value.int 3 0,Value.ref 118,Value.bool true,Value.int 181 0,Value.ref 119,Value.none,Value.ref 120,Value.ref 121,Value.ref 122,Value.int 363 0,Value.int 101 0,Value.str ("/claim/cut.py") 364] }) ::
 (nat_lit 124,⟨Value.type "function",none,.func (PySem.W.fnOf "_law_name" "_law_name" (HD.dA (HD.tp PySem.Challenge.pw_bundlehouse_k42_a_row_renamed 18)) (HD.dB (HD.tp PySem.Challenge.pw_bundlehouse_k42_a_row_renamed 18)) (HD.dS (HD.tp PySem.Challenge.pw_bundlehouse_k42_a_row_renamed 18)) (Value.none) (Value.none) (Value.none) (Value.str ("law_bundlehouse_k42_a_row_renamed") 332) (none) (Value.ref 123) (Value.none)),#[]⟩) ::
 (nat_lit 125,{ cls:=Value.type "tuple",data:=Data.seq #[] }) ::
 (nat_lit 127,{ cls:=Value.type "tuple",data:=Data.seq #[Value.str ("_law_script") 369,Value.str ("_law_k") 370] }) ::
 (nat_lit 128,{ cls:=Value.type "tuple",data:=Data.seq #[] }) ::
 (nat_lit 130,{ cls:=Value.type "code",data:=Data.fields #[Value.str ("_law_pool") 366,Value.str ("_law_pool") 367,Value.str ("/claim/cut.py") 368,Value.int 120 0,Value.int 2 0,Value.int 0 0,Value.int 0 0,Value.int 3 0,Value.ref 125,Value.bool true,Value.int 181 0,Value.ref 126,Value.none,Value.ref 127,Value.ref 128,Value.ref 129,Value.int 371 0,Value.int 120 0,Value.str ("/claim/cut.py") 372] }) ::
 (nat_lit 131,⟨Value.type "function",none,.func (PySem.W.fnOf "_law_pool" "_law_pool" (HD.dA (HD.tp PySem.Challenge.pw_bundlehouse_k42_a_row_renamed 19)) (HD.dB (HD.tp PySem.Challenge.pw_bundlehouse_k42_a_row_renamed 19)) (HD.dS (HD.tp PySem.Challenge.pw_bundlehouse_k42_a_row_renamed 19)) (Value.none) (Value.none) (Value.none) (Value.str ("law_bundlehouse_k42_a_row_renamed") 332) (none) (Value.ref 130) (Value.none)),#[]⟩) ::
 (nat_lit 132,{ cls:=Value.type "tuple",data:=Data.seq #[] }) ::
 (nat_lit 134,{ cls:=Value.type "tuple",data:=Data.seq #[Value.str ("_law_script") 377,Value.str ("_law_first") 378,Value.str ("_law_many") 379,Value.str ("_law_house") 380,Value.str ("_law_k") 381] }) ::
 (nat_lit 135,{ cls:=Value.type "tuple",data:=Data.seq #[] }) ::
 (nat_lit 137,{ cls:=Value.type "code",data:=Data.fields #[Value.str ("_law_begun") 374,Value.str ("_law_begun") 375,Value.str ("/claim/cut.py") 376,Value.int 122 0,Value.int 1 0,Value.int 0 0,Value.int 0 0,Value.int 3 0,Value.ref 132,Value.bool true,Value.int 181 0,Value.ref 133,Value.none,Value.ref 134,Value.ref 135,Value.ref 136,Value.int 382 0,Value.int 122 0,Value.str ("/claim/cut.py") 383] }) ::
 (nat_lit 138,⟨Value.type "function",none,.func (PySem.W.fnOf "_law_begun" "_law_begun" (HD.dA (HD.tp PySem.Challenge.pw_bundlehouse_k42_a_row_renamed 20)) (HD.dB (HD.tp PySem.Challenge.pw_bundlehouse_k42_a_row_renamed 20)) (HD.dS (HD.tp PySem.Challenge.pw_bundlehouse_k42_a_row_renamed 20)) (Value.none) (Value.none) (Value.none) (Value.str ("law_bundlehouse_k42_a_row_renamed") 332) (none) (Value.ref 137) (Value.none)),#[]⟩) ::
 (nat_lit 139,{ cls:=Value.type "tuple",data:=Data.seq #[] }) ::
 (nat_lit 141,{ cls:=Value.type "tuple",data:=Data.seq #[Value.str ("_law_part") 388,Value.str ("_law_pool_here") 389,Value.str ("_law_k") 390] }) ::
 (nat_lit 142,{ cls:=Value.type "tuple",data:=Data.seq #[] }) ::
 (nat_lit 144,{ cls:=Value.type "code",data:=Data.fields #[Value.str ("_law_fresh") 385,Value.str ("_law_fresh") 386,Value.str ("/claim/cut.py") 387,Value.int 131 0,Value.int 3 0,Value.int 0 0,Value.int 0 0,Value.int 3 0,Value.ref 139,Value.bool true,Value.int 181 0,Value.ref 140,Value.none,Value.ref 141,Value.ref 142,Value.ref 143,Value.int 391 0,Value.int 131 0,Value.str ("/claim/cut.py") 392] }) ::
 (nat_lit 145,⟨Value.type "function",none,.func (PySem.W.fnOf "_law_fresh" "_law_fresh" (HD.dA (HD.tp PySem.Challenge.pw_bundlehouse_k42_a_row_renamed 21)) (HD.dB (HD.tp PySem.Challenge.pw_bundlehouse_k42_a_row_renamed 21)) (HD.dS (HD.tp PySem.Challenge.pw_bundlehouse_k42_a_row_renamed 21)) (Value.none) (Value.none) (Value.none) (Value.str ("law_bundlehouse_k42_a_row_renamed") 332) (none) (Value.ref 144) (Value.none)),#[]⟩) ::
 (nat_lit 146,{ cls:=Value.type "tuple",data:=Data.seq #[] }) ::
 (nat_lit 148,{ cls:=Value.type "tuple",data:=Data.seq #[Value.str ("_law_house") 397,Value.str ("_law_pools_here") 398,Value.str ("_law_here") 399,Value.str ("_law_other") 400,Value.str ("_law_xs") 401,Value.str ("_law_part") 402,Value.str ("_law_given") 403,Value.str ("_law_pairs_here") 404,Value.str ("_law_t") 405,Value.str ("_law_own") 406] }) ::
 (nat_lit 149,{ cls:=Value.type "tuple",data:=Data.seq #[] }) ::
 (nat_lit 151,{ cls:=Value.type "code",data:=Data.fields #[Value.str ("_law_pairs") 394,Value.str ("_law_pairs") 395,Value.str ("/claim/cut.py") 396,Value.int 133 0,Value.int 5 0,Value.int 0 0,Value.int 0 0,Value.int 3 0,Value.ref 146,Value.bool true,Value.int 181 0,Value.ref 147,Value.none,Value.ref 148,Value.ref 149,Value.ref 150,Value.int 407 0,Value.int 133 0,Value.str ("/claim/cut.py") 408] }) ::
 (nat_lit 152,⟨Value.type "function",none,.func (PySem.W.fnOf "_law_pairs" "_law_pairs" (HD.dA (HD.tp PySem.Challenge.pw_bundlehouse_k42_a_row_renamed 22)) (HD.dB (HD.tp PySem.Challenge.pw_bundlehouse_k42_a_row_renamed 22)) (HD.dS (HD.tp PySem.Challenge.pw_bundlehouse_k42_a_row_renamed 22)) (Value.none) (Value.none) (Value.none) (Value.str ("law_bundlehouse_k42_a_row_renamed") 332) (none) (Value.ref 151) (Value.none)),#[]⟩) ::
 (nat_lit 153,{ cls:=Value.type "tuple",data:=Data.seq #[] }) ::
 (nat_lit 155,{ cls:=Value.type "tuple",data:=Data.seq #[Value.str ("_law_house") 413,Value.str ("_law_pools_here") 414,Value.str ("_law_xs") 415,Value.str ("_law_here") 416,Value.str ("_law_part") 417,Value.str ("_law_at") 418,Value.str ("_law_kind") 419,Value.str ("_law_other") 420,Value.str ("_law_own") 421,Value.str ("_law_given") 422] }) ::
 (nat_lit 156,{ cls:=Value.type "tuple",data:=Data.seq #[] }) ::
 (nat_lit 158,{ cls:=Value.type "code",data:=Data.fields #[Value.str ("_law_added") 410,Value.str ("_law_added") 411,Value.str ("/claim/cut.py") 412,Value.int 142 0,Value.int 3 0,Value.int 0 0,Value.int 0 0,Value.int 3 0,Value.ref 153,Value.bool true,Value.int 181 0,Value.ref 154,Value.none,Value.ref 155,Value.ref 156,Value.ref 157,Value.int 423 0,Value.int 142 0,Value.str ("/claim/cut.py") 424] }) ::
 (nat_lit 159,⟨Value.type "function",none,.func (PySem.W.fnOf "_law_added" "_law_added" (HD.dA (HD.tp PySem.Challenge.pw_bundlehouse_k42_a_row_renamed 23)) (HD.dB (HD.tp PySem.Challenge.pw_bundlehouse_k42_a_row_renamed 23)) (HD.dS (HD.tp PySem.Challenge.pw_bundlehouse_k42_a_row_renamed 23)) (Value.none) (Value.none) (Value.none) (Value.str ("law_bundlehouse_k42_a_row_renamed") 332) (none) (Value.ref 158) (Value.none)),#[]⟩) ::
 (nat_lit 160,{ cls:=Value.type "tuple",data:=Data.seq #[] }) ::
 (nat_lit 162,{ cls:=Value.type "tuple",data:=Data.seq #[Value.str ("_law_owns") 429,Value.str ("_law_xs") 430,Value.str ("_law_terms") 431,Value.str ("_law_t") 432,Value.str ("_law_number") 433,Value.str ("_law_thing") 434] }) ::
 (nat_lit 163,{ cls:=Value.type "tuple",data:=Data.seq #[] }) ::
 (nat_lit 165,{ cls:=Value.type "code",data:=Data.fields #[Value.str ("_law_sum") 426,Value.str ("_law_sum") 427,Value.str ("/claim/cut.py") 428,Value.int 166 0,Value.int 2 0,Value.int 0 0,Value.int 0 0,Value.int 3 0,Value.ref 160,Value.bool true,Value.int 181 0,Value.ref 161,Value.none,Value.ref 162,Value.ref 163,Value.ref 164,Value.int 435 0,Value.int 166 0,Value.str ("/claim/cut.py") 436] }) ::
 (nat_lit 166,⟨Value.type "function",none,.func (PySem.W.fnOf "_law_sum" "_law_sum" (HD.dA (HD.tp PySem.Challenge.pw_bundlehouse_k42_a_row_renamed 24)) (HD.dB (HD.tp PySem.Challenge.pw_bundlehouse_k42_a_row_renamed 24)) (HD.dS (HD.tp PySem.Challenge.pw_bundlehouse_k42_a_row_renamed 24)) (Value.none) (Value.none) (Value.none) (Value.str ("law_bundlehouse_k42_a_row_renamed") 332) (none) (Value.ref 165) (Value.none)),#[]⟩) ::
 (nat_lit 167,{ cls:=Value.type "tuple",data:=Data.seq #[] }) ::
 (nat_lit 169,{ cls:=Value.type "tuple",data:=Data.seq #[Value.str ("_law_row_here") 441,Value.str ("_law_owns") 442,Value.str ("_law_names") 443,Value.str ("_law_kind") 444,Value.str ("_law_one") 445,Value.str ("_law_xs") 446,Value.str ("_law_when") 447,Value.str ("_law_terms") 448] }) ::
 (nat_lit 170,{ cls:=Value.type "tuple",data:=Data.seq #[] }) ::
 (nat_lit 172,{ cls:=Value.type "code",data:=Data.fields #[Value.str ("_law_row") 438,Value.str ("_law_row") 439,Value.str ("/claim/cut.py") 440,Value.int 177 0,Value.int 3 0,Value.int 0 0,Value.int 0 0,Value.int 3 0,Value.ref 167,Value.bool true,Value.int 181 0,Value.ref 168,Value.none,Value.ref 169,Value.ref 170,Value.ref 171,Value.int 449 0,Value.int 177 0,Value.str ("/claim/cut.py") 450] }) ::
 (nat_lit 173,⟨Value.type "function",none,.func (PySem.W.fnOf "_law_row" "_law_row" (HD.dA (HD.tp PySem.Challenge.pw_bundlehouse_k42_a_row_renamed 25)) (HD.dB (HD.tp PySem.Challenge.pw_bundlehouse_k42_a_row_renamed 25)) (HD.dS (HD.tp PySem.Challenge.pw_bundlehouse_k42_a_row_renamed 25)) (Value.none) (Value.none) (Value.none) (Value.str ("law_bundlehouse_k42_a_row_renamed") 332) (none) (Value.ref 172) (Value.none)),#[]⟩) ::
 (nat_lit 174,{ cls:=Value.type "tuple",data:=Data.seq #[] }) ::
 (nat_lit 177,{ cls:=Value.type "code",data:=Data.fields #[Value.str ("_law_owned") 452,Value.str ("_law_owned") 453,Value.str ("/claim/cut.py") 454,Value.int 196 0,Value.int 1 0,Value.int 0 0,Value.int 0 0,Value.int 3 0,Value.ref 174,Value.bool true,Value.int 181 0,Value.ref 175,Value.none,Value.none,Value.none,Value.ref 176,Value.int 455 0,Value.int 196 0,Value.str ("/claim/cut.py") 456] }) ::
 (nat_lit 178,⟨Value.type "function",none,.func (PySem.W.fnOf "_law_owned" "_law_owned" (HD.dA (HD.tp PySem.Challenge.pw_bundlehouse_k42_a_row_renamed 26)) (HD.dB (HD.tp PySem.Challenge.pw_bundlehouse_k42_a_row_renamed 26)) (HD.dS (HD.tp PySem.Challenge.pw_bundlehouse_k42_a_row_renamed 26)) (Value.none) (Value.none) (Value.none) (Value.str ("law_bundlehouse_k42_a_row_renamed") 332) (none) (Value.ref 177) (Value.none)),#[]⟩) ::
 (nat_lit 179,{ cls:=Value.type "tuple",data:=Data.seq #[] }) ::
 (nat_lit 182,{ cls:=Value.type "code",data:=Data.fields #[Value.str ("_law_finished") 458,Value.str ("_law_finished") 459,Value.str ("/claim/cut.py") 460,Value.int 202 0,Value.int 3 0,Value.int 0 0,Value.int 0 0,Value.int 3 0,Value.ref 179,Value.bool true,Value.int 181 0,Value.ref 180,Value.none,Value.none,Value.none,Value.ref 181,Value.int 461 0,Value.int 202 0,Value.str ("/claim/cut.py") 462] }) ::
 (nat_lit 183,⟨Value.type "function",none,.func (PySem.W.fnOf "_law_finished" "_law_finished" (HD.dA (HD.tp PySem.Challenge.pw_bundlehouse_k42_a_row_renamed 27)) (HD.dB (HD.tp PySem.Challenge.pw_bundlehouse_k42_a_row_renamed 27)) (HD.dS (HD.tp PySem.Challenge.pw_bundlehouse_k42_a_row_renamed 27)) (Value.none) (Value.none) (Value.none) (Value.str ("law_bundlehouse_k42_a_row_renamed") 332) (none) (Value.ref 182) (Value.none)),#[]⟩) ::
 (nat_lit 184,{ cls:=Value.type "tuple",data:=Data.seq #[] }) ::
 (nat_lit 186,{ cls:=Value.type "tuple",data:=Data.seq #[Value.str ("_law_script") 467,Value.str ("_law_first") 468,Value.str ("_law_own") 469,Value.str ("_law_other") 470] }) ::
 (nat_lit 187,{ cls:=Value.type "tuple",data:=Data.seq #[] }) ::
 (nat_lit 189,{ cls:=Value.type "code",data:=Data.fields #[Value.str ("_law_pools") 464,Value.str ("_law_pools") 465,Value.str ("/claim/cut.py") 466,Value.int 216 0,Value.int 1 0,Value.int 0 0,Value.int 0 0,Value.int 3 0,Value.ref 184,Value.bool true,Value.int 181 0,Value.ref 185,Value.none,Value.ref 186,Value.ref 187,Value.ref 188,Value.int 471 0,Value.int 216 0,Value.str ("/claim/cut.py") 472] }) ::
 (nat_lit 190,⟨Value.type "function",none,.func (PySem.W.fnOf "_law_pools" "_law_pools" (HD.dA (HD.tp PySem.Challenge.pw_bundlehouse_k42_a_row_renamed 28)) (HD.dB (HD.tp PySem.Challenge.pw_bundlehouse_k42_a_row_renamed 28)) (HD.dS (HD.tp PySem.Challenge.pw_bundlehouse_k42_a_row_renamed 28)) (Value.none) (Value.none) (Value.none) (Value.str ("law_bundlehouse_k42_a_row_renamed") 332) (none) (Value.ref 189) (Value.none)),#[]⟩) ::
 (nat_lit 191,{ cls:=Value.type "tuple",data:=Data.seq #[] }) ::
 (nat_lit 193,{ cls:=Value.type "tuple",data:=Data.seq #[Value.str ("_law_script") 477,Value.str ("_law_house") 478,Value.str ("_law_pools_here") 479,Value.str ("_law_k") 480] }) ::
 (nat_lit 194,{ cls:=Value.type "tuple",data:=Data.seq #[] }) ::
 (nat_lit 196,{ cls:=Value.type "code",data:=Data.fields #[Value.str ("_law_parts") 474,Value.str ("_law_parts") 475,Value.str ("/claim/cut.py") 476,Value.int 221 0,Value.int 1 0,Value.int 0 0,Value.int 0 0,Value.int 3 0,Value.ref 191,Value.bool true,Value.int 181 0,Value.ref 192,Value.none,Value.ref 193,Value.ref 194,Value.ref 195,Value.int 481 0,Value.int 221 0,Value.str ("/claim/cut.py") 482] }) ::
 (nat_lit 197,⟨Value.type "function",none,.func (PySem.W.fnOf "_law_parts" "_law_parts" (HD.dA (HD.tp PySem.Challenge.pw_bundlehouse_k42_a_row_renamed 29)) (HD.dB (HD.tp PySem.Challenge.pw_bundlehouse_k42_a_row_renamed 29)) (HD.dS (HD.tp PySem.Challenge.pw_bundlehouse_k42_a_row_renamed 29)) (Value.none) (Value.none) (Value.none) (Value.str ("law_bundlehouse_k42_a_row_renamed") 332) (none) (Value.ref 196) (Value.none)),#[]⟩) ::
 (nat_lit 198,{ cls:=Value.type "tuple",data:=Data.seq #[] }) ::
 (nat_lit 200,{ cls:=Value.type "tuple",data:=Data.seq #[Value.str ("_law_parts_here") 487,Value.str ("_law_made_here") 488,Value.str ("_law_name_here") 489,Value.str ("_law_rows") 490,Value.str ("_law_k") 491] }) ::
 (nat_lit 201,{ cls:=Value.type "tuple",data:=Data.seq #[] }) ::
 (nat_lit 203,{ cls:=Value.type "code",data:=Data.fields #[Value.str ("_law_made") 484,Value.str ("_law_made") 485,Value.str ("/claim/cut.py") 486,Value.int 227 0,Value.int 1 0,Value.int 0 0,Value.int 0 0,Value.int 3 0,Value.ref 198,Value.bool true,Value.int 181 0,Value.ref 199,Value.none,Value.ref 200,Value.ref 201,Value.ref 202,Value.int 492 0,Value.int 227 0,Value.str ("/claim/cut.py") 493] }) ::
 (nat_lit 204,⟨Value.type "function",none,.func (PySem.W.fnOf "_law_made" "_law_made" (HD.dA (HD.tp PySem.Challenge.pw_bundlehouse_k42_a_row_renamed 30)) (HD.dB (HD.tp PySem.Challenge.pw_bundlehouse_k42_a_row_renamed 30)) (HD.dS (HD.tp PySem.Challenge.pw_bundlehouse_k42_a_row_renamed 30)) (Value.none) (Value.none) (Value.none) (Value.str ("law_bundlehouse_k42_a_row_renamed") 332) (none) (Value.ref 203) (Value.none)),#[]⟩) ::
 (nat_lit 205,{ cls:=Value.type "tuple",data:=Data.seq #[] }) ::
 (nat_lit 207,{ cls:=Value.type "tuple",data:=Data.seq #[Value.str ("_law_parts_here") 498,Value.str ("_law_makers_here") 499,Value.str ("_law_given") 500,Value.str ("_law_steps") 501,Value.str ("_law_name_here") 502,Value.str ("_law_rows") 503,Value.str ("_law_row_here") 504,Value.str ("_law_handed") 505,Value.str ("_law_own") 506,Value.str ("_law_spot") 507,Value.str ("_law_last") 508] }) ::
 (nat_lit 208,{ cls:=Value.type "tuple",data:=Data.seq #[] }) ::
 (nat_lit 210,{ cls:=Value.type "code",data:=Data.fields #[Value.str ("_law_makers") 495,Value.str ("_law_makers") 496,Value.str ("/claim/cut.py") 497,Value.int 234 0,Value.int 1 0,Value.int 0 0,Value.int 0 0,Value.int 3 0,Value.ref 205,Value.bool true,Value.int 181 0,Value.ref 206,Value.none,Value.ref 207,Value.ref 208,Value.ref 209,Value.int 509 0,Value.int 234 0,Value.str ("/claim/cut.py") 510] }) ::
 (nat_lit 211,⟨Value.type "function",none,.func (PySem.W.fnOf "_law_makers" "_law_makers" (HD.dA (HD.tp PySem.Challenge.pw_bundlehouse_k42_a_row_renamed 31)) (HD.dB (HD.tp PySem.Challenge.pw_bundlehouse_k42_a_row_renamed 31)) (HD.dS (HD.tp PySem.Challenge.pw_bundlehouse_k42_a_row_renamed 31)) (Value.none) (Value.none) (Value.none) (Value.str ("law_bundlehouse_k42_a_row_renamed") 332) (none) (Value.ref 210) (Value.none)),#[]⟩) ::
 (nat_lit 212,{ cls:=Value.type "tuple",data:=Data.seq #[] }) ::
 (nat_lit 215,{ cls:=Value.type "code",data:=Data.fields #[Value.str ("_law_news") 512,Value.str ("_law_news") 513,Value.str ("/claim/cut.py") 514,Value.int 253 0,Value.int 1 0,Value.int 0 0,Value.int 0 0,Value.int 3 0,Value.ref 212,Value.bool true,Value.int 181 0,Value.ref 213,Value.none,Value.none,Value.none,Value.ref 214,Value.int 515 0,Value.int 253 0,Value.str ("/claim/cut.py") 516] }) ::
 (nat_lit 216,⟨Value.type "function",none,.func (PySem.W.fnOf "_law_news" "_law_news" (HD.dA (HD.tp PySem.Challenge.pw_bundlehouse_k42_a_row_renamed 32)) (HD.dB (HD.tp PySem.Challenge.pw_bundlehouse_k42_a_row_renamed 32)) (HD.dS (HD.tp PySem.Challenge.pw_bundlehouse_k42_a_row_renamed 32)) (Value.none) (Value.none) (Value.none) (Value.str ("law_bundlehouse_k42_a_row_renamed") 332) (none) (Value.ref 215) (Value.none)),#[]⟩) ::
 (nat_lit 217,{ cls:=Value.type "tuple",data:=Data.seq #[] }) ::
 (nat_lit 219,{ cls:=Value.type "tuple",data:=Data.seq #[Value.str ("_law_row_here") 521,Value.str ("_law_part") 522,Value.str ("_law_makers_here") 523,Value.str ("_law_news_here") 524,Value.str ("_law_when") 525,Value.str ("_law_terms") 526,Value.str ("_law_sign") 527,Value.str ("_law_thing") 528] }) ::
 (nat_lit 220,{ cls:=Value.type "tuple",data:=Data.seq #[] }) ::
 (nat_lit 222,{ cls:=Value.type "code",data:=Data.fields #[Value.str ("_law_changed") 518,Value.str ("_law_changed") 519,Value.str ("/claim/cut.py") 520,Value.int 268 0,Value.int 4 0,Value.int 0 0,Value.int 0 0,Value.int 3 0,Value.ref 217,Value.bool true,Value.int 181 0,Value.ref 218,Value.none,Value.ref 219,Value.ref 220,Value.ref 221,Value.int 529 0,Value.int 268 0,Value.str ("/claim/cut.py") 530] }) ::
 (nat_lit 223,⟨Value.type "function",none,.func (PySem.W.fnOf "_law_changed" "_law_changed" (HD.dA (HD.tp PySem.Challenge.pw_bundlehouse_k42_a_row_renamed 33)) (HD.dB (HD.tp PySem.Challenge.pw_bundlehouse_k42_a_row_renamed 33)) (HD.dS (HD.tp PySem.Challenge.pw_bundlehouse_k42_a_row_renamed 33)) (Value.none) (Value.none) (Value.none) (Value.str ("law_bundlehouse_k42_a_row_renamed") 332) (none) (Value.ref 222) (Value.none)),#[]⟩) ::
 (nat_lit 224,{ cls:=Value.type "tuple",data:=Data.seq #[] }) ::
 (nat_lit 226,{ cls:=Value.type "tuple",data:=Data.seq #[Value.str ("_law_found") 535,Value.str ("_law_due") 536,Value.str ("_law_one") 537,Value.str ("_law_other") 538] }) ::
 (nat_lit 227,{ cls:=Value.type "tuple",data:=Data.seq #[] }) ::
 (nat_lit 229,{ cls:=Value.type "code",data:=Data.fields #[Value.str ("_law_alike") 532,Value.str ("_law_alike") 533,Value.str ("/claim/cut.py") 534,Value.int 286 0,Value.int 2 0,Value.int 0 0,Value.int 0 0,Value.int 3 0,Value.ref 224,Value.bool true,Value.int 181 0,Value.ref 225,Value.none,Value.ref 226,Value.ref 227,Value.ref 228,Value.int 539 0,Value.int 286 0,Value.str ("/claim/cut.py") 540] }) ::
 (nat_lit 230,⟨Value.type "function",none,.func (PySem.W.fnOf "_law_alike" "_law_alike" (HD.dA (HD.tp PySem.Challenge.pw_bundlehouse_k42_a_row_renamed 34)) (HD.dB (HD.tp PySem.Challenge.pw_bundlehouse_k42_a_row_renamed 34)) (HD.dS (HD.tp PySem.Challenge.pw_bundlehouse_k42_a_row_renamed 34)) (Value.none) (Value.none) (Value.none) (Value.str ("law_bundlehouse_k42_a_row_renamed") 332) (none) (Value.ref 229) (Value.none)),#[]⟩) ::
 (nat_lit 231,{ cls:=Value.type "tuple",data:=Data.seq #[] }) ::
 (nat_lit 233,{ cls:=Value.type "tuple",data:=Data.seq #[Value.str ("_law_script") 545,Value.str ("_law_parts_here") 546,Value.str ("_law_makers_here") 547,Value.str ("_law_news_here") 548,Value.str ("_law_some") 549,Value.str ("_law_name_here") 550,Value.str ("_law_rows") 551,Value.str ("_law_k") 552,Value.str ("_law_step") 553,Value.str ("_law_row_here") 554] }) ::
 (nat_lit 234,{ cls:=Value.type "tuple",data:=Data.seq #[] }) ::
 (nat_lit 236,{ cls:=Value.type "code",data:=Data.fields #[Value.str ("law") 542,Value.str ("law") 543,Value.str ("/claim/cut.py") 544,Value.int 299 0,Value.int 1 0,Value.int 0 0,Value.int 0 0,Value.int 3 0,Value.ref 231,Value.bool true,Value.int 181 0,Value.ref 232,Value.none,Value.ref 233,Value.ref 234,Value.ref 235,Value.int 555 0,Value.int 299 0,Value.str ("/claim/cut.py") 556] }) ::
 (nat_lit 237,⟨Value.type "function",none,.func (PySem.W.fnOf "law" "law" (HD.dA (HD.tp PySem.Challenge.pw_bundlehouse_k42_a_row_renamed 35)) (HD.dB (HD.tp PySem.Challenge.pw_bundlehouse_k42_a_row_renamed 35)) (HD.dS (HD.tp PySem.Challenge.pw_bundlehouse_k42_a_row_renamed 35)) (Value.none) (Value.none) (Value.none) (Value.str ("law_bundlehouse_k42_a_row_renamed") 332) (none) (Value.ref 236) (Value.none)),#[]⟩) :: []
def heapA : List Addr:=[nat_lit 2,nat_lit 3,nat_lit 15,nat_lit 17,nat_lit 18,nat_lit 20,nat_lit 21,nat_lit 22,nat_lit 24,nat_lit 25,nat_lit 27,nat_lit 28,nat_lit 29,nat_lit 31,nat_lit 32,nat_lit 34,nat_lit 35,nat_lit 36,nat_lit 38,nat_lit 39,nat_lit 41,nat_lit 42,nat_lit 43,nat_lit 45,nat_lit 46,nat_lit 48,nat_lit 49,nat_lit 50,nat_lit 52,nat_lit 53,nat_lit 55,nat_lit 56,nat_lit 57,nat_lit 59,nat_lit 60,nat_lit 62,nat_lit 63,nat_lit 64,nat_lit 66,nat_lit 67,nat_lit 69,nat_lit 70,nat_lit 71,nat_lit 73,nat_lit 74,nat_lit 76,nat_lit 77,nat_lit 78,nat_lit 80,nat_lit 81,nat_lit 83,nat_lit 84,nat_lit 85,nat_lit 88,nat_lit 89,nat_lit 90,nat_lit 92,nat_lit 93,nat_lit 95,nat_lit 96,nat_lit 97,nat_lit 99,nat_lit 100,nat_lit 102,nat_lit 103,nat_lit 104,nat_lit 106,nat_lit 107,nat_lit 109,nat_lit 110,nat_lit 111,nat_lit 113,nat_lit 114,nat_lit 116,nat_lit 117,nat_lit 118,nat_lit 120,nat_lit 121,nat_lit 123,nat_lit 124,nat_lit 125,nat_lit 127,nat_lit 128,nat_lit 130,nat_lit 131,nat_lit 132,nat_lit 134,nat_lit 135,nat_lit 137,nat_lit 138,nat_lit 139,nat_lit 141,nat_lit 142,nat_lit 144,nat_lit 145,nat_lit 146,nat_lit 148,nat_lit 149,nat_lit 151,nat_lit 152,nat_lit 153,nat_lit 155,nat_lit 156,nat_lit 158,nat_lit 159,nat_lit 160,nat_lit 162,nat_lit 163,nat_lit 165,nat_lit 166,nat_lit 167,nat_lit 169,nat_lit 170,nat_lit 172,nat_lit 173,nat_lit 174,nat_lit 177,nat_lit 178,nat_lit 179,nat_lit 182,nat_lit 183,nat_lit 184,nat_lit 186,nat_lit 187,nat_lit 189,nat_lit 190,nat_lit 191,nat_lit 193,nat_lit 194,nat_lit 196,nat_lit 197,nat_lit 198,nat_lit 200,nat_lit 201,nat_lit 203,nat_lit 204,nat_lit 205,nat_lit 207,nat_lit 208,nat_lit 210,nat_lit 211,nat_lit 212,nat_lit 215,nat_lit 216,nat_lit 217,nat_lit 219,nat_lit 220,nat_lit 222,nat_lit 223,nat_lit 224,nat_lit 226,nat_lit 227,nat_lit 229,nat_lit 230,nat_lit 231,nat_lit 233,nat_lit 234,nat_lit 236,nat_lit 237]
theorem heapE : ∀ P,heapA = (heapK P).map (·.1):=fun _=>by kernel_rfl
theorem said : PySem.Challenge.rw_bundlehouse_k42_a_row_renamed.wellSaid = true:=by kernel_rfl
theorem run1 : ∀ w,((openEnds treeTable PySem.Challenge.rw_bundlehouse_k42_a_row_renamed.row.prog w 2346).map fun s=>(openSeen (HD.cutTo PySem.Challenge.rw_bundlehouse_k42_a_row_renamed.prog [1,2,3,4,5,7,8,9,10,11,12,13,14,16,17,18,19,20,21,22,23,24,25,26,27,28,29,30,31,32,33,34,35]) [] (importedModules PySem.Challenge.rw_bundlehouse_k42_a_row_renamed.row.prog.main.body) (fun s=>xlAt (HD.cutTo PySem.Challenge.rw_bundlehouse_k42_a_row_renamed.prog [1,2,3,4,5,7,8,9,10,11,12,13,14,16,17,18,19,20,21,22,23,24,25,26,27,28,29,30,31,32,33,34,35]) [] s && recOk (RowW.records PySem.Challenge.rw_bundlehouse_k42_a_row_renamed.row.toRowW) s) true s).1) = some (openGood (HD.cutTo PySem.Challenge.rw_bundlehouse_k42_a_row_renamed.prog [1,2,3,4,5,7,8,9,10,11,12,13,14,16,17,18,19,20,21,22,23,24,25,26,27,28,29,30,31,32,33,34,35]) []).1:=fun w=>by kernel_rfl
theorem run2 : ∀ w,((openEnds treeTable PySem.Challenge.rw_bundlehouse_k42_a_row_renamed.row.prog w 2346).map fun s=>((openSeen (HD.cutTo PySem.Challenge.rw_bundlehouse_k42_a_row_renamed.prog [1,2,3,4,5,7,8,9,10,11,12,13,14,16,17,18,19,20,21,22,23,24,25,26,27,28,29,30,31,32,33,34,35]) [] (importedModules PySem.Challenge.rw_bundlehouse_k42_a_row_renamed.row.prog.main.body) (fun s=>xlAt (HD.cutTo PySem.Challenge.rw_bundlehouse_k42_a_row_renamed.prog [1,2,3,4,5,7,8,9,10,11,12,13,14,16,17,18,19,20,21,22,23,24,25,26,27,28,29,30,31,32,33,34,35]) [] s && recOk (RowW.records PySem.Challenge.rw_bundlehouse_k42_a_row_renamed.row.toRowW) s) true s).2.1,(openSeen (HD.cutTo PySem.Challenge.rw_bundlehouse_k42_a_row_renamed.prog [1,2,3,4,5,7,8,9,10,11,12,13,14,16,17,18,19,20,21,22,23,24,25,26,27,28,29,30,31,32,33,34,35]) [] (importedModules PySem.Challenge.rw_bundlehouse_k42_a_row_renamed.row.prog.main.body) (fun s=>xlAt (HD.cutTo PySem.Challenge.rw_bundlehouse_k42_a_row_renamed.prog [1,2,3,4,5,7,8,9,10,11,12,13,14,16,17,18,19,20,21,22,23,24,25,26,27,28,29,30,31,32,33,34,35]) [] s && recOk (RowW.records PySem.Challenge.rw_bundlehouse_k42_a_row_renamed.row.toRowW) s) true s).2.2.1)) = some ((openGood (HD.cutTo PySem.Challenge.rw_bundlehouse_k42_a_row_renamed.prog [1,2,3,4,5,7,8,9,10,11,12,13,14,16,17,18,19,20,21,22,23,24,25,26,27,28,29,30,31,32,33,34,35]) []).2.1,(openGood (HD.cutTo PySem.Challenge.rw_bundlehouse_k42_a_row_renamed.prog [1,2,3,4,5,7,8,9,10,11,12,13,14,16,17,18,19,20,21,22,23,24,25,26,27,28,29,30,31,32,33,34,35]) []).2.2.1):=fun w=>by kernel_rfl
theorem run3 : ∀ w,((openEnds treeTable PySem.Challenge.rw_bundlehouse_k42_a_row_renamed.row.prog w 2346).map fun s=>(openSeen (HD.cutTo PySem.Challenge.rw_bundlehouse_k42_a_row_renamed.prog [1,2,3,4,5,7,8,9,10,11,12,13,14,16,17,18,19,20,21,22,23,24,25,26,27,28,29,30,31,32,33,34,35]) [] (importedModules PySem.Challenge.rw_bundlehouse_k42_a_row_renamed.row.prog.main.body) (fun s=>xlAt (HD.cutTo PySem.Challenge.rw_bundlehouse_k42_a_row_renamed.prog [1,2,3,4,5,7,8,9,10,11,12,13,14,16,17,18,19,20,21,22,23,24,25,26,27,28,29,30,31,32,33,34,35]) [] s && recOk (RowW.records PySem.Challenge.rw_bundlehouse_k42_a_row_renamed.row.toRowW) s) true s).2.2.2) = some (openGood (HD.cutTo PySem.Challenge.rw_bundlehouse_k42_a_row_renamed.prog [1,2,3,4,5,7,8,9,10,11,12,13,14,16,17,18,19,20,21,22,23,24,25,26,27,28,29,30,31,32,33,34,35]) []).2.2.2:=fun w=>by kernel_rfl
theorem run4 : ∀ w,((openEnds treeTable PySem.Challenge.rw_bundlehouse_k42_a_row_renamed.row.prog w 2346).map (kHook heapK heapA heapE).obs) = some ((kHook heapK heapA heapE).val w):=fun w=>by kernel_rfl
theorem top_run : LeftO PySem.Challenge.rw_bundlehouse_k42_a_row_renamed.row.prog (HD.cutTo PySem.Challenge.rw_bundlehouse_k42_a_row_renamed.prog [1,2,3,4,5,7,8,9,10,11,12,13,14,16,17,18,19,20,21,22,23,24,25,26,27,28,29,30,31,32,33,34,35]) [] (fun s=>xlAt (HD.cutTo PySem.Challenge.rw_bundlehouse_k42_a_row_renamed.prog [1,2,3,4,5,7,8,9,10,11,12,13,14,16,17,18,19,20,21,22,23,24,25,26,27,28,29,30,31,32,33,34,35]) [] s && recOk (RowW.records PySem.Challenge.rw_bundlehouse_k42_a_row_renamed.row.toRowW) s) (kHook heapK heapA heapE).obs (kHook heapK heapA heapE).val 2346:=HD.left_of run1 run2 run3 run4
end K42
set_option Elab.async false
set_option linter.all false
set_option maxRecDepth 100000
namespace L2
open PySem PySem.Spec PyProof.Rows
abbrev Key:=Sum Int Str
def keyIs : Key→Value→Bool
 | .inl k,v=>Value.isInt k v
 | .inr x,v=>Value.isStrOf x v
def keyH (w : World) : Key→Int
 | .inl k=>hashInt k
 | .inr x=>hashStr w x
theorem keyIs_shape : ∀ {k : Key} {v : Value},keyIs k v = true→(∃ i t,k = Sum.inl i∧v = Value.int i t)∨(∃ x t,k = Sum.inr x∧v = Value.str x t)
 | .inl i,v,h=>by
  obtain ⟨t,e⟩:=Value.isInt_shape (k:=i) (v:=v) h
  exact .inl ⟨i,t,rfl,e⟩
 | .inr x,v,h=>by
  obtain ⟨t,e⟩:=Value.isStrOf_shape (x:=x) (v:=v) h
  exact .inr ⟨x,t,rfl,e⟩
theorem keyIs_int (i : Int) (t : Tok) : keyIs (.inl i) (.int i t) = true:=by simp [keyIs,Value.isInt]
theorem keyIs_str (x : Str) (t : Tok) : keyIs (.inr x) (.str x t) = true:=by simp [keyIs,Value.isStrOf]
theorem key_ll (a b : Int) : decide ((Sum.inl a : Key) = Sum.inl b) = (a == b):=by
 by_cases e : a = b
 ·subst e; simp
 ·have h : ¬ (Sum.inl a : Key) = Sum.inl b:=fun q=>e (Sum.inl.inj q)
  rw [decide_eq_false h]
  exact (beq_eq_false_iff_ne.mpr e).symm
theorem key_rr (a b : Str) : decide ((Sum.inr a : Key) = Sum.inr b) = decide (a = b):=by
 by_cases e : a = b
 ·subst e; simp
 ·have h : ¬ (Sum.inr a : Key) = Sum.inr b:=fun q=>e (Sum.inr.inj q)
  rw [decide_eq_false h,decide_eq_false e]
theorem key_lr (a : Int) (b : Str) : decide ((Sum.inl a : Key) = Sum.inr b) = false:=decide_eq_false (fun q=>nomatch q)
theorem key_rl (a : Str) (b : Int) : decide ((Sum.inr a : Key) = Sum.inl b) = false:=decide_eq_false (fun q=>nomatch q)
def mixKind (prog : Program) (w : World) : PySem.KeyKind prog w Key where
 is:=keyIs
 hash:=keyH w
 inj:=fun v a b ha hb=>by
  rcases keyIs_shape ha with ⟨i,t,rfl,rfl⟩ | ⟨x,t,rfl,rfl⟩
  ·rcases keyIs_shape hb with ⟨j,u,rfl,e⟩ | ⟨y,u,rfl,e⟩
   ·injection e with e1 _; rw [e1]
   ·exact nomatch e
  ·rcases keyIs_shape hb with ⟨j,u,rfl,e⟩ | ⟨y,u,rfl,e⟩
   ·exact nomatch e
   ·injection e with e1 _; rw [e1]
 byValue:=fun k v h=>by
  rcases keyIs_shape h with ⟨i,t,rfl,rfl⟩ | ⟨x,t,rfl,rfl⟩ <;> rfl
 pyHash:=fun hv h=>by
  rcases keyIs_shape hv with ⟨i,t,rfl,rfl⟩ | ⟨x,t,rfl,rfl⟩
  ·exact wpAny_pyHash_int h
  ·exact wpAny_pyHash_str h
 eqBool:=fun hu hv h=>by
  rcases keyIs_shape hu with ⟨i,t,rfl,rfl⟩ | ⟨x,t,rfl,rfl⟩
  ·rcases keyIs_shape hv with ⟨j,u,rfl,rfl⟩ | ⟨y,u,rfl,rfl⟩
   ·rw [key_ll] at h; exact wpAny_eqBool_int h
   ·rw [key_lr] at h; exact SeqAt.EqAt.int_str i t y u _ _ _ _ h
  ·rcases keyIs_shape hv with ⟨j,u,rfl,rfl⟩ | ⟨y,u,rfl,rfl⟩
   ·rw [key_rl] at h; exact SeqAt.EqAt.str_int x t j u _ _ _ _ h
   ·rw [key_rr] at h; exact wpAny_eqBool_str h
 «strs» := fun k x t v h=>by
  rcases keyIs_shape h with ⟨i,u,rfl,e⟩ | ⟨y,u,rfl,e⟩
  ·exact nomatch e
  ·injection e with e1 _
   subst e1
   cases v <;> rfl
theorem mixKind_int (prog : Program) (w : World) (i : Int) (t : Tok) : (mixKind prog w).is (.inl i) (.int i t) = true:=keyIs_int i t
theorem mixKind_str (prog : Program) (w : World) (x : Str) (t : Tok) : (mixKind prog w).is (.inr x) (.str x t) = true:=keyIs_str x t
end L2
namespace L2
open PySem PySem.Spec PyProof.Rows
inductive V where
 | non | bl (b : Bool) | int (i : Int) | str (x : Str) | byt (b : Array UInt8) | flt (b : UInt64) | ref (a : Addr) | ty (n : String)
 deriving DecidableEq
def RelV : V→Value→Prop
 | .non,u=>u = Value.none
 | .bl b,u=>u = Value.bool b
 | .int i,u=>∃ t,u = Value.int i t
 | .str x,u=>∃ t,u = Value.str x t
 | .byt b,u=>∃ t,u = Value.bytes b t
 | .flt b,u=>∃ t,u = Value.float b t
 | .ref a,u=>u = Value.ref a
 | .ty n,u=>u = Value.type n
abbrev Vals : List V→List Value→Prop:=Paired RelV
theorem Vals.length {xs : List V} {us : List Value} (r : Vals xs us) : xs.length = us.length:=Paired.length r
theorem Vals.get : ∀ {xs : List V} {us : List Value} {i : Nat} {x : V},Vals xs us→xs[i]? = some x→∃ u,us[i]? = some u∧RelV x u
 | _,_,_,_,.nil,e=>by simp at e
 | _,_,0,_,.cons r _,e=>by simp at e; subst e; exact ⟨_,rfl,r⟩
 | _,_,i + 1,x,.cons _ t,e=>by
  obtain ⟨u,h1,h2⟩:=Vals.get (i:=i) (x:=x) t (by simpa using e)
  exact ⟨u,by simpa using h1,h2⟩
theorem Vals.append : ∀ {xs ys : List V} {us ws : List Value},Vals xs us→Vals ys ws→Vals (xs ++ ys) (us ++ ws)
 | _,_,_,_,.nil,s=>s
 | _,_,_,_,.cons r t,s=>.cons r (Vals.append t s)
theorem Vals.take : ∀ {xs : List V} {us : List Value} (n : Nat),Vals xs us→Vals (xs.take n) (us.take n)
 | _,_,0,_=>.nil
 | _,_,_ + 1,.nil=>.nil
 | _,_,n + 1,.cons r t=>.cons r (Vals.take n t)
theorem Vals.drop : ∀ {xs : List V} {us : List Value} (n : Nat),Vals xs us→Vals (xs.drop n) (us.drop n)
 | _,_,0,r=>r
 | _,_,_ + 1,.nil=>.nil
 | _,_,n + 1,.cons _ t=>Vals.drop n t
def RelO : Option V→Option Value→Prop
 | some v,some u=>RelV v u
 | none,none=>True
 | _,_=>False
def KV {κ : Type} : List (κ × V)→List (κ × Value)→Prop:=Paired fun (p : κ × V) (q : κ × Value)=>p.1 = q.1∧RelV p.2 q.2
def kV : Key→V
 | .inl i=>.int i
 | .inr x=>.str x
inductive HO where
 | lst (xs : List V)
 | tup (xs : List V)
 | dK (kvs : List (Key × V)) | dT (kvs : List (List Key × V))
 | set (S : Int→Bool) (n : Nat)
 | ins (C dx : Addr) (fs : List (Str × V))
 | own (x : Addr)
 | xd (fs : List (Str × V))
 | met (f x : Addr)
 | rng (lo hi : Int)
 | frz (o : Obj) (u : HO)
 | tbl (ps : Array Value)
 | ext (φ : Heap→Prop)
abbrev Hp:=Addr→Option HO
def upd (H : Hp) (a : Addr) (o : HO) : Hp:=fun b=>if b = a then some o else H b
theorem upd_same {H : Hp} {a : Addr} {o : HO} : upd H a o a = some o:=by unfold upd; rw [if_pos rfl]
theorem upd_ne {H : Hp} {a b : Addr} {o : HO} (h : b ≠ a) : upd H a o b = H b:=by unfold upd; rw [if_neg h]
theorem upd_upd {H : Hp} {a : Addr} {o u : HO} : upd (upd H a o) a u = upd H a u:=by
 funext b; unfold upd; split <;> rfl
theorem ne_of {H : Hp} {a b : Addr} {o u : HO} (h : H a = some o) (h' : H b = some u) (d : o ≠ u) : a ≠ b:=by
 intro e; subst e; rw [h] at h'; exact d (Option.some.inj h')
theorem ne_of_none {H : Hp} {a b : Addr} {o : HO} (h : H a = some o) (h' : H b = none) : a ≠ b:=by
 intro e; subst e; rw [h] at h'; cases h'
section
variable (P : Program) (w : World)
def ObjOk (H : Hp) (h : Heap) (a : Addr) : HO→Prop
 | .lst xs=>xs.length ≤ sizeLine∧∃ (its : List Value) (n : Nat),Vals xs its∧h.get? a = some { cls:=.type "list",data:=.seq its.toArray n }
 | .tup xs=>xs.length ≤ sizeLine∧∃ its : List Value,Vals xs its∧IsTup h a its.toArray
 | .dK kvs=>kvs.length ≤ sizeLine∧(a == sysModules) = false∧∃ vs,KV kvs vs∧h.DictOf (mixKind P w) a vs
 | .dT kvs=>kvs.length ≤ sizeLine∧(a == sysModules) = false∧∃ xs : List (List Key × Addr × Value),
   Paired (fun (p : List Key × V) (q : List Key × Addr × Value)=>p.1 = q.1∧H q.2.1 = some (.tup (p.1.map kV))∧RelV p.2 q.2.2) kvs xs ∧
   ∃ o es ep,h.get? a = some o∧o.ExactDict∧o.data = .dict es ep∧es.toList = xs.map (entryOfKey (tupleKind (mixKind P w)))∧(xs.map (·.1)).Nodup
 | .set S n=>h.SetOf (intKind P w) a S n
 | .ins C dx fs=>H dx = some (.own a)∧fs.length ≤ 1000∧dx ≠ a∧h.get? a = some (PySem.W.instObj C dx) ∧
   ∃ mA,h.Ns1 dx mA∧(∀ f,RelO (fs.lookup f) (mA f))∧PySem.Within mA (fs.map (·.1))
 | .own _=>∃ o,h.get? a = some o
 | .xd fs=>∃ mA,h.Ns1 a mA∧∀ f,RelO (fs.lookup f) (mA f)
 | .rng lo hi=>∃ t u v,h.get? a = some { cls:=.type "range",data:=.fields #[.int lo t,.int hi u,.int 1 v] }
 | .frz o u=>h.get? a = some o∧ObjOk H h a u
 | .tbl ps=>h.get? a = some { cls:=.none,data:=.fields ps }
 | .met f x=>h.get? a = some (PySem.W.methodObj (.ref f) (.ref x))
 | .ext φ=>φ h∧(∃ o,h.get? a = some o)∧∀ h1 h2 : Heap,φ h1→(∀ o,h1.get? a = some o→h2.get? a = some o)→φ h2
def HOk (H : Hp) (h : Heap) : Prop:=∀ a o,H a = some o→ObjOk P w H h a o
end
section
variable {P : Program} {w : World} {H H' : Hp} {h h' : Heap} {a : Addr} {o : HO}
theorem ObjOk.lt (x : ObjOk P w H h a o) : a < h.objs.size:=by
 cases o with
 | lst xs=>obtain ⟨_,_,_,_,e⟩:=x; exact Heap.lt_size e
 | tup xs=>obtain ⟨_,_,_,p⟩:=x; exact p.lt
 | dK kvs=>obtain ⟨_,_,_,_,o,_,_,e,_⟩:=x; exact Heap.lt_size e
 | dT kvs=>obtain ⟨_,_,_,_,o,_,_,e,_⟩:=x; exact Heap.lt_size e
 | set S n=>obtain ⟨o,_,_,_,e,_⟩:=x; exact Heap.lt_size e
 | ins C dx fs=>obtain ⟨_,_,_,e,_⟩:=x; exact Heap.lt_size e
 | own y=>obtain ⟨_,e⟩:=x; exact Heap.lt_size e
 | xd fs=>obtain ⟨_,⟨_,_,_,e,_⟩,_⟩:=x; exact Heap.lt_size e
 | rng lo hi=>obtain ⟨_,_,_,e⟩:=x; exact Heap.lt_size e
 | frz ob u=>obtain ⟨e,_⟩:=x; exact Heap.lt_size e
 | tbl ps=>exact Heap.lt_size (show h.get? a = some _ from x)
 | met f y=>exact Heap.lt_size (show h.get? a = some _ from x)
 | ext φ=>obtain ⟨_,⟨_,e⟩,_⟩:=x; exact Heap.lt_size e
theorem Paired.mapP {α β : Type} {F G : α→β→Prop} : ∀ {l₁ : List α} {l₂ : List β},Paired F l₁ l₂→(∀ a b,F a b→G a b)→Paired G l₁ l₂
 | _,_,.nil,_=>.nil
 | _,_,.cons r t,f=>.cons (f _ _ r) (Paired.mapP t f)
theorem ObjOk.stay (x : ObjOk P w H h a o) (k : ∀ b u,(b = a∨H b = some (.own a))→h.get? b = some u→h'.get? b = some u)
  (ho : ∀ b,H b = some (.own a)→H' b = some (.own a)) (ht : ∀ b xs,H b = some (.tup xs)→H' b = some (.tup xs)) : ObjOk P w H' h' a o:=by
 induction o with
 | lst xs=>obtain ⟨z,its,n,r,e⟩:=x; exact ⟨z,its,n,r,k _ _ (.inl rfl) e⟩
 | tup xs=>obtain ⟨z,its,r,ob,e,c⟩:=x; exact ⟨z,its,r,ob,k _ _ (.inl rfl) e,c⟩
 | dK kvs=>obtain ⟨z,y,vs,r,ob,es,ep,e,c⟩:=x; exact ⟨z,y,vs,r,ob,es,ep,k _ _ (.inl rfl) e,c⟩
 | dT kvs =>
  obtain ⟨z,y,xs,r,ob,es,ep,e,c⟩:=x
  exact ⟨z,y,xs,Paired.mapP r fun p q z=>⟨z.1,ht _ _ z.2.1,z.2.2⟩,ob,es,ep,k _ _ (.inl rfl) e,c⟩
 | set S n=>obtain ⟨ob,es,ep,t,e,c⟩:=x; exact ⟨ob,es,ep,t,k _ _ (.inl rfl) e,c⟩
 | ins C dx fs =>
  obtain ⟨d,z,ne,e,mA,⟨od,es,ep,e2,c⟩,r⟩:=x
  exact ⟨ho _ d,z,ne,k _ _ (.inl rfl) e,mA,⟨od,es,ep,k _ _ (.inr d) e2,c⟩,r⟩
 | own y=>obtain ⟨ob,e⟩:=x; exact ⟨ob,k _ _ (.inl rfl) e⟩
 | xd fs=>obtain ⟨mA,⟨od,es,ep,e,c⟩,r⟩:=x; exact ⟨mA,⟨od,es,ep,k _ _ (.inl rfl) e,c⟩,r⟩
 | rng lo hi=>obtain ⟨t,u,v,e⟩:=x; exact ⟨t,u,v,k _ _ (.inl rfl) e⟩
 | frz ob u ih=>obtain ⟨e,q⟩:=x; exact ⟨k _ _ (.inl rfl) e,ih q⟩
 | tbl ps =>
  have e : h.get? a = some { cls:=.none,data:=.fields ps }:=x
  show h'.get? a = some { cls:=.none,data:=.fields ps }
  exact k a _ (.inl rfl) e
 | met f y =>
  have e : h.get? a = some (PySem.W.methodObj (.ref f) (.ref y)):=x
  show h'.get? a = some (PySem.W.methodObj (.ref f) (.ref y))
  exact k a _ (.inl rfl) e
 | ext φ=>obtain ⟨p,⟨o,e⟩,st⟩:=x; exact ⟨st _ _ p fun o q=>k _ _ (.inl rfl) q,⟨o,k _ _ (.inl rfl) e⟩,st⟩
theorem HOk.lt (x : HOk P w H h) (e : H a = some o) : a < h.objs.size:=(x a o e).lt
theorem HOk.fresh (x : HOk P w H h) (e : h.objs.size ≤ a) : H a = none:=by
 cases q : H a with
 | none=>rfl
 | some u=>exact absurd (Nat.lt_of_lt_of_le (x.lt q) e) (Nat.lt_irrefl _)
theorem HOk.kept (x : HOk P w H h) (k : ∀ b u,h.get? b = some u→h'.get? b = some u) : HOk P w H h':=fun a o e =>
 (x a o e).stay (fun b u _ q=>k b u q) (fun _ q=>q) fun _ _ q=>q
theorem HOk.laid (x : HOk P w H h) (k : ∀ b u,h.get? b = some u→h'.get? b = some u) (hp : h.objs.size ≤ a) (new : ObjOk P w (upd H a o) h' a o) : HOk P w (upd H a o) h':=fun b u e=>by
 have hn:=x.fresh hp
 by_cases hb : b = a
 ·subst hb; rw [upd_same] at e; cases e; exact new
 ·rw [upd_ne hb] at e
  exact (x b u e).stay (fun c v _ q=>k c v q) (fun c q=>by rw [upd_ne (ne_of_none q hn)]; exact q) fun c xs q=>by rw [upd_ne (ne_of_none q hn)]; exact q
end
def Rd (H : Hp) (a : Addr) (u : HO) : Prop:=H a = some u∨∃ o,H a = some (.frz o u)
theorem Rd.ok {P : Program} {w : World} {H : Hp} {h : Heap} {a : Addr} {u : HO} (r : Rd H a u) (x : HOk P w H h) : ObjOk P w H h a u:=by
 rcases r with r | ⟨o,r⟩
 ·exact x a u r
 ·obtain ⟨_,q⟩:=x a _ r
  exact q
def Mut : Option HO→Prop
 | some (.lst _)=>True
 | some (.dK _)=>True
 | some (.dT _)=>True
 | some (.set _ _)=>True
 | some (.ins _ _ _)=>True
 | some (.ext _)=>True
 | _=>False
section
variable {P : Program} {w : World} {H : Hp} {h h' : Heap} {x e : Addr} {o' : HO}
theorem HOk.write (ok : HOk P w H h) (mu : Mut (H x)) (he : e = x∨H e = some (.own x)) (k : ∀ b u,b ≠ e→h.get? b = some u→h'.get? b = some u) (heo : ∃ u,h'.get? e = some u)
  (new : ObjOk P w (upd H x o') h' x o') : HOk P w (upd H x o') h':=fun b u q=>by
 have nown : ∀ c y,H c = some (.own y)→c ≠ x:=fun c y r z=>by subst z; rw [r] at mu; exact mu
 have ntup : ∀ c xs,H c = some (.tup xs)→c ≠ x:=fun c xs r z=>by subst z; rw [r] at mu; exact mu
 by_cases hb : b = x
 ·subst hb; rw [upd_same] at q; cases q; exact new
 ·rw [upd_ne hb] at q
  by_cases hbe : b = e
  ·have q' : H b = some (.own x):=by
    rcases he with z | z
    ·exact absurd (hbe.trans z) hb
    ·rw [hbe]; exact z
   rw [q] at q'; cases q'
   obtain ⟨v,hv⟩:=heo
   exact ⟨v,by rw [hbe]; exact hv⟩
  ·refine (ok b u q).stay (fun c v hc r=>k c v ?_ r) (fun c r=>by rw [upd_ne (nown c b r)]; exact r) fun c xs r=>by rw [upd_ne (ntup c xs r)]; exact r
   rcases hc with rfl | hc
   ·exact hbe
   ·rintro rfl
    rcases he with z | z
    ·exact nown c b hc z
    ·rw [hc] at z; cases z; exact hb rfl
end
structure Un (fs ex : List Addr) (H H' : Hp) (h h' : Heap) : Prop where
 keep : ∀ b o,h.get? b = some o→H b = none→b ∉ fs→b ∉ ex→h'.get? b = some o
 slot : ∀ b o,h.get? b = some o→H b = none→b ∈ fs→b ∉ ex→∃ sl,h'.get? b = some { o with slots:=sl }
 free : ∀ b o,h.get? b = some o→H b = none→b ∉ ex→H' b = none
 there : ∀ b o,h.get? b = some o→b ∉ ex→∃ o',h'.get? b = some o'
 tups : ∀ b xs,H b = some (.tup xs)→H' b = some (.tup xs)
 frzs : ∀ b o u,H b = some (.frz o u)→H' b = some (.frz o u)
 tbls : ∀ b ps,H b = some (.tbl ps)→∃ more,H' b = some (.tbl (ps ++ more))
section
variable {fs fs' ex ex' : List Addr} {H H1 H2 : Hp} {h h1 h2 h' : Heap} {a x e : Addr} {o : HO}
theorem Un.any (u : Un fs ex H H1 h h1) {b : Addr} {ob : Obj} (q : h.get? b = some ob) (n : H b = none) (hx : b ∉ ex) : ∃ sl,h1.get? b = some { ob with slots:=sl }:=by
 by_cases hb : b ∈ fs
 ·exact u.slot b ob q n hb hx
 ·exact ⟨ob.slots,u.keep b ob q n hb hx⟩
theorem Un.kept (k : ∀ b u,h.get? b = some u→h'.get? b = some u) : Un fs ex H H h h' :=
 ⟨fun b ob q _ _ _=>k b ob q,fun b ob q _ _ _=>⟨ob.slots,k b ob q⟩,fun _ _ _ n _=>n,fun b ob q _=>⟨ob,k b ob q⟩,fun _ _ q=>q,fun _ _ _ q=>q,fun _ ps q=>⟨#[],by rw [q]; simp⟩⟩
theorem Un.refl : Un fs ex H H h h:=Un.kept fun _ _ q=>q
theorem Un.laid (k : ∀ b u,h.get? b = some u→h'.get? b = some u) (hp : h.objs.size ≤ a) (hn : H a = none) : Un fs ex H (upd H a o) h h' where
 keep:=fun b u q _ _ _=>k b u q
 slot:=fun b u q _ _ _=>⟨u.slots,k b u q⟩
 free:=fun b u q n _=>by rw [upd_ne (Nat.ne_of_lt (Nat.lt_of_lt_of_le (Heap.lt_size q) hp))]; exact n
 there:=fun b u q _=>⟨u,k b u q⟩
 tups:=fun b xs q=>by rw [upd_ne (ne_of_none q hn)]; exact q
 frzs:=fun b u xs q=>by rw [upd_ne (ne_of_none q hn)]; exact q
 tbls:=fun b ps q=>⟨#[],by rw [upd_ne (ne_of_none q hn),q]; simp⟩
theorem Un.write (mu : Mut (H x)) (he : e = x∨H e = some (.own x)) (k : ∀ b u,b ≠ e→h.get? b = some u→h'.get? b = some u) (heo : ∃ u,h'.get? e = some u) : Un fs ex H (upd H x o) h h':=by
 have hx : ∀ b,H b = none→b ≠ x:=fun b n z=>by subst z; rw [n] at mu; exact mu
 have hb : ∀ b,H b = none→b ≠ e:=fun b n z=>by
  subst z
  rcases he with r | r
  ·exact hx b n r
  ·rw [n] at r; cases r
 have hm : ∀ b u,H b = some u→¬ Mut (some u)→b ≠ x:=fun b u q nm z=>by subst z; rw [q] at mu; exact nm mu
 refine ⟨fun b u q n _ _=>k b u (hb b n) q,fun b u q n _ _=>⟨u.slots,k b u (hb b n) q⟩,fun b u q n _=>by rw [upd_ne (hx b n)]; exact n,fun b u q _=>?_,
  fun b xs q=>by rw [upd_ne (hm b _ q fun z=>z)]; exact q,fun b u xs q=>by rw [upd_ne (hm b _ q fun z=>z)]; exact q,fun b ps q=>⟨#[],by rw [upd_ne (hm b _ q fun z=>z),q]; simp⟩⟩
 by_cases hbe : b = e
 ·subst hbe; exact heo
 ·exact ⟨u,k b u hbe q⟩
end
def trk (h : Heap) (H : Hp) : List Addr:=(List.range h.objs.size).filter fun a=>(H a).isSome
def hidT (h : Heap) (H : Hp) : Heap:=PySem.W.hideAll h (trk h H)
theorem hidT_size (h : Heap) (H : Hp) : (hidT h H).objs.size = h.objs.size:=PySem.W.hideAll_size _ _
theorem hidT_get {h : Heap} {H : Hp} {b : Addr} {o : Obj} (e : h.get? b = some o) (n : H b = none) : (hidT h H).get? b = some o :=
 PySem.W.hideAll_get _ e fun hm=>by
  have q : (H b).isSome = true:=(List.mem_filter.mp hm).2
  rw [n] at q; simp at q
theorem of_hidT {h : Heap} {H : Hp} {b : Addr} {o : Obj} (e : (hidT h H).get? b = some o) : h.get? b = some o∧H b = none:=by
 have e' : h.get? b = some o:=PySem.W.of_hideAll (trk h H) e
 refine ⟨e',?_⟩
 cases q : H b with
 | none=>rfl
 | some x =>
  have hm : b ∈ trk h H:=List.mem_filter.mpr ⟨List.mem_range.mpr (Heap.lt_size e'),by simp [q]⟩
  have z : (hidT h H).get? b = none:=PySem.W.hideAll_none (trk h H) hm
  rw [z] at e; cases e
end L2
namespace L2
open PySem PySem.Spec PyProof.Rows
structure Mod (K : PySem.W.Frag) (mg : Str→Option Value) (base : Heap) : Prop where
 kin : K.In base
 glob : base.Ns mainGlobals mg
 blt : ∃ mb,base.Ns builtinsNs mb∧∀ x : Str,x ≠ "__name__" → mb x = bootBuiltins x
 nolimit : base.NoLimit
structure Cx where
 prog : Program
 w : World
 K : PySem.W.Frag
 mg : Str→Option Value
 base : Heap
 A : Around
 N : List Str
 s₀ : Shared
 H₀ : Hp
 env : Env
 outer : List Env
 stack : List Env
 ex : List Addr
 fn : Str→Bool
 calm : Bool
 pn : List (Addr × Obj)
 xe : Value→Shared→Prop
def frs (l : List Env) : List Addr:=l.filterMap (·.frame)
abbrev Cx.fs (X : Cx) : List Addr:=frs X.outer
def Vis (sc : Scope) (x : Str) : Prop:=sc.names.lookup x = some .local∨sc.names.lookup x = some .cell∨sc.names.lookup x = some .free
def Loc (sc : Scope) (x : Str) : Prop:=sc.names.lookup x = some .local∨sc.names.lookup x = some .cell
def Look (env : Env) (h : Heap) (m : Str→Option Value) (x : Str) (u : Value) : Prop :=
 (env.kindOf x = some .local∧m x = some u)∨((env.kindOf x = some .cell∨env.kindOf x = some .free)∧∃ c,env.cells.lookup x = some c∧h.IsCell c (some u))
structure Cx.Ok (X : Cx) : Prop where
 mod : Mod X.K X.mg X.base
 kind : X.env.scope.kind = .function
 glob : X.env.globals = mainGlobals
 blt : X.env.builtins = builtinsNs
 above : X.s₀.heap.objs.size ≤ X.env.locals
 inj : ∀ x y c,X.env.cells.lookup x = some c→X.env.cells.lookup y = some c→x = y
 has : ∀ x,(X.env.kindOf x = some .cell∨X.env.kindOf x = some .free)→∃ c,X.env.cells.lookup x = some c
 cab : ∀ x c,X.fn x = true→X.env.cells.lookup x = some c→X.s₀.heap.objs.size ≤ c
 hd : X.calm = true→X.A.handled = none
 frames : X.A.frames = some X.stack
 stk : X.stack = X.outer∨(X.stack = X.env :: X.outer∧X.env.frame = some X.env.locals)
 exf : ∀ b ∈ X.ex,b ≠ X.env.locals∧∀ x c,X.env.cells.lookup x = some c→c ≠ b
 bs : ∀ b o,X.base.get? b = some o→X.s₀.heap.get? b = some o∧X.H₀ b = none
 bsz : X.base.objs.size ≤ X.s₀.heap.objs.size
 noex : ∀ b o,X.base.get? b = some o→b ∉ X.ex
 exfs : ∀ b ∈ X.ex,b ∉ X.fs
 funs : X.s₀.heap.FunFrames X.base X.outer
 frf : ∀ b ∈ X.fs,X.H₀ b = none
structure Inv (X : Cx) (pins : List (Addr × Obj)) (σ : List (Option V)) (H : Hp) (s : Shared) : Prop where
 ok : X.Ok
 os : s.os = X.s₀.os
 bare : AllBare s.gens
 base : Un X.fs X.ex X.H₀ H X.s₀.heap s.heap
 loc : ∃ m,s.heap.Ns X.env.locals m∧∀ (i : Nat) (x : Str) (v : V),X.N[i]? = some x→σ[i]? = some (some v)→Vis X.env.scope x→∃ u,RelV v u∧Look X.env s.heap m x u
 cell : ∀ x c,X.env.cells.lookup x = some c→∃ v,s.heap.IsCell c v
 free : H X.env.locals = none
 freeC : ∀ x c,X.env.cells.lookup x = some c→H c = none
 pin : ∀ p ∈ X.pn ++ pins,s.heap.get? p.1 = some p.2∧H p.1 = none∧p.1 ≠ X.env.locals∧p.1 ∉ X.fs∧∀ v,p.2.data ≠ .cell v
 hok : HOk X.prog X.w H s.heap
 len : σ.length = X.N.length
section
variable {X : Cx} {pins : List (Addr × Obj)} {σ : List (Option V)} {H H' : Hp} {s : Shared} {h' : Heap}
theorem Cx.Ok.nofr (ok : X.Ok) {b : Addr} {o : Obj} (e : X.base.get? b = some o) : b ∉ X.fs:=fun hb=>by
 have:=(ok.funs.mem hb).1
 rw [e] at this; cases this
theorem Inv.bs (I : Inv X pins σ H s) : ∀ b o,X.base.get? b = some o→s.heap.get? b = some o∧H b = none:=fun b o e =>
 ⟨I.base.keep b o (I.ok.bs b o e).1 (I.ok.bs b o e).2 (I.ok.nofr e) (I.ok.noex b o e),I.base.free b o (I.ok.bs b o e).1 (I.ok.bs b o e).2 (I.ok.noex b o e)⟩
theorem Inv.bk (I : Inv X pins σ H s) : ∀ b o,X.base.get? b = some o→s.heap.get? b = some o:=fun b o e=>(I.bs b o e).1
theorem Inv.mod (I : Inv X pins σ H s) : Mod X.K X.mg X.base:=I.ok.mod
theorem Inv.kIn (I : Inv X pins σ H s) : X.K.In s.heap:=I.ok.mod.kin.keeps I.bk
theorem Inv.lt (I : Inv X pins σ H s) : X.env.locals < s.heap.objs.size:=let ⟨_,hn,_⟩:=I.loc; hn.lt
theorem Inv.sz (I : Inv X pins σ H s) : X.s₀.heap.objs.size ≤ s.heap.objs.size:=Nat.le_trans I.ok.above (Nat.le_of_lt I.lt)
theorem Inv.nofs (I : Inv X pins σ H s) {a : Addr} (h : s.heap.objs.size ≤ a) : a ∉ X.fs:=fun hb=>by
 obtain ⟨_,o,ho,_⟩:=I.ok.funs.mem hb
 exact absurd (Nat.lt_of_lt_of_le (Heap.lt_size ho) (Nat.le_trans I.sz h)) (Nat.lt_irrefl _)
theorem Inv.cne (I : Inv X pins σ H s) : ∀ x c,X.env.cells.lookup x = some c→c ≠ X.env.locals:=fun x c e z=>by
 obtain ⟨v,o,ho,hd⟩:=I.cell x c e
 obtain ⟨m,⟨o',es,ep,ho',hd',_⟩,_⟩:=I.loc
 rw [z,ho'] at ho; cases ho; rw [hd'] at hd; cases hd
theorem Inv.funs (I : Inv X pins σ H s) : s.heap.FunFrames X.base X.outer:=by
 have all : ∀ (l : List Env),(∀ b ∈ frs l,b ∈ X.fs)→X.s₀.heap.FunFrames X.base l→s.heap.FunFrames X.base l:=by
  intro l
  induction l with
  | nil=>intro _ _; trivial
  | cons env r ih =>
   intro hs hl
   obtain ⟨hk,⟨L,o,hf,hn,ho,hd⟩,hr⟩:=hl
   have hL : L ∈ X.fs:=hs L (by unfold frs; rw [List.filterMap_cons,hf]; exact List.mem_cons_self)
   obtain ⟨sl,e⟩:=I.base.slot L o ho (I.ok.frf L hL) hL fun z=>I.ok.exfs L z hL
   exact ⟨hk,⟨L,_,hf,hn,e,hd⟩,ih (fun b hb=>hs b (by unfold frs; rw [List.filterMap_cons,hf]; exact List.mem_cons_of_mem _ hb)) hr⟩
 exact all X.outer (fun _ hb=>hb) I.ok.funs
theorem Inv.stack (I : Inv X pins σ H s) : s.heap.FunFrames X.base X.stack:=by
 rcases I.ok.stk with e | ⟨e,hf⟩
 ·rw [e]; exact I.funs
 ·rw [e]
  obtain ⟨m,hn,_⟩:=I.loc
  refine .cons (by rw [I.ok.kind]; decide) hf hn ?_ I.funs
  exact Heap.get?_none_of_le (Nat.le_trans I.ok.bsz I.ok.above)
theorem Inv.stkSub (I : Inv X pins σ H s) : ∀ b ∈ frs X.stack,b ∈ X.env.locals :: X.fs:=fun b hb=>by
 rcases I.ok.stk with e | ⟨e,hf⟩
 ·rw [e] at hb; exact List.mem_cons_of_mem _ hb
 ·rw [e] at hb
  unfold frs at hb
  rw [List.filterMap_cons,hf] at hb
  exact hb
theorem Inv.stkFree (I : Inv X pins σ H s) : ∀ b ∈ frs X.stack,H b = none:=fun b hb=>by
 rcases List.mem_cons.mp (I.stkSub b hb) with e | hb
 ·rw [e]; exact I.free
 ·obtain ⟨_,o,ho,_⟩:=I.ok.funs.mem hb
  exact I.base.free b o ho (I.ok.frf b hb) fun z=>I.ok.exfs b z hb
theorem Inv.step {g' : Array GenState} {t' : Nat} {d' : Drawn} {ch : List Addr} (I : Inv X pins σ H s)
  (hch : ∀ b ∈ ch,(b ∈ X.ex∨X.s₀.heap.objs.size ≤ b)∧b ≠ X.env.locals∧(∀ x c,X.env.cells.lookup x = some c→c ≠ b)∧∀ p ∈ X.pn ++ pins,p.1 ≠ b)
  (keep : ∀ b o,b ≠ X.env.locals→b ∉ X.fs→b ∉ ch→s.heap.get? b = some o→H b = none→h'.get? b = some o)
  (slot : ∀ b o,b ≠ X.env.locals→b ∈ X.fs→b ∉ ch→s.heap.get? b = some o→H b = none→∃ sl,h'.get? b = some { o with slots:=sl }) (free : ∀ b o,b ∉ ch→s.heap.get? b = some o→H b = none→H' b = none)
  (there : ∀ b o,b ∉ ch→s.heap.get? b = some o→∃ o',h'.get? b = some o')
  (tups : ∀ b xs,H b = some (.tup xs)→H' b = some (.tup xs)) (frzs : ∀ b o u,H b = some (.frz o u)→H' b = some (.frz o u)) (tbls : ∀ b ps,H b = some (.tbl ps)→∃ more,H' b = some (.tbl (ps ++ more)))
  (ns : ∀ m,s.heap.Ns X.env.locals m→h'.Ns X.env.locals m) (hok : HOk X.prog X.w H' h') (hg : AllBare g') :
  Inv X pins σ H' { s with heap:=h',gens:=g',drawn:=d',toks:=t' }:=by
 have neL : ∀ b o,X.s₀.heap.get? b = some o→b ≠ X.env.locals:=fun b o e=>Nat.ne_of_lt (Nat.lt_of_lt_of_le (Heap.lt_size e) I.ok.above)
 have neC : ∀ b o,X.s₀.heap.get? b = some o→b ∉ X.ex→b ∉ ch:=fun b o e hx hb=>by
  rcases (hch b hb).1 with z | z
  ·exact hx z
  ·exact absurd (Nat.lt_of_lt_of_le (Heap.lt_size e) z) (Nat.lt_irrefl _)
 have cellK : ∀ x c,X.env.cells.lookup x = some c→∀ v,s.heap.IsCell c v→h'.IsCell c v:=fun x c e v ⟨o,ho,hd⟩=>by
  have nch : c ∉ ch:=fun z=>(hch c z).2.2.1 x c e rfl
  by_cases hc : c ∈ X.fs
  ·obtain ⟨sl,q⟩:=slot c o (I.cne x c e) hc nch ho (I.freeC x c e)
   exact ⟨_,q,hd⟩
  ·exact ⟨o,keep c o (I.cne x c e) hc nch ho (I.freeC x c e),hd⟩
 refine ⟨I.ok,I.os,hg,⟨fun b o e n hb hx=>?_,fun b o e n hb hx=>?_,fun b o e n hx=>?_,fun b o e hx=>?_,fun b xs e=>tups b xs (I.base.tups b xs e),fun b o xs e=>frzs b o xs (I.base.frzs b o xs e),fun b ps e=>?_⟩,?_,fun x c e=>?_,?_,fun x c e=>?_,fun p hp=>?_,hok,I.len⟩
 ·exact keep b o (neL b o e) hb (neC b o e hx) (I.base.keep b o e n hb hx) (I.base.free b o e n hx)
 ·obtain ⟨sl,e1⟩:=I.base.slot b o e n hb hx
  obtain ⟨sl',e2⟩:=slot b _ (neL b o e) hb (neC b o e hx) e1 (I.base.free b o e n hx)
  exact ⟨sl',e2⟩
 ·obtain ⟨o',e1⟩:=I.base.there b o e hx
  exact free b o' (neC b o e hx) e1 (I.base.free b o e n hx)
 ·obtain ⟨o',e1⟩:=I.base.there b o e hx
  exact there b o' (neC b o e hx) e1
 ·obtain ⟨m1,e1⟩:=I.base.tbls b ps e
  obtain ⟨m2,e2⟩:=tbls b _ e1
  exact ⟨m1 ++ m2,by rw [e2,Array.append_assoc]⟩
 ·obtain ⟨m,hn,hl⟩:=I.loc
  refine ⟨m,ns m hn,fun i x v e1 e2 e3=>?_⟩
  obtain ⟨u,r,l⟩:=hl i x v e1 e2 e3
  refine ⟨u,r,?_⟩
  rcases l with l | ⟨k,c,e,z⟩
  ·exact .inl l
  ·exact .inr ⟨k,c,e,cellK x c e _ z⟩
 ·obtain ⟨v,z⟩:=I.cell x c e
  exact ⟨v,cellK x c e v z⟩
 ·obtain ⟨m,⟨o,_,_,ho,_⟩,_⟩:=I.loc
  exact free _ o (fun z=>(hch _ z).2.1 rfl) ho I.free
 ·obtain ⟨v,o,ho,hd⟩:=I.cell x c e
  exact free c o (fun z=>(hch c z).2.2.1 x c e rfl) ho (I.freeC x c e)
 ·obtain ⟨e,n,ne,nf,d⟩:=I.pin p hp
  have nch : p.1 ∉ ch:=fun z=>(hch p.1 z).2.2.2 p hp rfl
  exact ⟨keep p.1 p.2 ne nf nch e n,free p.1 p.2 nch e n,ne,nf,d⟩
theorem Inv.un {t' : Nat} (I : Inv X pins σ H s) (u : Un X.fs [] H H' s.heap h') (hok : HOk X.prog X.w H' h') : Inv X pins σ H' { s with heap:=h',toks:=t' }:=by
 obtain ⟨m,⟨o,es,ep,ho,r⟩,_⟩:=id I.loc
 obtain ⟨sl,hL⟩:=u.any ho I.free (by simp)
 exact I.step (g':=s.gens) (d':=s.drawn) (ch:=[]) (fun _ z=>nomatch z) (fun b o _ hb _ e n=>u.keep b o e n hb (by simp)) (fun b o _ hb _ e n=>u.slot b o e n hb (by simp)) (fun b o _ e n=>u.free b o e n (by simp)) (fun b o _ e=>u.there b o e (by simp)) u.tups u.frzs u.tbls (fun m' hm=>by
  obtain ⟨o',es',ep',ho',r'⟩:=hm
  rw [ho] at ho'; cases ho'
  exact ⟨_,es',ep',hL,r'⟩) hok I.bare
theorem Inv.call {g' : Array GenState} {t' : Nat} {d' : Drawn} {ch : List Addr} (I : Inv X pins σ H s) (u : Un (frs X.stack) ch H H' s.heap h') (hok : HOk X.prog X.w H' h') (hg : AllBare g')
  (hch : ∀ b ∈ ch,(b ∈ X.ex∨X.s₀.heap.objs.size ≤ b)∧b ≠ X.env.locals∧(∀ x c,X.env.cells.lookup x = some c→c ≠ b)∧∀ p ∈ X.pn ++ pins,p.1 ≠ b) :
  Inv X pins σ H' { s with heap:=h',gens:=g',drawn:=d',toks:=t' }:=by
 obtain ⟨m,⟨o,es,ep,ho,r⟩,_⟩:=id I.loc
 obtain ⟨sl,hL⟩:=u.any ho I.free fun z=>(hch _ z).2.1 rfl
 exact I.step (ch:=ch) hch (fun b o hL hb hc e n=>u.keep b o e n (fun z=>(List.mem_cons.mp (I.stkSub b z)).elim hL hb) hc) (fun b o _ _ hc e n=>u.any e n hc) (fun b o hc e n=>u.free b o e n hc) (fun b o hc e=>u.there b o e hc) u.tups u.frzs u.tbls (fun m' hm=>by
  obtain ⟨o',es',ep',ho',r'⟩:=hm
  rw [ho] at ho'; cases ho'
  exact ⟨_,es',ep',hL,r'⟩) hok hg
theorem Inv.turned {t' : Nat} {it : Addr} (I : Inv X pins σ H s) (k : ∀ b o,b ≠ it→s.heap.get? b = some o→h'.get? b = some o) (hn : H it = none) (hL : it ≠ X.env.locals)
  (h1 : it ∈ X.ex∨X.s₀.heap.objs.size ≤ it) (h2 : ∀ x c,X.env.cells.lookup x = some c→c ≠ it) (h3 : ∀ p ∈ X.pn ++ pins,p.1 ≠ it) : Inv X pins σ H { s with heap:=h',toks:=t' }:=by
 have nit : ∀ b u,H b = some u→b ≠ it:=fun b u e z=>by rw [z,hn] at e; cases e
 refine I.step (g':=s.gens) (d':=s.drawn) (ch:=[it]) (fun b hb=>?_) (fun b o _ _ hc e _=>k b o (fun z=>hc (by simp [z])) e) (fun b o _ _ hc e _=>⟨o.slots,k b o (fun z=>hc (by simp [z])) e⟩) (fun _ _ _ _ n=>n)
  (fun b o hc e=>⟨o,k b o (fun z=>hc (by simp [z])) e⟩) (fun _ _ e=>e) (fun _ _ _ e=>e) (fun b ps e=>⟨#[],by rw [e]; simp⟩) (fun m hm=>?_) (fun b u e=>?_) I.bare
 ·have e : b = it:=by simpa using hb
  subst e
  exact ⟨h1,hL,h2,h3⟩
 ·obtain ⟨o,es,ep,ho,r⟩:=hm
  exact ⟨o,es,ep,k _ o (Ne.symm hL) ho,r⟩
 ·refine (I.hok b u e).stay (fun c v hc q=>k c v ?_ q) (fun _ q=>q) fun _ _ q=>q
  rcases hc with z | z
  ·rw [z]; exact nit b u e
  ·exact nit c _ z
theorem Inv.tok (I : Inv X pins σ H s) (t : Nat) : Inv X pins σ H { s with toks:=t }:=I.un (h':=s.heap) (t':=t) Un.refl I.hok
theorem Inv.kept {t' : Nat} (I : Inv X pins σ H s) (k : ∀ b u,s.heap.get? b = some u→h'.get? b = some u) : Inv X pins σ H { s with heap:=h',toks:=t' }:=I.un (Un.kept k) (I.hok.kept k)
theorem Inv.laid {a : Addr} {o : HO} {t' : Nat} (I : Inv X pins σ H s) (k : ∀ b u,s.heap.get? b = some u→h'.get? b = some u) (hp : s.heap.objs.size ≤ a) (new : ObjOk X.prog X.w (upd H a o) h' a o) :
  Inv X pins σ (upd H a o) { s with heap:=h',toks:=t' }:=I.un (Un.laid k hp (I.hok.fresh hp)) (I.hok.laid k hp new)
theorem Inv.write {x e : Addr} {o : HO} {t' : Nat} (I : Inv X pins σ H s) (mu : Mut (H x)) (he : e = x∨H e = some (.own x)) (k : ∀ b u,b ≠ e→s.heap.get? b = some u→h'.get? b = some u) (heo : ∃ u,h'.get? e = some u)
  (new : ObjOk X.prog X.w (upd H x o) h' x o) : Inv X pins σ (upd H x o) { s with heap:=h',toks:=t' }:=I.un (Un.write mu he k heo) (I.hok.write mu he k heo new)
theorem Inv.pins_of {pins' : List (Addr × Obj)} (I : Inv X pins σ H s) (h : ∀ p ∈ pins',s.heap.get? p.1 = some p.2∧H p.1 = none∧p.1 ≠ X.env.locals∧p.1 ∉ X.fs∧∀ v,p.2.data ≠ .cell v) : Inv X pins' σ H s :=
 ⟨I.ok,I.os,I.bare,I.base,I.loc,I.cell,I.free,I.freeC,fun p hp=>(List.mem_append.mp hp).elim (fun z=>I.pin p (List.mem_append_left _ z)) (h p),I.hok,I.len⟩
theorem nodup_ix {N : List Str} (hN : N.Nodup) {i j : Nat} {x : Str} (a : N[i]? = some x) (b : N[j]? = some x) : i = j:=by
 obtain ⟨h1,e1⟩:=List.getElem?_eq_some_iff.mp a
 obtain ⟨h2,e2⟩:=List.getElem?_eq_some_iff.mp b
 exact (List.getElem_inj hN).mp (e1.trans e2.symm)
theorem store_ok2 {M : Model} {A : Around} {E : Value→Shared→Prop} {i : Nat} {x : Str} {v : V} {u : Value} {Q : Unit→Shared→Prop} (I : Inv X pins σ H s) (hN : X.N.Nodup) (hi : X.N[i]? = some x) (hx : Loc X.env.scope x) (r : RelV v u)
  (h : ∀ s',Inv X pins (σ.set i (some v)) H s'→(∃ a,Heap.SameBut a s.heap s'.heap∧(a = X.env.locals∨X.env.cells.lookup x = some a))→Q () s') (hf : X.fn x = true∨X.env.scope.names.lookup x = some .local:=by first | exact .inl rfl | exact .inr rfl | assumption) : wpAny M A (storeName X.env x u) Q E s:=by
 obtain ⟨m,hn,hl⟩:=id I.loc
 have hcls : (X.env.scope.kind == .class || (X.env.scope.kind == .module && X.env.locals != X.env.globals)) = false:=by rw [I.ok.kind]; rfl
 have hiσ : i < σ.length:=by rw [I.len]; exact (List.getElem?_eq_some_iff.mp hi).1
 have cne:=I.cne
 have tracked : ∀ {a : Addr} {h' : Heap},(∃ o,s.heap.get? a = some o∧H a = none)→Heap.SameBut a s.heap h'→HOk X.prog X.w H h':=fun {a h'} ha hs b ob e=>by
  obtain ⟨_,_,hfree⟩:=ha
  refine (I.hok b ob e).stay (fun c w' hc q=>(hs.2 c ?_).trans q) (fun _ q=>q) fun _ _ q=>q
  rintro rfl
  rcases hc with rfl | hc
  ·rw [hfree] at e; cases e
  ·rw [hfree] at hc; cases hc
 rcases hx with hk | hk
 ·refine wpAny_storeName_local hk hn (fun h' hn' hs=>?_) hcls
  obtain ⟨oL,_,_,hoL,_⟩:=id hn
  refine h _ ⟨I.ok,I.os,I.bare,⟨fun b o e n hb hx=>?_,fun b o e n hb hx=>?_,I.base.free,fun b o e hx=>?_,I.base.tups,I.base.frzs,I.base.tbls⟩,⟨_,hn',fun j y v' e1 e2 e3=>?_⟩,fun y c e=>?_,I.free,I.freeC,fun p hp=>?_,tracked ⟨oL,hoL,I.free⟩ hs,by simpa using I.len⟩ ⟨_,hs,.inl rfl⟩
  ·exact (hs.2 b (Nat.ne_of_lt (Nat.lt_of_lt_of_le (Heap.lt_size e) I.ok.above))).trans (I.base.keep b o e n hb hx)
  ·obtain ⟨sl,e1⟩:=I.base.slot b o e n hb hx
   exact ⟨sl,(hs.2 b (Nat.ne_of_lt (Nat.lt_of_lt_of_le (Heap.lt_size e) I.ok.above))).trans e1⟩
  ·obtain ⟨o',e1⟩:=I.base.there b o e hx
   exact ⟨o',(hs.2 b (Nat.ne_of_lt (Nat.lt_of_lt_of_le (Heap.lt_size e) I.ok.above))).trans e1⟩
  ·by_cases hj : j = i
   ·subst hj
    rw [hi] at e1; cases e1
    rw [List.getElem?_set_self hiσ] at e2
    cases e2
    exact ⟨u,r,.inl ⟨hk,by simp⟩⟩
   ·rw [List.getElem?_set_ne (Ne.symm hj)] at e2
    obtain ⟨u',r',q⟩:=hl j y v' e1 e2 e3
    refine ⟨u',r',?_⟩
    rcases q with ⟨k,e⟩ | ⟨k,c,e,z⟩
    ·refine .inl ⟨k,?_⟩
     have : y ≠ x:=fun e=>hj (nodup_ix hN e1 (e ▸ hi))
     simp [this,e]
    ·exact .inr ⟨k,c,e,z.sameBut hs (cne y c e)⟩
  ·obtain ⟨w',z⟩:=I.cell y c e
   exact ⟨w',z.sameBut hs (cne y c e)⟩
  ·obtain ⟨e,n,ne,nf,d⟩:=I.pin p hp
   exact ⟨(hs.2 p.1 ne).trans e,n,ne,nf,d⟩
 ·have hfn : X.fn x = true:=by
   rcases hf with z | z
   ·exact z
   ·rw [z] at hk; cases hk
  obtain ⟨c,hc⟩:=I.ok.has x (.inl hk)
  obtain ⟨w',z⟩:=I.cell x c hc
  refine wpAny_storeName_cell I.ok.kind hk hc z (fun h' hc' hs=>?_)
  obtain ⟨oc,hoc,hocd⟩:=id z
  refine h { s with heap:=h' } ⟨I.ok,I.os,I.bare,⟨fun b o e n hb hx=>?_,fun b o e n hb hx=>?_,I.base.free,fun b o e hx=>?_,I.base.tups,I.base.frzs,I.base.tbls⟩,⟨m,hn.sameBut hs (Ne.symm (cne x c hc)),fun j y v' e1 e2 e3=>?_⟩,fun y c' e=>?_,I.free,I.freeC,fun p hp=>?_,tracked ⟨oc,hoc,I.freeC x c hc⟩ hs,by simpa using I.len⟩ ⟨c,hs,.inr hc⟩
  ·exact (hs.2 b (Nat.ne_of_lt (Nat.lt_of_lt_of_le (Heap.lt_size e) (I.ok.cab x c hfn hc)))).trans (I.base.keep b o e n hb hx)
  ·obtain ⟨sl,e1⟩:=I.base.slot b o e n hb hx
   exact ⟨sl,(hs.2 b (Nat.ne_of_lt (Nat.lt_of_lt_of_le (Heap.lt_size e) (I.ok.cab x c hfn hc)))).trans e1⟩
  ·obtain ⟨o',e1⟩:=I.base.there b o e hx
   exact ⟨o',(hs.2 b (Nat.ne_of_lt (Nat.lt_of_lt_of_le (Heap.lt_size e) (I.ok.cab x c hfn hc)))).trans e1⟩
  ·by_cases hj : j = i
   ·subst hj
    rw [hi] at e1; cases e1
    rw [List.getElem?_set_self hiσ] at e2
    cases e2
    exact ⟨u,r,.inr ⟨.inl hk,c,hc,hc'⟩⟩
   ·rw [List.getElem?_set_ne (Ne.symm hj)] at e2
    obtain ⟨u',r',q⟩:=hl j y v' e1 e2 e3
    refine ⟨u',r',?_⟩
    rcases q with q | ⟨k,c',e,z'⟩
    ·exact .inl q
    ·refine .inr ⟨k,c',e,z'.sameBut hs ?_⟩
     rintro rfl
     exact hj (nodup_ix hN e1 (I.ok.inj _ _ _ e hc ▸ hi))
  ·by_cases hcc : c' = c
   ·subst hcc; exact ⟨_,hc'⟩
   ·obtain ⟨w2,z2⟩:=I.cell y c' e
    exact ⟨w2,z2.sameBut hs hcc⟩
  ·obtain ⟨e,n,ne,nf,d⟩:=I.pin p hp
   refine ⟨(hs.2 p.1 ?_).trans e,n,ne,nf,d⟩
   intro q
   rw [q,hoc] at e
   have q' : oc = p.2:=Option.some.inj e
   exact d w' (by rw [← q']; exact hocd)
theorem store_ok {M : Model} {A : Around} {E : Value→Shared→Prop} {i : Nat} {x : Str} {v : V} {u : Value} {Q : Unit→Shared→Prop} (I : Inv X pins σ H s) (hN : X.N.Nodup) (hi : X.N[i]? = some x) (hx : Loc X.env.scope x) (r : RelV v u)
  (h : ∀ s',Inv X pins (σ.set i (some v)) H s'→Q () s') (hf : X.fn x = true∨X.env.scope.names.lookup x = some .local:=by first | exact .inl rfl | exact .inr rfl | assumption) : wpAny M A (storeName X.env x u) Q E s :=
 store_ok2 I hN hi hx r (fun s' I' _=>h s' I') hf
theorem Inv.call' {s' : Shared} {ch : List Addr} (I : Inv X pins σ H s) (ho : s'.os = s.os) (u : Un (frs X.stack) ch H H' s.heap s'.heap) (hok : HOk X.prog X.w H' s'.heap) (hg : AllBare s'.gens)
  (hch : ∀ b ∈ ch,(b ∈ X.ex∨X.s₀.heap.objs.size ≤ b)∧b ≠ X.env.locals∧(∀ x c,X.env.cells.lookup x = some c→c ≠ b)∧∀ p ∈ X.pn ++ pins,p.1 ≠ b) : Inv X pins σ H' s':=by
 obtain ⟨h',g',d',t',o'⟩:=s'
 have e : o' = s.os:=ho
 subst e
 exact I.call (g':=g') (t':=t') (d':=d') u hok hg hch
end
abbrev XK:=Value→Option Addr→Hp→Prop
abbrev St:=List (Option V)
abbrev VK:=V→Hp→Prop
abbrev TE:=St→Hp→VK→Prop
abbrev TT:=St→Hp→(Bool→Hp→Prop)→Prop
abbrev TA:=St→Hp→(List V→Hp→Prop)→Prop
structure Ends where
 nx : St→Hp→Prop
 rt : VK
 bk : St→Hp→Prop:=fun _ _=>False
 ct : St→Hp→Prop:=fun _ _=>False
abbrev TS:=Ends→St→Hp→Prop
def EP (X : Cx) (pins : List (Addr × Obj)) (σ : St) (Q : VK) (u : Value) (s' : Shared) : Prop:=∃ v H',Inv X pins σ H' s'∧RelV v u∧Q v H'
def TP (X : Cx) (pins : List (Addr × Obj)) (σ : St) (Q : Bool→Hp→Prop) (b : Bool) (s' : Shared) : Prop:=∃ H',Inv X pins σ H' s'∧Q b H'
def AP (X : Cx) (pins : List (Addr × Obj)) (σ : St) (Q : List V→Hp→Prop) (us : List Value) (s' : Shared) : Prop:=∃ vs H',Inv X pins σ H' s'∧Vals vs us∧Q vs H'
def SP (X : Cx) (pins : List (Addr × Obj)) (D : Ends) (f : Flow) (s' : Shared) : Prop :=
 match f with
 | .next=>∃ σ' H',Inv X pins σ' H' s'∧D.nx σ' H'
 | .brk=>∃ σ' H',Inv X pins σ' H' s'∧D.bk σ' H'
 | .cont=>∃ σ' H',Inv X pins σ' H' s'∧D.ct σ' H'
 | .ret u=>∃ v σ' H',Inv X pins σ' H' s'∧RelV v u∧D.rt v H'
def PE (X : Cx) (e : Expr) (t : TE) : Prop :=
 ∀ (pins : List (Addr × Obj)) (s : Shared) (σ : St) (H : Hp) (Q : VK),Inv X pins σ H s→t σ H Q→wpAny (model X.prog X.w) X.A (eval e X.env) (EP X pins σ Q) X.xe s
def PT (X : Cx) (e : Expr) (t : TT) : Prop :=
 ∀ (pins : List (Addr × Obj)) (s : Shared) (σ : St) (H : Hp) (Q : Bool→Hp→Prop),Inv X pins σ H s→t σ H Q→wpAny (model X.prog X.w) X.A (isTrue e X.env (eval e X.env)) (TP X pins σ Q) X.xe s
def PW (X : Cx) (e : Expr) (t : TT) : Prop :=
 ∀ (whole : Sem Value) (pins : List (Addr × Obj)) (s : Shared) (σ : St) (H : Hp) (Q : Bool→Hp→Prop),Inv X pins σ H s→t σ H Q→wpAny (model X.prog X.w) X.A (isTrue e X.env whole) (TP X pins σ Q) X.xe s
theorem PW.pt {X : Cx} {e : Expr} {t : TT} (h : PW X e t) : PT X e t:=h _
def PA (X : Cx) (es : List Expr) (t : TA) : Prop :=
 ∀ (pos : Pos) (pins : List (Addr × Obj)) (s : Shared) (σ : St) (H : Hp) (Q : List V→Hp→Prop),Inv X pins σ H s→t σ H Q→wpAny (model X.prog X.w) X.A (spliced (backTo pos (starEach es X.env))) (AP X pins σ Q) X.xe s
def PS (X : Cx) (st : Stmt) (t : TS) : Prop :=
 ∀ (pins : List (Addr × Obj)) (s : Shared) (σ : St) (H : Hp) (D : Ends),Inv X pins σ H s→t D σ H→wpAny (model X.prog X.w) X.A (exec st X.env) (SP X pins D) X.xe s
def PSs (X : Cx) (st : List Stmt) (t : TS) : Prop :=
 ∀ (pins : List (Addr × Obj)) (s : Shared) (σ : St) (H : Hp) (D : Ends),Inv X pins σ H s→t D σ H→wpAny (model X.prog X.w) X.A (execs st X.env) (SP X pins D) X.xe s
theorem thn {α : Type} {t : Sem α} {Q Q' : α→Shared→Prop} {M : Model} {A : Around} {E : Value→Shared→Prop} {s : Shared} (h : wpAny M A t Q E s) (hQ : ∀ a s,Q a s→Q' a s) : wpAny M A t Q' E s:=wpAny_mono h hQ fun _ _ x=>x
end L2
namespace L2
open PySem PySem.Spec PyProof.Rows
section
variable {X : Cx}
def tVar (i : Nat) : TE:=fun σ H Q=>∃ v,σ[i]? = some (some v)∧Q v H
def tC (v : V) : TE:=fun _ H Q=>Q v H
theorem pe_var {i : Nat} {x : Str} {pos : Pos} (hN : X.N[i]? = some x) (hv : Vis X.env.scope x) (hd : (x == ("__debug__" : Str)) = false:=by decide) (hcd : (x == ("__classdict__" : Str)) = false:=by decide) : PE X (.Name x pos) (tVar i):=by
 intro pins s σ H Q I h
 obtain ⟨v,e,h⟩:=h
 obtain ⟨m,hn,hl⟩:=I.loc
 obtain ⟨u,r,l⟩:=hl i x v hN e hv
 have fin : EP X pins σ Q u s:=⟨v,H,I,r,h⟩
 rcases l with ⟨hk,hm⟩ | ⟨hk,c,hc,hcell⟩
 ·exact wpAny_Name (wpAny_loadName_local I.ok.kind hk hn hm fin) hd
 ·rcases hk with hk | hk
  ·exact wpAny_Name (wpAny_loadName_cell I.ok.kind hk hc hcell fin) hd
  ·exact wpAny_Name (wpAny_loadName_free I.ok.kind hk hc hcell fin hcd) hd
theorem pe_int {i j pos} : PE X (.Constant (.int i) j pos) (tC (.int i)):=fun _ _ _ H _ I h=>wpAny_Constant_int ⟨.int i,H,I.tok _,⟨_,rfl⟩,h⟩
theorem pe_bl {b j pos} : PE X (.Constant (.bool b) j pos) (tC (.bl b)):=fun _ _ _ H _ I h=>Constant_bool ⟨.bl b,H,I,rfl,h⟩
theorem pe_non {j pos} : PE X (.Constant .none j pos) (tC .non):=fun _ _ _ H _ I h=>Constant_none ⟨.non,H,I,rfl,h⟩
theorem pe_str {x j pos} : PE X (.Constant (.str x) j pos) (tC (.str x)):=fun _ _ _ H _ I h=>Calls.Constant_str ⟨.str x,H,I.tok _,⟨_,rfl⟩,h⟩
def Gl (X : Cx) (x : Str) : Prop:=X.env.kindOf x = some .globalImplicit
theorem ld_glob {E : Value→Shared→Prop} {pins : List (Addr × Obj)} {s : Shared} {σ : St} {H : Hp} {x : Str} {u : Value} {pos : Pos} {Q : Value→Shared→Prop} (I : Inv X pins σ H s) (hg : Gl X x) (hm : X.mg x = some u) (h : Q u s)
  (hd : (x == ("__debug__" : Str)) = false:=by decide) : wpAny (model X.prog X.w) X.A (eval (.Name x pos) X.env) Q E s :=
 Calls.Name_function_global I.ok.kind hg (Calls.loadGlobal_global (by rw [I.ok.glob]; exact I.mod.glob.keeps I.bk) hm h) hd
theorem ld_blt {E : Value→Shared→Prop} {pins : List (Addr × Obj)} {s : Shared} {σ : St} {H : Hp} {x : Str} {u : Value} {pos : Pos} {Q : Value→Shared→Prop} (I : Inv X pins σ H s) (hg : Gl X x) (hm : X.mg x = none) (hv : bootBuiltins x = some u) (h : Q u s)
  (hn : x ≠ "__name__" := by decide) (hd : (x == ("__debug__" : Str)) = false:=by decide) : wpAny (model X.prog X.w) X.A (eval (.Name x pos) X.env) Q E s:=by
 obtain ⟨mb,h1,h2⟩:=I.mod.blt
 exact Calls.Name_function_global I.ok.kind hg (Calls.loadGlobal_builtin (by rw [I.ok.glob]; exact I.mod.glob.keeps I.bk) hm (by rw [I.ok.blt]; exact h1.keeps I.bk) ((h2 x hn).trans hv) h) hd
theorem pe_bltn {x : Str} {v : V} {u : Value} {pos : Pos} (hg : Gl X x) (hm : X.mg x = none) (hv : bootBuiltins x = some u) (r : RelV v u) (hn : x ≠ "__name__" := by decide) (hd : (x == ("__debug__" : Str)) = false:=by decide) : PE X (.Name x pos) (tC v) :=
 fun _ _ _ H _ I h=>ld_blt I hg hm hv ⟨v,H,I,r,h⟩ hn hd
variable {a b : Expr} {ta tb : TE} {pos : Pos}
def PC (X : Cx) (op : CmpOp) (a b : Expr) (t : TE) : Prop :=
 ∀ (pins : List (Addr × Obj)) (s : Shared) (σ : St) (H : Hp) (Q : VK),Inv X pins σ H s→t σ H Q →
  wpAny (model X.prog X.w) X.A (eval a X.env) (fun v s₁=>wpAny (model X.prog X.w) X.A (eval b X.env) (fun u s₂=>wpAny (model X.prog X.w) X.A (compareOp op v u) (EP X pins σ Q) X.xe s₂) X.xe s₁) X.xe s
theorem nobehind (b : Expr) {op : CmpOp} (h : op ≠ .In) (h2 : op ≠ .NotIn) : behindInMarks op b = false:=by
 have e1 : (op == CmpOp.In) = false:=by cases op <;> first | rfl | exact absurd rfl h
 have e2 : (op == CmpOp.NotIn) = false:=by cases op <;> first | rfl | exact absurd rfl h2
 cases b <;> simp [behindInMarks,e1,e2]
def tIsN (ta : TE) : TE:=fun σ H Q=>ta σ H fun x H1=>Q (.bl (decide (x = .non))) H1
def tNotN (ta : TE) : TE:=fun σ H Q=>ta σ H fun x H1=>Q (.bl (!decide (x = .non))) H1
theorem RelV.none_iff {x : V} {v : Value} (r : RelV x v) : (v == Value.none) = decide (x = .non):=by
 cases x with
 | non=>cases r; rfl
 | bl _=>cases r; rfl
 | int _=>obtain ⟨t,rfl⟩:=r; rfl
 | str _=>obtain ⟨t,rfl⟩:=r; rfl
 | byt _=>obtain ⟨t,rfl⟩:=r; rfl
 | flt _=>obtain ⟨t,rfl⟩:=r; rfl
 | ref _=>cases r; rfl
 | ty _=>cases r; rfl
theorem pc_isN {j pos'} (ha : PE X a ta) : PC X .Is a (.Constant .none j pos') (tIsN ta):=by
 intro pins s σ H Q I h
 refine thn (ha pins s σ H _ I h) fun v s1 ⟨x,H1,I1,r1,q1⟩=>?_
 exact Constant_none (is_none_gen ⟨.bl _,H1,I1,by rw [r1.none_iff]; rfl,q1⟩)
theorem pc_notN {j pos'} (ha : PE X a ta) : PC X .IsNot a (.Constant .none j pos') (tNotN ta):=by
 intro pins s σ H Q I h
 refine thn (ha pins s σ H _ I h) fun v s1 ⟨x,H1,I1,r1,q1⟩=>?_
 exact Constant_none (isnot_none_gen ⟨.bl _,H1,I1,by rw [r1.none_iff]; rfl,q1⟩)
def tB (t : TE) : TT:=fun σ H Q=>t σ H fun x H1=>∃ c,x = .bl c∧Q c H1
theorem pe_cmp {op : CmpOp} {t : TE} (h : PC X op a b t) (h1 : behindInMarks op b = false:=by first | exact nobehind _ (by decide) (by decide) | rfl) : PE X (.Compare a [op] [b] pos) t:=fun pins s σ H Q I hw=>wpAny_Compare1 (h pins s σ H Q I hw) h1
theorem pt_cmp {op : CmpOp} {t : TE} (h : PC X op a b t) (h1 : behindInMarks op b = false:=by first | exact nobehind _ (by decide) (by decide) | rfl) : PT X (.Compare a [op] [b] pos) (tB t):=by
 intro pins s σ H Q I hw
 refine wpAny_isTrue_Compare1 (thn (h pins s σ H _ I hw) fun v s1 h1=>thn h1 fun u s2 h2=>thn h2 fun c s3 ⟨x,H1,I1,r1,q1⟩=>?_) h1
 obtain ⟨d,rfl,q⟩:=q1
 cases r1
 exact wpAny_truthy_bool ⟨H1,I1,q⟩
theorem pt_val {e : Expr} {t : TE} (h : PE X e t) (he : ∀ whole,isTrue e X.env whole = (do let v ← whole; standAt e.pos; holding [v] (truthy v)):=by intro _; rfl) : PT X e (tB t):=by
 intro pins s σ H Q I hw
 refine isTrue_plain (thn (h pins s σ H _ I hw) fun v s1 ⟨x,H1,I1,r1,q1⟩=>?_) (he _)
 obtain ⟨d,rfl,q⟩:=q1
 cases r1
 exact wpAny_truthy_bool ⟨H1,I1,q⟩
variable {tA tB' : TT} {rest : List Expr}
def tAnd (t u : TT) : TT:=fun σ H Q=>t σ H fun c H1=>if c = true then u σ H1 Q else Q false H1
def tOr (t u : TT) : TT:=fun σ H Q=>t σ H fun c H1=>if c = true then Q true H1 else u σ H1 Q
def tNot (t : TT) : TT:=fun σ H Q=>t σ H fun c H1=>Q (!c) H1
theorem pw_and1 (ha : PT X a tA) : PW X (.BoolOp .And [a] pos) tA:=by
 intro wh pins s σ H Q I h
 refine isTrue_and (thn (ha pins s σ H Q I h) fun c s1 e=>?_)
 cases c with
 | true=>exact isTrue_and_nil e
 | false=>exact e
theorem pw_or1 (ha : PT X a tA) : PW X (.BoolOp .Or [a] pos) tA:=by
 intro wh pins s σ H Q I h
 refine isTrue_or (thn (ha pins s σ H Q I h) fun c s1 e=>?_)
 cases c with
 | false=>exact isTrue_or_nil e
 | true=>exact e
theorem pw_and (ha : PT X a tA) (hb : PW X (.BoolOp .And (b :: rest) pos) tB') : PW X (.BoolOp .And (a :: b :: rest) pos) (tAnd tA tB'):=by
 intro wh pins s σ H Q I h
 refine isTrue_and (thn (ha pins s σ H _ I h) fun c s1 ⟨H1,I1,q1⟩=>?_)
 cases c with
 | true=>exact hb wh pins s1 σ H1 Q I1 q1
 | false=>exact ⟨H1,I1,q1⟩
theorem pw_or (ha : PT X a tA) (hb : PW X (.BoolOp .Or (b :: rest) pos) tB') : PW X (.BoolOp .Or (a :: b :: rest) pos) (tOr tA tB'):=by
 intro wh pins s σ H Q I h
 refine isTrue_or (thn (ha pins s σ H _ I h) fun c s1 ⟨H1,I1,q1⟩=>?_)
 cases c with
 | true=>exact ⟨H1,I1,q1⟩
 | false=>exact hb wh pins s1 σ H1 Q I1 q1
theorem pt_not (ha : PT X a tA) : PT X (.UnaryOp .Not a pos) (tNot tA):=by
 intro pins s σ H Q I h
 exact isTrue_not (ha pins s σ H (fun c H1=>Q (!c) H1) I h)
def tAndV (ta tb : TE) : TE:=fun σ H Q=>ta σ H fun x H1=>∃ c,x = .bl c∧if c = true then tb σ H1 Q else Q (.bl false) H1
def tNotV (ta : TE) : TE:=fun σ H Q=>ta σ H fun x H1=>∃ c,x = .bl c∧Q (.bl (!c)) H1
theorem pe_one {op} {t : TE} (h : PE X a t) : PE X (.BoolOp op [a] pos) t:=fun pins s σ H Q I hw=>BoolOp_one (h pins s σ H Q I hw)
theorem pe_and (ha : PE X a ta) (hb : PE X (.BoolOp .And (b :: rest) pos) tb) : PE X (.BoolOp .And (a :: b :: rest) pos) (tAndV ta tb):=by
 intro pins s σ H Q I h
 refine BoolOp_and (thn (ha pins s σ H _ I h) fun v s1 ⟨x,H1,I1,r1,q1⟩=>?_)
 obtain ⟨c,rfl,q1⟩:=q1
 cases r1
 refine wpAny_truthy_bool ?_
 cases c with
 | true=>exact hb pins s1 σ H1 Q I1 q1
 | false=>exact ⟨.bl false,H1,I1,rfl,q1⟩
theorem pe_not (ha : PE X a ta) : PE X (.UnaryOp .Not a pos) (tNotV ta):=by
 intro pins s σ H Q I h
 refine UnaryOp_ (thn (ha pins s σ H _ I h) fun v s1 ⟨x,H1,I1,r1,q1⟩=>?_)
 obtain ⟨c,rfl,q1⟩:=q1
 cases r1
 exact not_of (wpAny_truthy_bool ⟨.bl (!c),H1,I1,rfl,q1⟩)
def tIf (t : TT) (ta tb : TE) : TE:=fun σ H Q=>t σ H fun c H1=>if c = true then ta σ H1 Q else tb σ H1 Q
theorem pe_ifExp {c : Expr} (hc : PT X c tA) (ha : PE X a ta) (hb : PE X b tb) : PE X (.IfExp c a b pos) (tIf tA ta tb):=by
 intro pins s σ H Q I h
 refine wpAny_IfExp (thn (hc pins s σ H _ I h) fun d s1 ⟨H1,I1,q1⟩=>?_)
 cases d with
 | true=>exact ha pins s1 σ H1 Q I1 q1
 | false=>exact hb pins s1 σ H1 Q I1 q1
end
end L2
namespace L2
open PySem PySem.Spec PyProof.Rows
def SqL (K : PySem.W.Frag) (H : Hp) (a : Addr) (xs : List V) : Prop :=
 Rd H a (.lst xs) ∨
  ∃ (o : Obj) (its : Array Value) (n : Nat),K.lookup a = some o∧o.cls = .type "list" ∧ o.dict = none∧o.data = .seq its n∧its.size ≤ sizeLine∧Vals xs its.toList
def SqT (K : PySem.W.Frag) (H : Hp) (a : Addr) (xs : List V) : Prop :=
 Rd H a (.tup xs) ∨
  ∃ (o : Obj) (its : Array Value) (n : Nat),K.lookup a = some o∧o.cls = .type "tuple" ∧ o.data = .seq its n∧its.size ≤ sizeLine∧Vals xs its.toList
def absV : Value→Option V
 | .none=>some .non
 | .bool b=>some (.bl b)
 | .int i _=>some (.int i)
 | .str x _=>some (.str x)
 | .bytes b _=>some (.byt b)
 | .float b _=>some (.flt b)
 | .ref a=>some (.ref a)
 | .type n=>some (.ty n)
 | _=>none
theorem RelV.abs {x : V} {u : Value} (r : RelV x u) : absV u = some x:=by
 cases x with
 | non=>cases r; rfl
 | bl _=>cases r; rfl
 | int _=>obtain ⟨t,rfl⟩:=r; rfl
 | str _=>obtain ⟨t,rfl⟩:=r; rfl
 | byt _=>obtain ⟨t,rfl⟩:=r; rfl
 | flt _=>obtain ⟨t,rfl⟩:=r; rfl
 | ref _=>cases r; rfl
 | ty _=>cases r; rfl
theorem RelV.inj {x y : V} {u : Value} (r : RelV x u) (q : RelV y u) : x = y:=Option.some.inj (r.abs.symm.trans q.abs)
theorem Vals.inj : ∀ {xs ys : List V} {us : List Value},Vals xs us→Vals ys us→xs = ys
 | _,_,_,.nil,.nil=>rfl
 | _,_,_,.cons r t,.cons r' t'=>by rw [r.inj r',Vals.inj t t']
section
variable {X : Cx} {pins : List (Addr × Obj)} {σ : St} {H : Hp} {s : Shared} {a : Addr} {xs ys : List V}
theorem SqL.of {K : PySem.W.Frag} (h : H a = some (.lst xs)) : SqL K H a xs:=.inl (.inl h)
theorem SqT.of {K : PySem.W.Frag} (h : H a = some (.tup xs)) : SqT K H a xs:=.inl (.inl h)
theorem Inv.list (I : Inv X pins σ H s) (h : SqL X.K H a xs) : ∃ its : List Value,Vals xs its∧PlainL s.heap a its.toArray∧xs.length ≤ sizeLine:=by
 rcases h with h | ⟨o,its,n,hk,hc,hd,hs,hz,r⟩
 ·obtain ⟨z,its,n,r,e⟩:=h.ok I.hok
  exact ⟨its,r,⟨_,n,e,rfl,rfl,rfl⟩,z⟩
 ·refine ⟨its.toList,r,⟨o,n,I.kIn a o hk,hc,hd,by simpa using hs⟩,?_⟩
  have e:=r.length
  simp only [Array.length_toList] at e
  omega
theorem Inv.tuple (I : Inv X pins σ H s) (h : SqT X.K H a xs) : ∃ its : List Value,Vals xs its∧IsTup s.heap a its.toArray∧xs.length ≤ sizeLine:=by
 rcases h with h | ⟨o,its,n,hk,hc,hs,hz,r⟩
 ·obtain ⟨z,its,r,p⟩:=h.ok I.hok
  exact ⟨its,r,p,z⟩
 ·refine ⟨its.toList,r,⟨o,I.kIn a o hk,hc,n,by simpa using hs⟩,?_⟩
  have e:=r.length
  simp only [Array.length_toList] at e
  omega
theorem Inv.list_inj (I : Inv X pins σ H s) (h : SqL X.K H a xs) (h' : SqL X.K H a ys) : xs = ys:=by
 obtain ⟨its,r,⟨o,n,e,_,_,d⟩,_⟩:=I.list h
 obtain ⟨its',r',⟨o',n',e',_,_,d'⟩,_⟩:=I.list h'
 rw [e] at e'; cases e'
 rw [d] at d'
 injection d' with d1 _
 have : its = its':=by simpa using congrArg Array.toList d1
 subst this
 exact r.inj r'
theorem Inv.tuple_inj (I : Inv X pins σ H s) (h : SqT X.K H a xs) (h' : SqT X.K H a ys) : xs = ys:=by
 obtain ⟨its,r,⟨o,e,_,n,d⟩,_⟩:=I.tuple h
 obtain ⟨its',r',⟨o',e',_,n',d'⟩,_⟩:=I.tuple h'
 rw [e] at e'; cases e'
 rw [d] at d'
 injection d' with d1 _
 have : its = its':=by simpa using congrArg Array.toList d1
 subst this
 exact r.inj r'
end
abbrev Cx.wish (X : Cx) (E : Value→Shared→Prop) : Cx:={ X with xe:=E }
abbrev Cx.nox (X : Cx) : Cx:=X.wish fun _ _=>False
theorem Cx.Ok.wish {X : Cx} (ok : X.Ok) (E : Value→Shared→Prop) : (X.wish E).Ok :=
 ⟨ok.mod,ok.kind,ok.glob,ok.blt,ok.above,ok.inj,ok.has,ok.cab,ok.hd,ok.frames,ok.stk,ok.exf,ok.bs,ok.bsz,ok.noex,ok.exfs,ok.funs,ok.frf⟩
theorem Cx.Ok.unwish {X : Cx} {E : Value→Shared→Prop} (ok : (X.wish E).Ok) : X.Ok :=
 ⟨ok.mod,ok.kind,ok.glob,ok.blt,ok.above,ok.inj,ok.has,ok.cab,ok.hd,ok.frames,ok.stk,ok.exf,ok.bs,ok.bsz,ok.noex,ok.exfs,ok.funs,ok.frf⟩
section
variable {X : Cx} {pins : List (Addr × Obj)} {σ : St} {H : Hp} {s : Shared} {E : Value→Shared→Prop}
theorem Inv.wish (I : Inv X pins σ H s) (E : Value→Shared→Prop) : Inv (X.wish E) pins σ H s:=⟨I.ok.wish E,I.os,I.bare,I.base,I.loc,I.cell,I.free,I.freeC,I.pin,I.hok,I.len⟩
theorem Inv.unwish (I : Inv (X.wish E) pins σ H s) : Inv X pins σ H s:=⟨I.ok.unwish,I.os,I.bare,I.base,I.loc,I.cell,I.free,I.freeC,I.pin,I.hok,I.len⟩
theorem SP.unwish {D : Ends} {f : Flow} {s' : Shared} (h : SP (X.wish E) pins D f s') : SP X pins D f s':=by
 cases f with
 | next=>obtain ⟨σ',H',I,q⟩:=h; exact ⟨σ',H',I.unwish,q⟩
 | brk=>obtain ⟨σ',H',I,q⟩:=h; exact ⟨σ',H',I.unwish,q⟩
 | cont=>obtain ⟨σ',H',I,q⟩:=h; exact ⟨σ',H',I.unwish,q⟩
 | ret u=>obtain ⟨v,σ',H',I,r,q⟩:=h; exact ⟨v,σ',H',I.unwish,r,q⟩
theorem PSs.nox {st : List Stmt} {t : TS} (h : PSs X.nox st t) : PSs X st t:=fun pins s σ H D I hw =>
 wpAny_mono (h pins s σ H D (I.wish _) hw) (fun _ _ q=>q.unwish) fun _ _ z=>False.elim z
end
section
variable {X : Cx} {st : Stmt} {rest : List Stmt} {t u : TS} {e : Expr} {te : TE} {pos : Pos}
def tNext : TS:=fun D σ H=>D.nx σ H
def tSeq (t u : TS) : TS:=fun D σ H=>t { D with nx:=u D } σ H
theorem pss_nil : PSs X [] tNext:=fun _ _ σ H _ I h=>wpAny_execs_nil ⟨σ,H,I,h⟩
theorem pss_cons (h1 : PS X st t) (h2 : PSs X rest u) : PSs X (st :: rest) (tSeq t u):=by
 intro pins s σ H D I h
 refine wpAny_execs_cons (thn (h1 pins s σ H { D with nx:=u D } I h) fun f s1 q=>?_)
 cases f with
 | next =>
  obtain ⟨σ',H',I',q⟩:=q
  exact h2 pins s1 σ' H' D I' q
 | ret v=>exact q
 | brk=>exact q
 | cont=>exact q
theorem pss_one (h1 : PS X st t) : PSs X [st] t:=by
 intro pins s σ H D I h
 refine wpAny_execs_cons (thn (h1 pins s σ H D I h) fun f s1 q=>?_)
 cases f with
 | next=>exact wpAny_execs_nil q
 | ret v=>exact q
 | brk=>exact q
 | cont=>exact q
theorem Inv.quiet {pins : List (Addr × Obj)} {σ : St} {H : Hp} {s : Shared} (I : Inv X pins σ H s) : interactive X.env = false:=by simp [interactive,I.ok.kind]
def tDrop (te : TE) : TS:=fun D σ H=>te σ H fun _ H1=>D.nx σ H1
theorem ps_expr (he : PE X e te) (hs : swapsWith e none pos.line X.env = pure false:=by rfl) : PS X (.Expr e pos) (tDrop te):=by
 intro pins s σ H D I h
 exact wpAny_Expr_any (thn (he pins s σ H _ I h) fun v s1 ⟨x,H1,I1,r1,q1⟩=>⟨σ,H1,I1,q1⟩) I.quiet hs
def tRet (te : TE) : TS:=fun D σ H=>te σ H D.rt
theorem ps_ret (he : PE X e te) : PS X (.Return (some e) pos) (tRet te):=by
 intro pins s σ H D I h
 exact wpAny_Return_some (thn (he pins s σ H _ I h) fun v s1 ⟨x,H1,I1,r1,q1⟩=>⟨x,σ,H1,I1,r1,q1⟩)
def tRetN : TS:=fun D _ H=>D.rt .non H
theorem ps_retN : PS X (.Return none pos) tRetN:=fun _ _ σ H _ I h=>wpAny_Return_none ⟨.non,σ,H,I,rfl,h⟩
def tIfS (c : TT) (t u : TS) : TS:=fun D σ H=>c σ H fun b H1=>if b = true then t D σ H1 else u D σ H1
theorem ps_if {c : Expr} {a b : List Stmt} {tc : TT} (hc : PT X c tc) (ha : PSs X a t) (hb : PSs X b u) : PS X (.If c a b pos) (tIfS tc t u):=by
 intro pins s σ H D I h
 refine wpAny_If (thn (hc pins s σ H _ I h) fun d s1 ⟨H1,I1,q1⟩=>?_)
 cases d with
 | true=>exact ha pins s1 σ H1 D I1 q1
 | false=>exact hb pins s1 σ H1 D I1 q1
end
abbrev TG:=V→St→Hp→(St→Hp→Prop)→Prop
abbrev TGs:=List V→St→Hp→(St→Hp→Prop)→Prop
def PG (X : Cx) (target : Expr) (t : TG) : Prop :=
 ∀ (pins : List (Addr × Obj)) (s : Shared) (σ : St) (H : Hp) (v : V) (u : Value) (Q : St→Hp→Prop),Inv X pins σ H s→RelV v u→t v σ H Q →
  wpAny (model X.prog X.w) X.A (assign target X.env u) (fun _ s'=>∃ σ' H',Inv X pins σ' H' s'∧Q σ' H') X.xe s
def PGs (X : Cx) (ts : List Expr) (t : TGs) : Prop :=
 ∀ (pins : List (Addr × Obj)) (s : Shared) (σ : St) (H : Hp) (vs : List V) (us : List Value) (Q : St→Hp→Prop),Inv X pins σ H s→Vals vs us→t vs σ H Q →
  wpAny (model X.prog X.w) X.A (assignInOrder ((assignEach ts X.env).map (·.2)) us) (fun _ s'=>∃ σ' H',Inv X pins σ' H' s'∧Q σ' H') X.xe s
abbrev TSet:=V→V→V→Hp→(Hp→Prop)→Prop
abbrev TIp:=V→V→Hp→VK→Prop
def PIp (X : Cx) (op : Operator) (t : TIp) : Prop :=
 ∀ (pins : List (Addr × Obj)) (s : Shared) (σ : St) (H : Hp) (x y : V) (v u : Value) (Q : VK),Inv X pins σ H s→RelV x v→RelV y u→t x y H Q →
  wpAny (model X.prog X.w) X.A (inplaceOp op v u) (EP X pins σ Q) X.xe s
section
variable {X : Cx} {pos : Pos}
def gName (i : Nat) : TG:=fun v σ H Q=>Q (σ.set i (some v)) H
theorem pg_name {i : Nat} {x : Str} (hN : X.N.Nodup) (hi : X.N[i]? = some x) (hx : Loc X.env.scope x) (hf : X.fn x = true∨X.env.scope.names.lookup x = some .local:=by first | exact .inl rfl | exact .inr rfl | assumption) : PG X (.Name x pos) (gName i):=by
 intro pins s σ H v u Q I r h
 exact wpAny_assign_Name (store_ok I hN hi hx r (fun s' I'=>⟨_,H,I',h⟩) hf)
def gNil : TGs:=fun vs σ H Q=>vs = []∧Q σ H
def gCons (t : TG) (u : TGs) : TGs:=fun vs σ H Q=>∃ v r,vs = v :: r∧t v σ H fun σ' H'=>u r σ' H' Q
theorem pgs_nil : PGs X [] gNil:=by
 intro pins s σ H vs us Q I r h
 obtain ⟨e,h⟩:=h
 subst e
 cases r
 exact assignInOrder_nil ⟨σ,H,I,h⟩
theorem pgs_cons {e : Expr} {es : List Expr} {t : TG} {u : TGs} (h1 : PG X e t) (h2 : PGs X es u)
  (hs : (assignEach (e :: es) X.env).map (·.2) = assign e X.env :: (assignEach es X.env).map (·.2):=by rfl) : PGs X (e :: es) (gCons t u):=by
 intro pins s σ H vs us Q I r h
 obtain ⟨v,vr,e1,h⟩:=h
 subst e1
 cases r with
 | cons r rr =>
  rw [hs]
  refine assignInOrder_cons (thn (h1 pins s σ H _ _ _ I r h) fun _ s1 ⟨σ1,H1,I1,q1⟩=>?_)
  exact h2 pins s1 σ1 H1 _ _ Q I1 rr q1
def gTup (K : PySem.W.Frag) (n : Nat) (t : TGs) : TG:=fun v σ H Q=>∃ a xs,v = .ref a∧SqT K H a xs∧xs.length = n∧t xs σ H Q
theorem pg_tup {es : List Expr} {k : Nat} {t : TGs} {n : Nat} (hc : X.calm = true) (h : PGs X es t)
  (hn : (assignEach es X.env).length = n:=by rfl) (hst : (assignEach es X.env).findIdx? (·.1) = none:=by rfl) : PG X (.Tuple es k pos) (gTup X.K n t):=by
 intro pins s σ H v u Q I r hw
 obtain ⟨a,xs,e1,hq,hl,hw⟩:=hw
 subst e1
 cases r
 obtain ⟨its,rv,ht,hz⟩:=I.tuple hq
 refine assign_Tuple_tuple (I.ok.hd hc) ht (by simp [hn,← hl,rv.length]) hst fun h' hx=>?_
 have I1 : Inv X pins σ H { s with heap:=h' }:=I.kept (t':=s.toks) fun b o e=>hx b o (Nat.ne_of_lt (Heap.lt_size e)) e
 exact h pins _ σ H xs _ Q I1 (by simpa using rv) hw
def tAsg (te : TE) (g : TG) : TS:=fun D σ H=>te σ H fun x H1=>g x σ H1 D.nx
theorem ps_asg {tg e : Expr} {te : TE} {g : TG} (he : PE X e te) (hg : PG X tg g) (hs : swapsWithSole [tg] e pos.line X.env = pure false:=by rfl) (hw : swappedStores [tg] e X.env = pure none:=by rfl)
  (h1 : (assignEach [tg] X.env).map (·.2) = [assign tg X.env]:=by rfl) : PS X (.Assign [tg] e pos) (tAsg te g):=by
 intro pins s σ H D I h
 refine wpAny_Assign_stores (thn (he pins s σ H _ I h) fun v s1 ⟨x,H1,I1,r1,q1⟩=>?_) hs hw
 rw [h1]
 exact thn (hg pins s1 σ H1 x v _ I1 r1 q1) fun _ s2 q=>q
theorem ps_set {i : Nat} {x : Str} {e : Expr} {te : TE} {pos' : Pos} (hN : X.N.Nodup) (hi : X.N[i]? = some x) (hx : Loc X.env.scope x) (he : PE X e te) (hs : swapsWith e (some (.Name x pos')) pos.line X.env = pure false:=by rfl) (hf : X.fn x = true∨X.env.scope.names.lookup x = some .local:=by first | exact .inl rfl | exact .inr rfl | assumption) :
  PS X (.Assign [.Name x pos'] e pos) (tAsg te (gName i)):=by
 intro pins s σ H D I h
 refine wpAny_Assign_Name (thn (he pins s σ H _ I h) fun v s1 ⟨y,H1,I1,r1,q1⟩=>?_) hs
 exact store_ok I1 hN hi hx r1 (fun s2 I2=>⟨_,H1,I2,q1⟩) hf
def tAug (i : Nat) (te : TE) (ti : TIp) : TS:=fun D σ H=>∃ x,σ[i]? = some (some x)∧te σ H fun y H1=>ti x y H1 fun z H2=>D.nx (σ.set i (some z)) H2
theorem ps_aug {i : Nat} {x : Str} {e : Expr} {te : TE} {op : Operator} {ti : TIp} {pos' : Pos} (hN : X.N.Nodup) (hi : X.N[i]? = some x) (hx : Loc X.env.scope x) (he : PE X e te) (ho : PIp X op ti) (hf : X.fn x = true∨X.env.scope.names.lookup x = some .local:=by first | exact .inl rfl | exact .inr rfl | assumption) :
  PS X (.AugAssign (.Name x pos') op e pos) (tAug i te ti):=by
 intro pins s σ H D I h
 obtain ⟨v,e1,h⟩:=h
 obtain ⟨m,hn,hl⟩:=I.loc
 have vis : Vis X.env.scope x:=by rcases hx with k | k; exact .inl k; exact .inr (.inl k)
 obtain ⟨u,r,l⟩:=hl i x v hi e1 vis
 refine wpAny_AugAssign_Name ?_
 have go : wpAny (model X.prog X.w) X.A (eval e X.env) (fun w s₂=>wpAny (model X.prog X.w) X.A (inplaceOp op u w) (fun r s₃=>wpAny (model X.prog X.w) X.A (storeName X.env x r) (fun _=>SP X pins D .next) X.xe s₃) X.xe s₂) X.xe s:=by
  refine thn (he pins s σ H _ I h) fun w s1 ⟨y,H1,I1,r1,q1⟩=>?_
  refine thn (ho pins s1 σ H1 v y u w _ I1 r r1 q1) fun z s2 ⟨zv,H2,I2,r2,q2⟩=>?_
  exact store_ok I2 hN hi hx r2 (fun s3 I3=>⟨_,H2,I3,q2⟩) hf
 rcases l with ⟨hk,hm⟩ | ⟨hk,c,hc,hcell⟩
 ·exact wpAny_loadName_local I.ok.kind hk hn hm go
 ·rcases hk with hk | hk
  ·exact wpAny_loadName_cell I.ok.kind hk hc hcell go
  ·rcases hx with k | k
   ·have : X.env.scope.names.lookup x = some .free:=hk
    rw [k] at this; cases this
   ·have : X.env.scope.names.lookup x = some .free:=hk
    rw [k] at this; cases this
def ipI (f : Int→Int→Int) : TIp:=fun x y H Q=>∃ i j,x = .int i∧y = .int j∧Q (.int (f i j)) H
theorem ip_add : PIp X .Add (ipI fun i j=>i + j):=by
 intro pins s σ H x y v u Q I r1 r2 h
 obtain ⟨i,j,e1,e2,q⟩:=h
 subst e1; subst e2
 obtain ⟨t,rfl⟩:=r1
 obtain ⟨t',rfl⟩:=r2
 exact iadd_int ⟨.int _,H,I.tok _,⟨_,rfl⟩,q⟩
end
section
variable {X : Cx} {pos : Pos}
def tWhile (c : TT) (tb : TS) : TS:=fun D σ H=>∃ W : Nat→St→Hp→Prop,(∃ m,W m σ H)∧∀ m σ H,W m σ H →
 c σ H fun b H1=>if b = true then ∃ N : St→Hp→Prop,(∀ σ' H',N σ' H'→∃ m',m' < m∧W m' σ' H')∧tb { D with nx:=N,ct:=N,bk:=D.nx } σ H1 else D.nx σ H1
theorem ps_while {c : Expr} {body : List Stmt} {tc : TT} {tb : TS} (hp : PassesOwn (model X.prog X.w) X.A X.env X.xe) (hc : PT X c tc) (hb : PSs X body tb) : PS X (.While c body [] pos) (tWhile tc tb):=by
 intro pins s σ H D I h
 obtain ⟨W,⟨m0,w0⟩,turn⟩:=h
 refine wpAny_While (codeAny_whileLoop (fun n s'=>∃ σ' H',Inv X pins σ' H' s'∧W n σ' H') ?_ m0 ⟨σ,H,I,w0⟩)
 rintro n s1 ⟨σ1,H1,I1,w1⟩
 refine wpAny_passesOwn hp (thn (hc pins s1 σ1 H1 _ I1 (turn n σ1 H1 w1)) fun b s2 ⟨H2,I2,q2⟩=>?_)
 cases b with
 | true =>
  obtain ⟨N,hN,q2⟩:=q2
  rw [if_pos rfl]
  refine wpAny_passesOwn hp (thn (hb pins s2 σ1 H2 _ I2 q2) fun f s3 q3=>?_)
  cases f with
  | next =>
   obtain ⟨σ3,H3,I3,n3⟩:=q3
   obtain ⟨m',hm,w3⟩:=hN σ3 H3 n3
   exact ⟨m',hm,σ3,H3,I3,w3⟩
  | cont =>
   obtain ⟨σ3,H3,I3,n3⟩:=q3
   obtain ⟨m',hm,w3⟩:=hN σ3 H3 n3
   exact ⟨m',hm,σ3,H3,I3,w3⟩
  | brk=>exact q3
  | ret v=>exact q3
 | false =>
  rw [if_neg Bool.false_ne_true]
  exact wpAny_execs_nil ⟨σ1,H2,I2,q2⟩
end
structure It where
 go : Nat→Hp→Prop
 yld : Nat→Hp→V→Hp→Prop
 stop : Nat→Hp→Prop
def FpOk (X : Cx) (pins : List (Addr × Obj)) (H : Hp) (b : Addr) : Prop :=
 H b = none∧b ≠ X.env.locals∧b ∉ X.fs∧(b ∈ X.ex∨X.s₀.heap.objs.size ≤ b)∧(∀ x c,X.env.cells.lookup x = some c→c ≠ b)∧∀ p ∈ X.pn ++ pins,p.1 ≠ b
theorem Inv.fpOk {X : Cx} {pins : List (Addr × Obj)} {σ : St} {H H' : Hp} {s : Shared} {b : Addr} (I : Inv X pins σ H s) (hb : s.heap.objs.size ≤ b) (hn : H' b = none) : FpOk X pins H' b:=by
 refine ⟨hn,Nat.ne_of_gt (Nat.lt_of_lt_of_le I.lt hb),I.nofs hb,.inr (Nat.le_trans I.sz hb),fun x c e z=>?_,fun p hp z=>?_⟩
 ·obtain ⟨v,q⟩:=I.cell x c e
  exact absurd (Nat.lt_of_lt_of_le q.lt (by rw [z]; exact hb)) (Nat.lt_irrefl _)
 ·exact absurd (Nat.lt_of_lt_of_le (Heap.lt_size (I.pin p hp).1) (by rw [z]; exact hb)) (Nat.lt_irrefl _)
structure Turn (P : Program) (w : World) (K : PySem.W.Frag) (tg : Expr) (J : It) (fp : List Addr) (it : Addr) (tn : Nat→Heap→Prop) : Prop where
 mem : it ∈ fp
 obj : ∀ i h,tn i h→∀ b ∈ fp,∃ o,h.get? b = some o∧∀ v,o.data ≠ .cell v
 keep : ∀ i h h',tn i h→(∀ b ∈ fp,∀ o,h.get? b = some o→h'.get? b = some o)→tn i h'
 item : ∀ (X : Cx),X.prog = P→X.w = w→X.K = K→X.calm = true→∀ (i : Nat) (pins : List (Addr × Obj)) (s : Shared) (σ : St) (H : Hp) (E : Value→Shared→Prop),Inv X pins σ H s→(∀ b ∈ fp,FpOk X pins H b)→tn i s.heap→J.go i H →
  wpAny (model P w) X.A (pyNext (.ref it)) (fun r s1=>∃ u,r = some u ∧
   wpAny (model P w) X.A (letOwnedTupleGo tg (.ref it) u) (fun _ s2=>∃ x H',Inv X pins σ H' s2∧RelV x u∧J.yld i H x H'∧tn (i + 1) s2.heap∧∀ b ∈ fp,H' b = none) E s1) E s
 done : ∀ (X : Cx),X.prog = P→X.w = w→X.K = K→X.calm = true→∀ (i : Nat) (pins : List (Addr × Obj)) (s : Shared) (σ : St) (H : Hp) (E : Value→Shared→Prop),Inv X pins σ H s→(∀ b ∈ fp,FpOk X pins H b)→tn i s.heap→J.stop i H →
  wpAny (model P w) X.A (pyNext (.ref it)) (fun r s1=>r = none∧Inv X pins σ H s1) E s
 self : ∀ (A : Around) (i : Nat) (s : Shared) (Q : Value→Shared→Prop) (E : Value→Shared→Prop),tn i s.heap→Q (.ref it) s→wpAny (model P w) A (pyIter (.ref it)) Q E s
abbrev TI:=St→Hp→(It→Hp→Prop)→Prop
def PIE (X : Cx) (pins : List (Addr × Obj)) (σ : St) (tg : Expr) (R : It→Hp→Prop) (itv : Value) (s2 : Shared) : Prop :=
 ∃ (it : Addr) (fp : List Addr) (tn : Nat→Heap→Prop) (J : It) (H' : Hp),itv = .ref it∧Inv X pins σ H' s2∧Turn X.prog X.w X.K tg J fp it tn∧tn 0 s2.heap∧(∀ b ∈ fp,FpOk X pins H' b)∧R J H'
def PI (X : Cx) (tg iter : Expr) (wi : TI) : Prop :=
 ∀ (pins : List (Addr × Obj)) (s : Shared) (σ : St) (H : Hp) (R : It→Hp→Prop),Inv X pins σ H s→wi σ H R →
  wpAny (model X.prog X.w) X.A (eval iter X.env) (fun v s1=>wpAny (model X.prog X.w) X.A (pyIter v) (PIE X pins σ tg R) X.xe s1) X.xe s
theorem go_of {M : Model} {A : Around} {E : Value→Shared→Prop} {s : Shared} {tg : Expr} {it : Addr} {u : Value} {o : Obj} {n : String} {vs : Array Value} {Q : Unit→Shared→Prop} (ho : s.heap.get? it = some o) (hc : o.cls = .type n) (hd : o.data = .fields vs)
  (hn : ["enumerate", "zip", "dict_itemiterator", "dict_reverseitemiterator", "odict_iterator", "itertools.zip_longest", "itertools.pairwise"].contains n = false) (hQ : Q () s) : wpAny M A (letOwnedTupleGo tg (.ref it) u) Q E s:=by
 unfold letOwnedTupleGo
 cases tg <;> first
  | exact wpAny_pure hQ
  | (cases u <;> first
    | exact wpAny_pure hQ
    | (refine wpAny_bind (wpAny_load ho ?_)
       rw [hc,hd]
       show wpAny M A (if (["enumerate", "zip", "dict_itemiterator", "dict_reverseitemiterator", "odict_iterator", "itertools.zip_longest", "itertools.pairwise"].contains n && vs[0]? == some (rawInt _)) = true then _ else _) Q E s
       rw [if_neg (by intro h; rw [hn,Bool.false_and] at h; cases h)]
       exact wpAny_pure hQ))
def Itl (K : PySem.W.Frag) (a : Addr) : It :=
 ⟨fun i H=>∃ xs x,SqL K H a xs∧xs[i]? = some x,fun i H x H'=>H' = H∧∀ xs,SqL K H a xs→xs[i]? = some x,fun i H=>∃ xs,SqL K H a xs∧xs.length ≤ i⟩
def Itt (K : PySem.W.Frag) (a : Addr) : It :=
 ⟨fun i H=>∃ xs x,SqT K H a xs∧xs[i]? = some x,fun i H x H'=>H' = H∧∀ xs,SqT K H a xs→xs[i]? = some x,fun i H=>∃ xs,SqT K H a xs∧xs.length ≤ i⟩
def Itr (lo : Int) (n : Nat) : It:=⟨fun i _=>i < n,fun i H x H'=>H' = H∧x = .int (lo + i),fun i _=>n ≤ i⟩
theorem turn_list {P : Program} {w : World} {K : PySem.W.Frag} {tg : Expr} (a it : Addr) : Turn P w K tg (Itl K a) [it] it (fun i h=>h.IsListIter it a i) where
 mem:=by simp
 obj:=fun i h st b hb=>by
  have e : b = it:=by simpa using hb
  subst e
  obtain ⟨o,e,c,d⟩:=st
  exact ⟨o,e,fun v z=>by rw [d] at z; cases z⟩
 keep:=fun i h h' st k=>st.at fun o e=>k it (by simp) o e
 item:=by
  intro X hP hw hK hc i pins s σ H E I hf st hg
  subst hP hw hK
  obtain ⟨xs,x,hq,hx⟩:=hg
  obtain ⟨its,rv,p,hz⟩:=I.list hq
  obtain ⟨u,hu,ru⟩:=rv.get hx
  obtain ⟨f0,f1,f2,f3,f4,f5⟩:=hf it (by simp)
  refine wpAny_pyNext_list_item st p.isList (x:=u) (by simpa using hu) fun h' st' sb=>?_
  have I1 : Inv X pins σ H { s with heap:=h' }:=I.turned (t':=s.toks) (fun b o hb e=>(sb.2 b hb).trans e) f0 f1 f3 f4 f5
  obtain ⟨o,e,c,d⟩:=id st'
  exact ⟨u,rfl,go_of (s:={ s with heap:=h' }) e c d (by decide) ⟨x,H,I1,ru,⟨rfl,fun ys hy=>by rw [I.list_inj hy hq]; exact hx⟩,st',fun b hb=>(hf b hb).1⟩⟩
 done:=by
  intro X hP hw hK hc i pins s σ H E I hf st hg
  subst hP hw hK
  obtain ⟨xs,hq,hx⟩:=hg
  obtain ⟨its,rv,p,hz⟩:=I.list hq
  obtain ⟨f0,f1,f2,f3,f4,f5⟩:=hf it (by simp)
  have hl:=rv.length
  exact wpAny_pyNext_list_end (I.ok.hd hc) st p.isList (by simp; omega) fun h' eb=>⟨rfl,I.turned (t':=s.toks) (fun b o hb e=>eb b o hb e) f0 f1 f3 f4 f5⟩
 self:=fun _ _ _ _ _ st h=>wpAny_pyIter_listiter st h
theorem turn_tuple {P : Program} {w : World} {K : PySem.W.Frag} {tg : Expr} (a it : Addr) : Turn P w K tg (Itt K a) [it] it (fun i h=>h.IsTupleIter it a i) where
 mem:=by simp
 obj:=fun i h st b hb=>by
  have e : b = it:=by simpa using hb
  subst e
  obtain ⟨o,e,c,d⟩:=st
  exact ⟨o,e,fun v z=>by rw [d] at z; cases z⟩
 keep:=fun i h h' st k=>st.at fun o e=>k it (by simp) o e
 item:=by
  intro X hP hw hK hc i pins s σ H E I hf st hg
  subst hP hw hK
  obtain ⟨xs,x,hq,hx⟩:=hg
  obtain ⟨its,rv,p,hz⟩:=I.tuple hq
  obtain ⟨u,hu,ru⟩:=rv.get hx
  obtain ⟨f0,f1,f2,f3,f4,f5⟩:=hf it (by simp)
  refine wpAny_pyNext_tuple_item st (show s.heap.IsTuple a its.toArray from p) (x:=u) (by simpa using hu) fun h' st' sb=>?_
  have I1 : Inv X pins σ H { s with heap:=h' }:=I.turned (t':=s.toks) (fun b o hb e=>(sb.2 b hb).trans e) f0 f1 f3 f4 f5
  obtain ⟨o,e,c,d⟩:=id st'
  exact ⟨u,rfl,go_of (s:={ s with heap:=h' }) e c d (by decide) ⟨x,H,I1,ru,⟨rfl,fun ys hy=>by rw [I.tuple_inj hy hq]; exact hx⟩,st',fun b hb=>(hf b hb).1⟩⟩
 done:=by
  intro X hP hw hK hc i pins s σ H E I hf st hg
  subst hP hw hK
  obtain ⟨xs,hq,hx⟩:=hg
  obtain ⟨its,rv,p,hz⟩:=I.tuple hq
  obtain ⟨f0,f1,f2,f3,f4,f5⟩:=hf it (by simp)
  have hl:=rv.length
  exact wpAny_pyNext_tuple_end (I.ok.hd hc) st (show s.heap.IsTuple a its.toArray from p) (by simp; omega) fun h' eb=>⟨rfl,I.turned (t':=s.toks) (fun b o hb e=>eb b o hb e) f0 f1 f3 f4 f5⟩
 self:=fun _ _ _ _ _ st h=>wpAny_pyIter_tupleiter st h
theorem turn_range {P : Program} {w : World} {K : PySem.W.Frag} {tg : Expr} (it : Addr) (lo : Int) (n : Nat) : Turn P w K tg (Itr lo n) [it] it (fun i h=>IsRangeIter h it (lo + (i : Nat) * 1) ((n : Int) - (i : Nat)) 1) where
 mem:=by simp
 obj:=fun i h st b hb=>by
  have e : b = it:=by simpa using hb
  subst e
  exact ⟨_,st,fun v z=>by
   have z' : Data.fields _ = Data.cell v:=z
   cases z'⟩
 keep:=fun i h h' st k=>k it (by simp) _ st
 item:=by
  intro X hP hw hK hc i pins s σ H E I hf st hg
  subst hP hw hK
  obtain ⟨f0,f1,f2,f3,f4,f5⟩:=hf it (by simp)
  have W:=Walks.range (prog:=X.prog) (w:=X.w) (I.ok.hd hc) it lo 1 n
  refine W.item i s _ _ hg st fun v h' tk hv st' kk=>?_
  obtain ⟨t,rfl⟩:=hv
  have I1 : Inv X pins σ H { s with heap:=h',toks:=tk }:=I.turned (fun b o hb e=>kk b o (by simpa using hb) e) f0 f1 f3 f4 f5
  refine ⟨_,rfl,go_of (s:={ s with heap:=h',toks:=tk }) (n := "range_iterator") st' rfl rfl (by decide) ⟨.int (lo + i),H,I1,⟨t,?_⟩,⟨rfl,rfl⟩,st',fun b hb=>(hf b hb).1⟩⟩
  rw [Int.mul_one]
 done:=by
  intro X hP hw hK hc i pins s σ H E I hf st hg
  subst hP hw hK
  obtain ⟨f0,f1,f2,f3,f4,f5⟩:=hf it (by simp)
  exact wpAny_pyNext_range_end (I.ok.hd hc) st (by have : n ≤ i:=hg; omega) fun h' eb=>⟨rfl,I.turned (t':=s.toks) (fun b o hb e=>eb b o hb e) f0 f1 f3 f4 f5⟩
 self:=fun _ _ _ _ _ st h=>wpAny_pyIter_rangeiter st h
end L2
namespace L2
open PySem PySem.Spec PyProof.Rows
section
variable {X : Cx} {tg : Expr}
def iList (K : PySem.W.Frag) (tl : TE) : TI:=fun σ H R=>tl σ H fun x H1=>∃ a,x = .ref a∧(∃ xs,SqL K H1 a xs)∧R (Itl K a) H1
def iTup (K : PySem.W.Frag) (tl : TE) : TI:=fun σ H R=>tl σ H fun x H1=>∃ a,x = .ref a∧(∃ xs,SqT K H1 a xs)∧R (Itt K a) H1
theorem pi_list {l : Expr} {tl : TE} (hl : PE X l tl) : PI X tg l (iList X.K tl):=by
 intro pins s σ H R I h
 refine thn (hl pins s σ H _ I h) fun v s1 ⟨x,H1,I1,r1,q1⟩=>?_
 obtain ⟨a,e,⟨xs,hq⟩,q⟩:=q1
 subst e
 cases r1
 obtain ⟨its,rv,p,hz⟩:=I1.list hq
 refine wpAny_pyIter_list p.isList ?_
 refine ⟨s1.heap.objs.size,[s1.heap.objs.size],_,_,H1,rfl,I1.kept (t':=s1.toks) fun b o e=>Heap.get?_push_of_some _ e,turn_list a _,⟨_,Heap.get?_push_size _ rfl,rfl,rfl⟩,fun b hb=>?_,q⟩
 have e : b = s1.heap.objs.size:=by simpa using hb
 subst e
 exact I1.fpOk (Nat.le_refl _) (I1.hok.fresh (Nat.le_refl _))
theorem pi_tup {l : Expr} {tl : TE} (hl : PE X l tl) : PI X tg l (iTup X.K tl):=by
 intro pins s σ H R I h
 refine thn (hl pins s σ H _ I h) fun v s1 ⟨x,H1,I1,r1,q1⟩=>?_
 obtain ⟨a,e,⟨xs,hq⟩,q⟩:=q1
 subst e
 cases r1
 obtain ⟨its,rv,p,hz⟩:=I1.tuple hq
 refine wpAny_pyIter_tuple (show s1.heap.IsTuple a its.toArray from p) ?_
 refine ⟨s1.heap.objs.size,[s1.heap.objs.size],_,_,H1,rfl,I1.kept (t':=s1.toks) fun b o e=>Heap.get?_push_of_some _ e,turn_tuple a _,⟨_,Heap.get?_push_size _ rfl,rfl,rfl⟩,fun b hb=>?_,q⟩
 have e : b = s1.heap.objs.size:=by simpa using hb
 subst e
 exact I1.fpOk (Nat.le_refl _) (I1.hok.fresh (Nat.le_refl _))
theorem range_it {pins : List (Addr × Obj)} {σ : St} {H : Hp} {s : Shared} {R : It→Hp→Prop} {E : Value→Shared→Prop} {lo hi : Int} {t u v : Tok} {tk : Nat} (I : Inv X pins σ H s) (h1 : -(2 ^ 62) ≤ lo) (h2 : lo < 2 ^ 62) (h3 : -(2 ^ 62) ≤ hi) (h4 : hi < 2 ^ 62)
  (q : R (Itr lo (hi - lo).toNat) H) : wpAny (model X.prog X.w) X.A (pyIter (.ref s.heap.objs.size)) (PIE X pins σ tg R) E { s with heap:=s.heap.push { cls:=.type "range",data:=.fields #[.int lo t,.int hi u,.int 1 v] },toks:=tk }:=by
 refine wpAny_pyIter_range (IsRange.new ..) (small_one h1 h2 h3 h4) ?_
 have I1 : Inv X pins σ H { s with heap:=s.heap.push { cls:=.type "range",data:=.fields #[.int lo t,.int hi u,.int 1 v] },toks:=tk }:=I.kept fun b o e=>Heap.get?_push_of_some _ e
 refine ⟨(s.heap.push { cls:=.type "range",data:=.fields #[.int lo t,.int hi u,.int 1 v] }).objs.size,[(s.heap.push { cls:=.type "range",data:=.fields #[.int lo t,.int hi u,.int 1 v] }).objs.size],_,_,H,rfl,
  I1.kept (t':=tk) fun b o e=>Heap.get?_push_of_some _ e,turn_range _ lo (hi - lo).toNat,?_,fun b hb=>?_,q⟩
 ·have e1 : lo + ((0 : Nat) : Int) * 1 = lo:=by simp
  have e2 : (((hi - lo).toNat : Nat) : Int) - ((0 : Nat) : Int) = Builtin.Range.rangeSize lo hi 1:=by rw [rangeSize_one]; split <;> omega
  show IsRangeIter _ _ (lo + ((0 : Nat) : Int) * 1) ((((hi - lo).toNat : Nat) : Int) - ((0 : Nat) : Int)) 1
  rw [e1,e2]
  exact Heap.get?_push_size _ rfl
 ·have e : b = (s.heap.push { cls:=.type "range",data:=.fields #[.int lo t,.int hi u,.int 1 v] }).objs.size:=by simpa using hb
  subst e
  exact I1.fpOk (Nat.le_refl _) (I1.hok.fresh (Nat.le_refl _))
def iRng1 (ta : TA) : TI:=fun σ H R=>ta σ H fun vs H1=>∃ j : Int,vs = [.int j]∧-(2 ^ 62) ≤ j∧j < 2 ^ 62∧R (Itr 0 j.toNat) H1
def iRng2 (ta : TA) : TI:=fun σ H R=>ta σ H fun vs H1=>∃ i j : Int,vs = [.int i,.int j]∧(-(2 ^ 62) ≤ i∧i < 2 ^ 62∧-(2 ^ 62) ≤ j∧j < 2 ^ 62)∧R (Itr i (j - i).toNat) H1
theorem pi_range1 {a : Expr} {ta : TA} {p pos : Pos} (hg : Gl X "range") (hm : X.mg "range" = none) (ha : PA X [a] ta) (hs : starEach [a] X.env = [(false,eval a X.env)]:=by rfl) : PI X tg (.Call (.Name "range" p) [a] [] pos) (iRng1 ta):=by
 intro pins s σ H R I h
 refine Call_ (ld_blt I hg hm boot_range (PyProof.Rows.callWith_type1 (thn (ha pos pins s σ H _ I h) fun us s1 ⟨vs,H1,I1,r1,q1⟩=>?_) hs rfl))
 obtain ⟨j,e,q1,q2,q⟩:=q1
 subst e
 cases r1 with
 | cons r rr =>
  cases rr
  obtain ⟨t,rfl⟩:=r
  exact call_range_1 (range_it I1 (by omega) (by omega) q1 q2 (by simpa using q))
theorem pi_range2 {a b : Expr} {ta : TA} {p pos : Pos} (hg : Gl X "range") (hm : X.mg "range" = none) (ha : PA X [a,b] ta) (hs : starEach [a,b] X.env = [(false,eval a X.env),(false,eval b X.env)]:=by rfl) (hs2 : starEach [b] X.env = [(false,eval b X.env)]:=by rfl) :
  PI X tg (.Call (.Name "range" p) [a,b] [] pos) (iRng2 ta):=by
 intro pins s σ H R I h
 refine Call_ (ld_blt I hg hm boot_range (PyProof.Rows.callWith_type1 (thn (ha pos pins s σ H _ I h) fun us s1 ⟨vs,H1,I1,r1,q1⟩=>?_) (by rw [hs,hs2]) (by rw [hs2]; rfl)))
 obtain ⟨i,j,e,⟨q1,q2,q3,q4⟩,q⟩:=q1
 subst e
 cases r1 with
 | cons r rr =>
  cases rr with
  | cons r' rr =>
   cases rr
   obtain ⟨t,rfl⟩:=r
   obtain ⟨t',rfl⟩:=r'
   exact call_range_2 (range_it I1 q1 q2 q3 q4 q)
def tFor (wi : TI) (g : TG) (tb : TS) : TS:=fun D σ H=>wi σ H fun J H1=>∃ W : Nat→Nat→St→Hp→Prop,(∃ m,W 0 m σ H1)∧∀ i m σ H,W i m σ H →
 (J.stop i H∧D.nx σ H)∨(J.go i H∧∃ N : St→Hp→Prop,(∀ σ' H',N σ' H'→∃ m',m' < m∧W (i + 1) m' σ' H')∧∀ x H',J.yld i H x H'→g x σ H' fun σ2 H2=>tb { D with nx:=N,ct:=N,bk:=D.nx } σ2 H2)
def pinsAt (fp : List Addr) (h : Heap) : List (Addr × Obj):=fp.filterMap fun b=>(h.get? b).map fun o=>(b,o)
theorem mem_pinsAt {fp : List Addr} {h : Heap} {b : Addr} {o : Obj} (hb : b ∈ fp) (e : h.get? b = some o) : (b,o) ∈ pinsAt fp h:=List.mem_filterMap.mpr ⟨b,hb,by rw [e]; rfl⟩
theorem of_pinsAt {fp : List Addr} {h : Heap} {p : Addr × Obj} (hp : p ∈ pinsAt fp h) : p.1 ∈ fp∧h.get? p.1 = some p.2:=by
 obtain ⟨b,hb,e⟩:=List.mem_filterMap.mp hp
 cases q : h.get? b with
 | none=>rw [q] at e; cases e
 | some o =>
  rw [q] at e
  have e' : (b,o) = p:=Option.some.inj e
  subst e'
  exact ⟨hb,q⟩
theorem Inv.pinned {pins : List (Addr × Obj)} {σ : St} {H : Hp} {s : Shared} {fp : List Addr} (I : Inv X pins σ H s) (hf : ∀ b ∈ fp,FpOk X pins H b) (ho : ∀ b ∈ fp,∃ o,s.heap.get? b = some o∧∀ v,o.data ≠ .cell v) : Inv X (pins ++ pinsAt fp s.heap) σ H s :=
 I.pins_of fun p hp=>(List.mem_append.mp hp).elim (fun z=>I.pin p (List.mem_append_right _ z)) fun z=>by
  obtain ⟨hb,e⟩:=of_pinsAt z
  obtain ⟨f0,f1,f2,_⟩:=hf p.1 hb
  obtain ⟨o,e',d⟩:=ho p.1 hb
  rw [e] at e'; cases e'
  exact ⟨e,f0,f1,f2,d⟩
theorem Inv.unpinned {pins pl : List (Addr × Obj)} {σ : St} {H : Hp} {s : Shared} (I : Inv X (pins ++ pl) σ H s) : Inv X pins σ H s:=I.pins_of fun p hp=>I.pin p (List.mem_append_right _ (List.mem_append_left _ hp))
theorem ps_for {iter : Expr} {body : List Stmt} {wi : TI} {g : TG} {tb : TS} {pos : Pos} (hp : PassesOwn (model X.prog X.w) X.A X.env X.xe) (hc : X.calm = true) (hi : PI X tg iter wi) (hg : PG X tg g) (hb : PSs X body tb)
  (hs : ∀ x,foldedSetIterable iter X.env x = pure x:=by intro _; rfl) : PS X (.For tg iter body [] pos) (tFor wi g tb):=by
 intro pins s σ H D I h
 refine wpAny_For (thn (hi pins s σ H _ I h) fun v s1 h1=>thn h1 fun itv s2 h2=>?_) hs
 obtain ⟨it,fp,tn,J,H2,e,I2,T,st2,f2,W,⟨m0,w0⟩,turn⟩:=h2
 subst e
 have stat : ∀ {H' : Hp},(∀ b ∈ fp,H' b = none)→∀ b ∈ fp,FpOk X pins H' b:=fun hn b hb=>⟨hn b hb,(f2 b hb).2⟩
 refine codeAny_forLoop_any (fun n s'=>∃ i σ' H',Inv X pins σ' H' s'∧tn i s'.heap∧(∀ b ∈ fp,H' b = none)∧W i n σ' H') ?_ m0 ⟨0,σ,H2,I2,st2,fun b hb=>(f2 b hb).1,w0⟩
 rintro n s3 ⟨i,σ3,H3,I3,st3,fr3,w3⟩
 rcases turn i n σ3 H3 w3 with ⟨stop,qn⟩ | ⟨go,N,hN,step⟩
 ·refine wpAny_passesOwn hp (thn (T.done X rfl rfl rfl hc i pins s3 σ3 H3 X.xe I3 (stat fr3) st3 stop) fun r s4 ⟨hr,I4⟩=>?_)
  subst hr
  exact wpAny_execs_nil ⟨σ3,H3,I4,qn⟩
 ·refine wpAny_passesOwn hp (thn (T.item X rfl rfl rfl hc i pins s3 σ3 H3 X.xe I3 (stat fr3) st3 go) fun r s4 ⟨u,hr,h4⟩=>?_)
  subst hr
  refine wpAny_passesOwn hp (thn h4 fun _ s5 ⟨x,H5,I5,r5,y5,st5,fr5⟩=>?_)
  have I5':=I5.pinned (stat fr5) (T.obj _ _ st5)
  refine wpAny_passesOwn hp (thn (hg _ s5 σ3 H5 x u _ I5' r5 (step x H5 y5)) fun _ s6 ⟨σ6,H6,I6,q6⟩=>?_)
  refine wpAny_passesOwn hp (thn (hb _ s6 σ6 H6 _ I6 q6) fun f s7 q7=>?_)
  have again : ∀ {σ7 : St} {H7 : Hp},Inv X (pins ++ pinsAt fp s5.heap) σ7 H7 s7→N σ7 H7→∃ m,m < n∧∃ i σ' H',Inv X pins σ' H' s7∧tn i s7.heap∧(∀ b ∈ fp,H' b = none)∧W i m σ' H':=fun {σ7 H7} I7 n7=>by
   obtain ⟨m',hm,w7⟩:=hN σ7 H7 n7
   refine ⟨m',hm,i + 1,σ7,H7,I7.unpinned,T.keep _ _ _ st5 fun b hb o e=>(I7.pin (b,o) (List.mem_append_right _ (List.mem_append_right _ (mem_pinsAt hb e)))).1,fun b hb=>?_,w7⟩
   obtain ⟨o,e,d⟩:=T.obj _ _ st5 b hb
   exact (I7.pin (b,o) (List.mem_append_right _ (List.mem_append_right _ (mem_pinsAt hb e)))).2.1
  cases f with
  | next=>obtain ⟨σ7,H7,I7,n7⟩:=q7; exact again I7 n7
  | cont=>obtain ⟨σ7,H7,I7,n7⟩:=q7; exact again I7 n7
  | brk=>obtain ⟨σ7,H7,I7,q7⟩:=q7; exact ⟨σ7,H7,I7.unpinned,q7⟩
  | ret v=>obtain ⟨x7,σ7,H7,I7,r7,q7⟩:=q7; exact ⟨x7,σ7,H7,I7.unpinned,r7,q7⟩
end
theorem for_list {K : PySem.W.Frag} {a : Addr} {xs : List V} {g : TG} {tb : TS} {D : Ends} {σ : St} {H : Hp} (Pv : Nat→St→Hp→Prop) (h0 : Pv 0 σ H) (hl : ∀ i σ H,i ≤ xs.length→Pv i σ H→SqL K H a xs)
  (hs : ∀ i x σ H,xs[i]? = some x→Pv i σ H→g x σ H fun σ2 H2=>tb { D with nx:=Pv (i + 1),ct:=Pv (i + 1),bk:=D.nx } σ2 H2) (hd : ∀ σ H,Pv xs.length σ H→D.nx σ H) :
  ∃ W : Nat→Nat→St→Hp→Prop,(∃ m,W 0 m σ H)∧∀ i m σ H,W i m σ H →
   ((Itl K a).stop i H∧D.nx σ H)∨((Itl K a).go i H∧∃ N : St→Hp→Prop,(∀ σ' H',N σ' H'→∃ m',m' < m∧W (i + 1) m' σ' H')∧∀ x H',(Itl K a).yld i H x H'→g x σ H' fun σ2 H2=>tb { D with nx:=N,ct:=N,bk:=D.nx } σ2 H2):=by
 refine ⟨fun i m σ H=>m = xs.length - i∧i ≤ xs.length∧Pv i σ H,⟨xs.length,by simp,Nat.zero_le _,h0⟩,?_⟩
 rintro i m σ H ⟨rfl,hi,p⟩
 have q:=hl i σ H hi p
 by_cases hlt : i < xs.length
 ·refine .inr ⟨⟨xs,xs[i],q,by simp [hlt]⟩,Pv (i + 1),fun σ' H' p'=>⟨xs.length - (i + 1),by omega,rfl,hlt,p'⟩,fun x H' y=>?_⟩
  obtain ⟨e,y⟩:=y
  subst e
  exact hs i x σ _ (y xs q) p
 ·have e : i = xs.length:=by omega
  subst e
  exact .inl ⟨⟨xs,q,Nat.le_refl _⟩,hd σ H p⟩
theorem for_tup {K : PySem.W.Frag} {a : Addr} {xs : List V} {g : TG} {tb : TS} {D : Ends} {σ : St} {H : Hp} (Pv : Nat→St→Hp→Prop) (h0 : Pv 0 σ H) (hl : ∀ i σ H,i ≤ xs.length→Pv i σ H→SqT K H a xs)
  (hs : ∀ i x σ H,xs[i]? = some x→Pv i σ H→g x σ H fun σ2 H2=>tb { D with nx:=Pv (i + 1),ct:=Pv (i + 1),bk:=D.nx } σ2 H2) (hd : ∀ σ H,Pv xs.length σ H→D.nx σ H) :
  ∃ W : Nat→Nat→St→Hp→Prop,(∃ m,W 0 m σ H)∧∀ i m σ H,W i m σ H →
   ((Itt K a).stop i H∧D.nx σ H)∨((Itt K a).go i H∧∃ N : St→Hp→Prop,(∀ σ' H',N σ' H'→∃ m',m' < m∧W (i + 1) m' σ' H')∧∀ x H',(Itt K a).yld i H x H'→g x σ H' fun σ2 H2=>tb { D with nx:=N,ct:=N,bk:=D.nx } σ2 H2):=by
 refine ⟨fun i m σ H=>m = xs.length - i∧i ≤ xs.length∧Pv i σ H,⟨xs.length,by simp,Nat.zero_le _,h0⟩,?_⟩
 rintro i m σ H ⟨rfl,hi,p⟩
 have q:=hl i σ H hi p
 by_cases hlt : i < xs.length
 ·refine .inr ⟨⟨xs,xs[i],q,by simp [hlt]⟩,Pv (i + 1),fun σ' H' p'=>⟨xs.length - (i + 1),by omega,rfl,hlt,p'⟩,fun x H' y=>?_⟩
  obtain ⟨e,y⟩:=y
  subst e
  exact hs i x σ _ (y xs q) p
 ·have e : i = xs.length:=by omega
  subst e
  exact .inl ⟨⟨xs,q,Nat.le_refl _⟩,hd σ H p⟩
theorem for_range {lo : Int} {n : Nat} {g : TG} {tb : TS} {D : Ends} {σ : St} {H : Hp} (Pv : Nat→St→Hp→Prop) (h0 : Pv 0 σ H)
  (hs : ∀ i σ H,i < n→Pv i σ H→g (.int (lo + i)) σ H fun σ2 H2=>tb { D with nx:=Pv (i + 1),ct:=Pv (i + 1),bk:=D.nx } σ2 H2) (hd : ∀ σ H,Pv n σ H→D.nx σ H) :
  ∃ W : Nat→Nat→St→Hp→Prop,(∃ m,W 0 m σ H)∧∀ i m σ H,W i m σ H →
   ((Itr lo n).stop i H∧D.nx σ H)∨((Itr lo n).go i H∧∃ N : St→Hp→Prop,(∀ σ' H',N σ' H'→∃ m',m' < m∧W (i + 1) m' σ' H')∧∀ x H',(Itr lo n).yld i H x H'→g x σ H' fun σ2 H2=>tb { D with nx:=N,ct:=N,bk:=D.nx } σ2 H2):=by
 refine ⟨fun i m σ H=>m = n - i∧i ≤ n∧Pv i σ H,⟨n,by simp,Nat.zero_le _,h0⟩,?_⟩
 rintro i m σ H ⟨rfl,hi,p⟩
 by_cases hlt : i < n
 ·refine .inr ⟨hlt,Pv (i + 1),fun σ' H' p'=>⟨n - (i + 1),by omega,rfl,hlt,p'⟩,fun x H' y=>?_⟩
  obtain ⟨e,y⟩:=y
  subst e y
  exact hs i σ _ hlt p
 ·have e : i = n:=by omega
  subst e
  exact .inl ⟨Nat.le_refl _,hd σ H p⟩
theorem while_by {c : TT} {tb : TS} {D : Ends} {σ : St} {H : Hp} (Pv : St→Hp→Prop) (μ : St→Hp→Nat) (h0 : Pv σ H)
  (hs : ∀ σ H,Pv σ H→c σ H fun b H1=>if b = true then tb { D with nx:=fun σ' H'=>Pv σ' H'∧μ σ' H' < μ σ H,ct:=fun σ' H'=>Pv σ' H'∧μ σ' H' < μ σ H,bk:=D.nx } σ H1 else D.nx σ H1)
  (mono : ∀ σ H Q Q',(∀ b H1,Q b H1→Q' b H1)→c σ H Q→c σ H Q') : tWhile c tb D σ H:=by
 refine ⟨fun m σ H=>m = μ σ H∧Pv σ H,⟨_,rfl,h0⟩,?_⟩
 rintro m σ H ⟨rfl,p⟩
 refine mono σ H _ _ (fun b H1 q=>?_) (hs σ H p)
 cases b with
 | true=>exact ⟨_,fun σ' H' ⟨p',l⟩=>⟨_,l,rfl,p'⟩,q⟩
 | false=>exact q
end L2
namespace L2
open PySem PySem.Spec PyProof.Rows
abbrev R2:=V→V→Hp→VK→Prop
def OpR (X : Cx) (f : Value→Value→Sem Value) (r : R2) : Prop :=
 ∀ (pins : List (Addr × Obj)) (s : Shared) (σ : St) (H : Hp) (x y : V) (v u : Value) (Q : VK),Inv X pins σ H s→RelV x v→RelV y u→r x y H Q →
  wpAny (model X.prog X.w) X.A (f v u) (EP X pins σ Q) X.xe s
def UnR (X : Cx) (f : Value→Sem Value) (r : V→Hp→VK→Prop) : Prop :=
 ∀ (pins : List (Addr × Obj)) (s : Shared) (σ : St) (H : Hp) (x : V) (v : Value) (Q : VK),Inv X pins σ H s→RelV x v→r x H Q →
  wpAny (model X.prog X.w) X.A (f v) (EP X pins σ Q) X.xe s
def CallR (X : Cx) (f : Value) (r : List V→Hp→VK→Prop) : Prop :=
 ∀ (pins : List (Addr × Obj)) (s : Shared) (σ : St) (H : Hp) (xs : List V) (us : List Value) (Q : VK),Inv X pins σ H s→Vals xs us→r xs H Q →
  wpAny (model X.prog X.w) X.A (call f us) (EP X pins σ Q) X.xe s
def tOp (r : R2) (ta tb : TE) : TE:=fun σ H Q=>ta σ H fun x H1=>tb σ H1 fun y H2=>r x y H2 Q
def tUn (r : V→Hp→VK→Prop) (ta : TE) : TE:=fun σ H Q=>ta σ H fun x H1=>r x H1 Q
def rI (C : Int→Int→Prop) (g : Int→Int→V) : R2:=fun x y H Q=>∃ i j,x = .int i∧y = .int j∧C i j∧Q (g i j) H
def rI0 (g : Int→Int→V) : R2:=fun x y H Q=>∃ i j,x = .int i∧y = .int j∧Q (g i j) H
def rU (g : Int→V) : V→Hp→VK→Prop:=fun x H Q=>∃ i,x = .int i∧Q (g i) H
section
variable {X : Cx} {a b c : Expr} {ta tb tc : TE} {pos : Pos}
theorem binT (ha : PE X a ta) (hb : PE X b tb) {pins : List (Addr × Obj)} {s : Shared} {σ : St} {H : Hp} {R : V→V→Hp→Prop} (I : Inv X pins σ H s)
  (h : ta σ H fun x H1=>tb σ H1 fun y H2=>R x y H2) {Q : Value→Shared→Prop} {f : Value→Value→Sem Value}
  (hf : ∀ v u s2 x y H2,Inv X pins σ H2 s2→RelV x v→RelV y u→R x y H2→wpAny (model X.prog X.w) X.A (f v u) Q X.xe s2) :
  wpAny (model X.prog X.w) X.A (eval a X.env) (fun v s₁=>wpAny (model X.prog X.w) X.A (eval b X.env) (fun u s₂=>wpAny (model X.prog X.w) X.A (f v u) Q X.xe s₂) X.xe s₁) X.xe s:=by
 refine thn (ha pins s σ H _ I h) fun v s1 ⟨x,H1,I1,r1,q1⟩=>?_
 refine thn (hb pins s1 σ H1 _ I1 q1) fun u s2 ⟨y,H2,I2,r2,q2⟩=>?_
 exact hf v u s2 x y H2 I2 r1 r2 q2
theorem pe_op {op : Operator} {r : R2} (ho : OpR X (binaryOp op) r) (ha : PE X a ta) (hb : PE X b tb) : PE X (.BinOp a op b pos) (tOp r ta tb):=by
 intro pins s σ H Q I h
 exact wpAny_BinOp (binT ha hb I h fun v u s2 x y H2 I2 rx ry q=>ho pins s2 σ H2 x y v u Q I2 rx ry q)
theorem pe_un {op : UnaryOp} {r : V→Hp→VK→Prop} (ho : UnR X (unaryOp op) r) (ha : PE X a ta) : PE X (.UnaryOp op a pos) (tUn r ta):=by
 intro pins s σ H Q I h
 exact UnaryOp_ (thn (ha pins s σ H _ I h) fun v s1 ⟨x,H1,I1,r1,q1⟩=>ho pins s1 σ H1 x v Q I1 r1 q1)
theorem opI {f : Value→Value→Sem Value} {C : Int→Int→Prop} {g : Int→Int→Int}
  (rule : ∀ (i j : Int) (t u : Tok) (s : Shared) (Q : Value→Shared→Prop) (E : Value→Shared→Prop),C i j→Q (.int (g i j) s.toks) { s with toks:=s.toks + 1 }→wpAny (model X.prog X.w) X.A (f (.int i t) (.int j u)) Q E s) :
  OpR X f (rI C fun i j=>.int (g i j)):=by
 intro pins s σ H x y v u Q I rx ry h
 obtain ⟨i,j,rfl,rfl,hc,q⟩:=h
 obtain ⟨t,rfl⟩:=rx
 obtain ⟨t',rfl⟩:=ry
 exact rule i j t t' s _ _ hc ⟨.int (g i j),H,I.tok _,⟨_,rfl⟩,q⟩
theorem opI0 {f : Value→Value→Sem Value} {g : Int→Int→Int}
  (rule : ∀ (i j : Int) (t u : Tok) (s : Shared) (Q : Value→Shared→Prop) (E : Value→Shared→Prop),Q (.int (g i j) s.toks) { s with toks:=s.toks + 1 }→wpAny (model X.prog X.w) X.A (f (.int i t) (.int j u)) Q E s) :
  OpR X f (rI0 fun i j=>.int (g i j)):=by
 intro pins s σ H x y v u Q I rx ry h
 obtain ⟨i,j,rfl,rfl,q⟩:=h
 obtain ⟨t,rfl⟩:=rx
 obtain ⟨t',rfl⟩:=ry
 exact rule i j t t' s _ _ ⟨.int (g i j),H,I.tok _,⟨_,rfl⟩,q⟩
theorem opB0 {f : Value→Value→Sem Value} {g : Int→Int→Bool}
  (rule : ∀ (i j : Int) (t u : Tok) (s : Shared) (Q : Value→Shared→Prop) (E : Value→Shared→Prop),Q (.bool (g i j)) s→wpAny (model X.prog X.w) X.A (f (.int i t) (.int j u)) Q E s) :
  OpR X f (rI0 fun i j=>.bl (g i j)):=by
 intro pins s σ H x y v u Q I rx ry h
 obtain ⟨i,j,rfl,rfl,q⟩:=h
 obtain ⟨t,rfl⟩:=rx
 obtain ⟨t',rfl⟩:=ry
 exact rule i j t t' s _ _ ⟨.bl (g i j),H,I,rfl,q⟩
def CDiv (i j : Int) : Prop:=0 < j∧j < 1073741824
def CPow (i j : Int) : Prop:=0 ≤ j∧j ≤ 1000000∧i.natAbs < 2 ^ 64
def CMul (i j : Int) : Prop:=(-(2 ^ 64) < i∧i < 2 ^ 64)∨(-(2 ^ 64) < j∧j < 2 ^ 64)
theorem CMul.ok {i j : Int} (h : CMul i j) : IntMulOk i j:=by
 rcases h with ⟨h1,h2⟩ | ⟨h1,h2⟩
 ·exact .of_left (intBits_le_64 h1 h2)
 ·exact .of_right (intBits_le_64 h1 h2)
theorem op_add : OpR X (binaryOp .Add) (rI0 fun i j=>.int (i + j)):=opI0 fun _ _ _ _ _ _ _ q=>add_int q
theorem op_sub : OpR X (binaryOp .Sub) (rI0 fun i j=>.int (i - j)):=opI0 fun _ _ _ _ _ _ _ q=>sub_int q
theorem op_mul : OpR X (binaryOp .Mult) (rI CMul fun i j=>.int (i * j)):=opI fun _ _ _ _ _ _ _ hc q=>mul_int q hc.ok
theorem op_fdiv : OpR X (binaryOp .FloorDiv) (rI CDiv fun i j=>.int (i / j)):=opI fun i j _ _ _ _ _ hc q=>by
 have h1 : (0 : Int) < j:=hc.1
 have h2 : j < 1073741824:=hc.2
 exact floordiv_int (by omega) (by rw [Int.fdiv_eq_ediv_of_nonneg i (by omega)]; exact q) (.inl (PyProof.noPylong_small (by omega)))
theorem op_mod : OpR X (binaryOp .Mod) (rI (fun _ j=>0 < j) fun i j=>.int (i % j)):=opI fun i j _ _ _ _ _ hc q=>by
 have h1 : (0 : Int) < j:=hc
 exact mod_int' (by omega) (by rw [Int.fmod_eq_emod_of_nonneg i (by omega)]; exact q)
theorem op_pow : OpR X (binaryOp .Pow) (rI CPow fun i j=>.int (i ^ j.toNat)):=opI fun _ _ _ _ _ _ _ hc q=>pow_int_small hc.1 hc.2.1 hc.2.2 q
theorem unI {f : Value→Sem Value} {g : Int→Int}
  (rule : ∀ (i : Int) (t : Tok) (s : Shared) (Q : Value→Shared→Prop) (E : Value→Shared→Prop),Q (.int (g i) s.toks) { s with toks:=s.toks + 1 }→wpAny (model X.prog X.w) X.A (f (.int i t)) Q E s) :
  UnR X f (rU fun i=>.int (g i)):=by
 intro pins s σ H x v Q I rx h
 obtain ⟨i,rfl,q⟩:=h
 obtain ⟨t,rfl⟩:=rx
 exact rule i t s _ _ ⟨.int (g i),H,I.tok _,⟨_,rfl⟩,q⟩
theorem un_neg : UnR X (unaryOp .USub) (rU fun i=>.int (-i)):=unI fun _ _ _ _ _ q=>neg_int q
end
def scal : V→V→Bool
 | .non,.non=>true | .non,.int _=>true | .int _,.non=>true | .non,.bl _=>true | .bl _,.non=>true | .non,.str _=>true | .str _,.non=>true
 | .int _,.int _=>true | .bl _,.bl _=>true | .str _,.str _=>true | .byt _,.byt _=>true
 | .int _,.str _=>true | .str _,.int _=>true | .bl _,.str _=>true | .str _,.bl _=>true
 | _,_=>false
def rEq : R2:=fun x y H Q=>scal x y = true∧Q (.bl (decide (x = y))) H
def rNe : R2:=fun x y H Q=>scal x y = true∧Q (.bl (!decide (x = y))) H
theorem dec_int {i j : Int} : decide (V.int i = V.int j) = (i == j):=by
 rw [Bool.eq_iff_iff]
 simp
theorem dec_bl {i j : Bool} : decide (V.bl i = V.bl j) = (i == j):=by
 rw [Bool.eq_iff_iff]
 simp
theorem dec_str {i j : Str} : decide (V.str i = V.str j) = (i == j):=by
 rw [Bool.eq_iff_iff]
 simp
theorem dec_byt {i j : Array UInt8} : decide (V.byt i = V.byt j) = (i.toList == j.toList):=by
 rw [Bool.eq_iff_iff]
 cases i
 cases j
 simp
section
variable {X : Cx} {a b c : Expr} {ta tb tc : TE} {pos : Pos}
theorem fin_bl {pins : List (Addr × Obj)} {σ : St} {H : Hp} {s : Shared} {Q : VK} {k k' : Bool} (I : Inv X pins σ H s) (q : Q (.bl k) H) (e : k = k') : EP X pins σ Q (.bool k') s:=by
 subst e
 exact ⟨.bl k,H,I,rfl,q⟩
theorem op_eq : OpR X (compareOp .Eq) rEq:=by
 intro pins s σ H x y v u Q I rx ry h
 obtain ⟨hs,q⟩:=h
 cases x with
 | non =>
  cases rx
  cases y with
  | non=>cases ry; exact PySem.EqNone.eq_none_none (fin_bl I q (by simp))
  | bl j=>cases ry; exact PySem.EqNone.eq_none_bool (fin_bl I q (by simp))
  | int j=>obtain ⟨t',rfl⟩:=ry; exact PySem.EqNone.eq_none_int (fin_bl I q (by simp))
  | str j=>obtain ⟨t',rfl⟩:=ry; exact PySem.EqNone.eq_none_str (fin_bl I q (by simp))
  | _=>exact absurd (show false = true from hs) Bool.false_ne_true
 | bl i =>
  cases rx
  cases y with
  | non=>cases ry; exact PySem.EqNone.eq_bool_none (fin_bl I q (by simp))
  | bl j=>cases ry; exact eq_bool (fin_bl I q dec_bl)
  | str j=>obtain ⟨t',rfl⟩:=ry; exact PySem.EqMixed.eq_bool_str (fin_bl I q (by simp))
  | _=>exact absurd (show false = true from hs) Bool.false_ne_true
 | int i =>
  obtain ⟨t,rfl⟩:=rx
  cases y with
  | non=>cases ry; exact PySem.EqNone.eq_int_none (fin_bl I q (by simp))
  | int j=>obtain ⟨t',rfl⟩:=ry; exact eq_int (fin_bl I q dec_int)
  | str j=>obtain ⟨t',rfl⟩:=ry; exact PySem.EqMixed.eq_int_str (fin_bl I q (by simp))
  | _=>exact absurd (show false = true from hs) Bool.false_ne_true
 | str i =>
  obtain ⟨t,rfl⟩:=rx
  cases y with
  | non=>cases ry; exact PySem.EqNone.eq_str_none (fin_bl I q (by simp))
  | bl j=>cases ry; exact PySem.EqMixed.eq_str_bool (fin_bl I q (by simp))
  | int j=>obtain ⟨t',rfl⟩:=ry; exact PySem.EqMixed.eq_str_int (fin_bl I q (by simp))
  | str j=>obtain ⟨t',rfl⟩:=ry; exact eq_str (fin_bl I q dec_str)
  | _=>exact absurd (show false = true from hs) Bool.false_ne_true
 | byt i =>
  obtain ⟨t,rfl⟩:=rx
  cases y with
  | byt j=>obtain ⟨t',rfl⟩:=ry; exact PySem.W.eq_bytes (fin_bl I q dec_byt)
  | _=>exact absurd (show false = true from hs) Bool.false_ne_true
 | _=>cases y <;> exact absurd (show false = true from hs) Bool.false_ne_true
theorem op_ne : OpR X (compareOp .NotEq) rNe:=by
 intro pins s σ H x y v u Q I rx ry h
 obtain ⟨hs,q⟩:=h
 cases x with
 | non =>
  cases rx
  cases y with
  | non=>cases ry; exact PySem.EqNone.ne_none_none (fin_bl I q (by simp))
  | bl j=>cases ry; exact PySem.EqNone.ne_none_bool (fin_bl I q (by simp))
  | int j=>obtain ⟨t',rfl⟩:=ry; exact PySem.EqNone.ne_none_int (fin_bl I q (by simp))
  | str j=>obtain ⟨t',rfl⟩:=ry; exact PySem.EqNone.ne_none_str (fin_bl I q (by simp))
  | _=>exact absurd (show false = true from hs) Bool.false_ne_true
 | bl i =>
  cases rx
  cases y with
  | non=>cases ry; exact PySem.EqNone.ne_bool_none (fin_bl I q (by simp))
  | bl j=>cases ry; exact ne_bool (fin_bl I q (congrArg not dec_bl))
  | str j=>obtain ⟨t',rfl⟩:=ry; exact PySem.EqMixed.ne_bool_str (fin_bl I q (by simp))
  | _=>exact absurd (show false = true from hs) Bool.false_ne_true
 | int i =>
  obtain ⟨t,rfl⟩:=rx
  cases y with
  | non=>cases ry; exact PySem.EqNone.ne_int_none (fin_bl I q (by simp))
  | int j=>obtain ⟨t',rfl⟩:=ry; exact ne_int (fin_bl I q (congrArg not dec_int))
  | str j=>obtain ⟨t',rfl⟩:=ry; exact PySem.EqMixed.ne_int_str (fin_bl I q (by simp))
  | _=>exact absurd (show false = true from hs) Bool.false_ne_true
 | str i =>
  obtain ⟨t,rfl⟩:=rx
  cases y with
  | non=>cases ry; exact PySem.EqNone.ne_str_none (fin_bl I q (by simp))
  | bl j=>cases ry; exact PySem.EqMixed.ne_str_bool (fin_bl I q (by simp))
  | int j=>obtain ⟨t',rfl⟩:=ry; exact PySem.EqMixed.ne_str_int (fin_bl I q (by simp))
  | str j=>obtain ⟨t',rfl⟩:=ry; exact ne_str (fin_bl I q (congrArg not dec_str))
  | _=>exact absurd (show false = true from hs) Bool.false_ne_true
 | byt i =>
  obtain ⟨t,rfl⟩:=rx
  cases y with
  | byt j=>obtain ⟨t',rfl⟩:=ry; exact PySem.W.ne_bytes (fin_bl I q (congrArg not dec_byt))
  | _=>exact absurd (show false = true from hs) Bool.false_ne_true
 | _=>cases y <;> exact absurd (show false = true from hs) Bool.false_ne_true
theorem op_lt : OpR X (compareOp .Lt) (rI0 fun i j=>.bl (decide (i < j))):=opB0 fun _ _ _ _ _ _ _ q=>lt_int q
theorem op_gt : OpR X (compareOp .Gt) (rI0 fun i j=>.bl (decide (j < i))):=opB0 fun _ _ _ _ _ _ _ q=>gt_int q
theorem nomark (b : Expr) {op : CmpOp} (h : op ≠ .In:=by decide) (h2 : op ≠ .NotIn:=by decide) : behindInMarks op b = false:=by
 have e1 : (op == CmpOp.In) = false:=by cases op <;> first | rfl | exact absurd rfl h
 have e2 : (op == CmpOp.NotIn) = false:=by cases op <;> first | rfl | exact absurd rfl h2
 cases b <;> simp [behindInMarks,e1,e2]
theorem pe_cmpR {op : CmpOp} {r : R2} (ho : OpR X (compareOp op) r) (ha : PE X a ta) (hb : PE X b tb) (hm : behindInMarks op b = false) : PE X (.Compare a [op] [b] pos) (tOp r ta tb):=by
 intro pins s σ H Q I h
 exact wpAny_Compare1 (binT ha hb I h fun v u s2 x y H2 I2 rx ry q=>ho pins s2 σ H2 x y v u Q I2 rx ry q) hm
def tTest (t : TE) : TT:=fun σ H Q=>t σ H fun x H'=>∃ k,x = .bl k∧Q k H'
theorem pt_cmpR {op : CmpOp} {r : R2} (ho : OpR X (compareOp op) r) (ha : PE X a ta) (hb : PE X b tb) (hm : behindInMarks op b = false) : PT X (.Compare a [op] [b] pos) (tTest (tOp r ta tb)):=by
 intro pins s σ H Q I h
 refine wpAny_isTrue_Compare1 (thn (ha pins s σ H _ I h) fun v s1 ⟨x,H1,I1,r1,q1⟩=>thn (hb pins s1 σ H1 _ I1 q1) fun u s2 ⟨y,H2,I2,r2,q2⟩ =>
  thn (ho pins s2 σ H2 x y v u _ I2 r1 r2 q2) fun c s3 ⟨z,H3,I3,r3,k,e,q3⟩=>?_) hm
 subst e
 cases r3
 exact wpAny_truthy_bool ⟨H3,I3,q3⟩
theorem line63 : (sizeLine : Nat) < 2 ^ 63:=by rw [sizeLine_eq]; decide
theorem op_add_str : OpR X (binaryOp .Add) (fun x y H Q=>∃ i j,x = .str i∧y = .str j∧i.length + j.length ≤ sizeLine∧Q (.str (i ++ j)) H):=by
 intro pins s σ H x y v u Q I rx ry h
 obtain ⟨i,j,rfl,rfl,hz,q⟩:=h
 obtain ⟨t,rfl⟩:=rx
 obtain ⟨t',rfl⟩:=ry
 exact add_str (fun t' tk=>⟨.str (i ++ j),H,I.tok _,⟨_,rfl⟩,q⟩) hz
theorem vals1 {x : V} {us : List Value} (r : Vals [x] us) : ∃ u,us = [u]∧RelV x u:=by
 cases r with
 | cons r1 r2=>cases r2; exact ⟨_,rfl,r1⟩
theorem vals2 {x y : V} {us : List Value} (r : Vals [x,y] us) : ∃ u w',us = [u,w']∧RelV x u∧RelV y w':=by
 cases r with
 | cons r1 r2 =>
  cases r2 with
  | cons r3 r4=>cases r4; exact ⟨_,_,rfl,r1,r3⟩
theorem call_max2 (hc : X.calm = true) : CallR X (.builtin "max") (fun xs H Q=>∃ i j,xs = [.int i,.int j]∧Q (.int (if j > i then j else i)) H):=by
 intro pins s σ H xs us Q I r h
 obtain ⟨i,j,rfl,q⟩:=h
 obtain ⟨u,w',rfl,⟨t,rfl⟩,⟨t',rfl⟩⟩:=vals2 r
 refine max_two_ints (I.ok.hd hc) fun h' tk k=>⟨_,H,I.kept k,?_,q⟩
 by_cases hj : j > i
 ·rw [if_pos hj,if_pos hj]; exact ⟨_,rfl⟩
 ·rw [if_neg hj,if_neg hj]; exact ⟨_,rfl⟩
theorem call_min2 (hc : X.calm = true) : CallR X (.builtin "min") (fun xs H Q=>∃ i j,xs = [.int i,.int j]∧Q (.int (if j < i then j else i)) H):=by
 intro pins s σ H xs us Q I r h
 obtain ⟨i,j,rfl,q⟩:=h
 obtain ⟨u,w',rfl,⟨t,rfl⟩,⟨t',rfl⟩⟩:=vals2 r
 refine min_two_ints (I.ok.hd hc) fun h' tk k=>⟨_,H,I.kept k,?_,q⟩
 by_cases hj : j < i
 ·rw [if_pos hj,if_pos hj]; exact ⟨_,rfl⟩
 ·rw [if_neg hj,if_neg hj]; exact ⟨_,rfl⟩
theorem call_int1 : CallR X (.type "int") (fun xs H Q=>(∃ i,xs = [.int i]∧Q (.int i) H)∨∃ k,xs = [.bl k]∧Q (.int (if k then 1 else 0)) H):=by
 intro pins s σ H xs us Q I r h
 rcases h with ⟨i,rfl,q⟩ | ⟨k,rfl,q⟩
 ·obtain ⟨u,rfl,t,rfl⟩:=vals1 r
  exact call_int_int ⟨.int i,H,I,⟨_,rfl⟩,q⟩
 ·obtain ⟨u,rfl,r1⟩:=vals1 r
  cases r1
  exact call_int_bool ⟨.int (if k then 1 else 0),H,I.tok _,⟨_,rfl⟩,q⟩
theorem call_str_int : CallR X (.type "str") (fun xs H Q=>∃ i,xs = [.int i]∧i.natAbs.log2 < 1920∧Q (.str (toString i)) H):=by
 intro pins s σ H xs us Q I r h
 obtain ⟨i,rfl,hz,q⟩:=h
 obtain ⟨u,rfl,t,rfl⟩:=vals1 r
 exact PySem.P.str_of_int hz ⟨.str _,H,I.tok _,⟨_,rfl⟩,q⟩
end
end L2
namespace L2
open PySem PySem.Spec PyProof.Rows
structure ObjM (h : Heap) (x dx C : Addr) (mA : Str→Option Value) : Prop where
 obj : h.get? x = some (PySem.W.instObj C dx)
 ns : h.Ns1 dx mA
 ne : dx ≠ x
theorem lookIn_ns {h : Heap} {dx : Addr} {mA : Str→Option Value} (n : h.Ns1 dx mA) : ∃ od,h.get? dx = some od∧∀ name,PySem.W.lookIn name od = some (mA name):=by
 obtain ⟨o,es,ep,ho,hd,hk,_,hm⟩:=n
 refine ⟨o,ho,fun name=>?_⟩
 have e:=hm name
 unfold nsFind findBy at e
 rw [← Array.find?_toList] at e
 unfold PySem.W.lookIn
 rw [hd]
 dsimp only
 split
 ·rename_i y q
  rw [q] at e
  exact congrArg some e
 ·rename_i q
  rw [q] at e
  have a : es.toList.any (·.refKey) = false:=by
   rw [List.any_eq_false]
   intro y hy
   obtain ⟨z,t,hkey⟩:=hk y (Array.mem_toList_iff.mp hy)
   simp [DictEntry.refKey,hkey]
  have a' : ¬ es.toList.any (·.refKey) = true:=by rw [a]; exact Bool.false_ne_true
  rw [if_neg a']
  exact congrArg some e
theorem ObjM.look {h : Heap} {x dx C : Addr} {mA : Str→Option Value} (I : ObjM h x dx C mA) : ∃ od,PySem.W.InstAt h x (PySem.W.instObj C dx) C (some od)∧∀ name,PySem.W.lookIn name od = some (mA name) :=
 let ⟨od,ho,hl⟩:=lookIn_ns I.ns
 ⟨od,⟨I.obj,rfl,rfl,ho⟩,hl⟩
section
variable {prog : Program} {w : World} {A : Around} {E : Value→Shared→Prop} {s : Shared} {K : PySem.W.Frag} {x dx C f : Addr} {mA : Str→Option Value} {name : Str} {v : Value}
end
theorem RelO.some_of {v : V} {o : Option Value} (r : RelO (some v) o) : ∃ u,o = some u∧RelV v u:=by
 cases o with
 | none=>exact (show False from r).elim
 | some u=>exact ⟨u,rfl,r⟩
section
variable {P : Program} {w : World} {H H' : Hp} {h h' : Heap} {a C dx : Addr} {fs fs' : List (Str × V)}
theorem ins_get (hok : HOk P w H h) (e : H a = some (.ins C dx fs)) : ∃ mA,ObjM h a dx C mA∧(∀ f,RelO (fs.lookup f) (mA f))∧PySem.Within mA (fs.map (·.1))∧fs.length ≤ 1000∧H dx = some (.own a):=by
 obtain ⟨d,z,ne,ob,mA,n,r,q⟩:=(show ObjOk P w H h a (.ins C dx fs) from hok a _ e)
 exact ⟨mA,⟨ob,n,ne⟩,r,q,z,d⟩
end
structure Cls (K : PySem.W.Frag) (C : Addr) : Prop where
 pg : PySem.W.plainGet K C Str.empty = true
 hd : PySem.W.hasDictIn K C = true
 po : PySem.W.plainOver K C = true
 sa : PySem.W.findIn K (.ref C) "__setattr__" = some (some (.builtin "object.__setattr__"))
theorem Cls.get {K : PySem.W.Frag} {C : Addr} (c : Cls K C) (f : Str) : PySem.W.plainGet K C f = true:=c.pg
section
variable {X : Cx} {pins : List (Addr × Obj)} {σ : St} {H : Hp} {s : Shared} {a C dx : Addr} {fs : List (Str × V)} {f : Str} {v : V} {A : Around} {E : Value→Shared→Prop}
end
section
variable {X : Cx} {o e value : Expr} {f : Str} {pos pos' tpos : Pos} {ta tv : TE}
end
section
variable {X : Cx} {pins : List (Addr × Obj)} {σ : St} {H : Hp} {s : Shared} {A : Around} {E : Value→Shared→Prop} {Q : Value→Shared→Prop} {c : Value} {b : Bool}
inductive TyOf (K : PySem.W.Frag) (H : Hp) : V→Value→Prop where
 | non : TyOf K H .non (.type "NoneType")
 | bl (x : Bool) : TyOf K H (.bl x) (.type "bool")
 | int (i : Int) : TyOf K H (.int i) (.type "int")
 | str (x : Str) : TyOf K H (.str x) (.type "str")
 | flt (x : UInt64) : TyOf K H (.flt x) (.type "float")
 | lst {a : Addr} {xs : List V} (e : H a = some (.lst xs)) : TyOf K H (.ref a) (.type "list")
 | frz {a : Addr} {o : Obj} {xs : List V} (e : H a = some (.frz o (.lst xs))) : TyOf K H (.ref a) (.type "list")
 | tup {a : Addr} {xs : List V} (e : H a = some (.tup xs)) : TyOf K H (.ref a) (.type "tuple")
 | dK {a : Addr} {kvs : List (Key × V)} (e : H a = some (.dK kvs)) : TyOf K H (.ref a) (.type "dict")
 | dT {a : Addr} {kvs : List (List Key × V)} (e : H a = some (.dT kvs)) : TyOf K H (.ref a) (.type "dict")
 | ins {a C dx : Addr} {fs : List (Str × V)} (e : H a = some (.ins C dx fs)) (cl : Cls K C) (ha : PySem.W.findIn K (.ref C) "__class__" = some (some (.builtin "object.__class__")))
   (hn : PySem.W.specialIn K (.builtin "object.__class__") "__get__" = some (some (.builtin "getset_descriptor.__get__"))) (htk : PySem.W.takesIn K (.builtin "object.__class__") = some true)
   (hm : PySem.W.mroIn K C (.type "object") = some true) : TyOf K H (.ref a) (.ref C)
theorem isinst_ok {x : V} {u t : Value} (I : Inv X pins σ H s) (rx : RelV x u) (ty : TyOf X.K H x t) (e : PySem.W.kitOne X.K t c = some b) (h : ∀ tk,Q (.bool b) { s with toks:=tk }) :
  wpAny (model X.prog X.w) A (call (.builtin "isinstance") [u,c]) Q E s:=by
 cases ty with
 | non=>cases (show u = Value.none from rx); exact PySem.W.kia_one PySem.W.kitx_none I.kIn True.intro e (fun z=>nomatch z) h
 | bl y=>cases (show u = Value.bool y from rx); exact PySem.W.kia_one PySem.W.kitx_bool I.kIn True.intro e (fun z=>nomatch z) h
 | int i=>obtain ⟨t,q⟩:=(show ∃ t,u = Value.int i t from rx); cases q; exact PySem.W.kia_one PySem.W.kitx_int I.kIn True.intro e (fun z=>nomatch z) h
 | str y=>obtain ⟨t,q⟩:=(show ∃ t,u = Value.str y t from rx); cases q; exact PySem.W.kia_one PySem.W.kitx_str I.kIn True.intro e (fun z=>nomatch z) h
 | flt y=>obtain ⟨t,q⟩:=(show ∃ t,u = Value.float y t from rx); cases q; exact PySem.W.kia_one PySem.W.kitx_float I.kIn True.intro e (fun z=>nomatch z) h
 | @lst a xs ea =>
  cases (show u = Value.ref a from rx)
  obtain ⟨_,_,n,_,h1⟩:=(show ObjOk X.prog X.w H s.heap a (.lst xs) from I.hok a _ ea)
  exact PySem.W.kia_one PySem.W.kitx_list I.kIn ⟨_,h1,rfl⟩ e (fun z=>nomatch z) h
 | @frz a ob xs ea =>
  cases (show u = Value.ref a from rx)
  obtain ⟨_,_,_,n,_,h1⟩:=(show ObjOk X.prog X.w H s.heap a (.frz ob (.lst xs)) from I.hok a _ ea)
  exact PySem.W.kia_one PySem.W.kitx_list I.kIn ⟨_,h1,rfl⟩ e (fun z=>nomatch z) h
 | @tup a xs ea =>
  cases (show u = Value.ref a from rx)
  obtain ⟨_,_,_,p⟩:=(show ObjOk X.prog X.w H s.heap a (.tup xs) from I.hok a _ ea)
  obtain ⟨o,h1,h2,_⟩:=p
  exact PySem.W.kia_one PySem.W.kitx_tuple I.kIn ⟨o,h1,h2⟩ e (fun z=>nomatch z) h
 | @dK a kvs ea =>
  cases (show u = Value.ref a from rx)
  obtain ⟨_,_,vs,_,p⟩:=(show ObjOk X.prog X.w H s.heap a (.dK kvs) from I.hok a _ ea)
  obtain ⟨o,es,ep,h1,h2,_⟩:=p
  exact PySem.W.kia_one PySem.W.kitx_dict I.kIn ⟨o,h1,h2.1⟩ e (fun z=>nomatch z) h
 | @dT a kvs ea =>
  cases (show u = Value.ref a from rx)
  obtain ⟨_,_,xs,_,o,es,ep,h1,h2,_⟩:=(show ObjOk X.prog X.w H s.heap a (.dT kvs) from I.hok a _ ea)
  exact PySem.W.kia_one PySem.W.kitx_dict I.kIn ⟨o,h1,h2.1⟩ e (fun z=>nomatch z) h
 | @ins a C dx fs ea cl ha hn htk hm =>
  cases (show u = Value.ref a from rx)
  obtain ⟨mA,O,_⟩:=ins_get I.hok ea
  obtain ⟨od,J,_⟩:=O.look
  exact PySem.W.kia_one (PySem.W.kitx_own (cl.get _) cl.hd ha hn htk hm) I.kIn J e (fun z=>nomatch z) h
end
end L2
namespace L2
open PySem PySem.Spec PyProof.Rows
structure Room (k : Nat) (A : Around) : Prop where
 hd : A.handled = none
 dp : A.depth + 3 * k + 5 < recursionLimit
 un : A.units + 16 * k + 200 < cLine
theorem Room.mono {j k : Nat} {A : Around} (r : Room k A) (h : j ≤ k) : Room j A:=⟨r.hd,by have:=r.dp; omega,by have:=r.un; omega⟩
theorem Room.deeper {k : Nat} {A : Around} (r : Room (k + 1) A) (env : Env) : Room k (A.deeper env) :=
 ⟨r.hd,by have:=r.dp; show A.depth + 1 + 3 * k + 5 < _; omega,by have:=r.un; show A.units + 3 + 16 * k + 200 < _; omega⟩
theorem Room.depth {k : Nat} {A : Around} (r : Room k A) : A.depth < recursionLimit:=by have:=r.dp; omega
theorem Room.units {k : Nat} {A : Around} (r : Room k A) : A.units + 64 < cLine:=by have:=r.un; omega
def tNil : TA:=fun _ H Q=>Q [] H
def tCons (ta : TE) (tr : TA) : TA:=fun σ H Q=>ta σ H fun x H1=>tr σ H1 fun xs H2=>Q (x :: xs) H2
section
variable {X : Cx} {e : Expr} {es : List Expr} {te : TE} {t : TA} {pos : Pos}
theorem pa_nil : PA X [] tNil:=fun _ _ _ _ H Q I h=>Calls.spliced_nil ⟨[],H,I,.nil,h⟩
theorem pa_cons (ha : PE X e te) (hr : PA X es t) (hs : starEach (e :: es) X.env = (false,eval e X.env) :: starEach es X.env:=by rfl) : PA X (e :: es) (tCons te t):=by
 intro pos pins s σ H Q I h
 rw [hs]
 show wpAny _ _ (spliced ((false,eval e X.env) :: backTo pos (starEach es X.env))) _ _ s
 refine Calls.spliced_cons (thn (ha pins s σ H _ I h) fun u s1 ⟨x,H1,I1,r1,q1⟩=>?_)
 exact thn (hr pos pins s1 σ H1 _ I1 q1) fun us s2 ⟨xs,H2,I2,r2,q2⟩=>⟨x :: xs,H2,I2,.cons r1 r2,q2⟩
def tTup (t : TA) : TE:=fun σ H Q=>t σ H fun xs H1=>xs.length ≤ sizeLine∧∀ p,H1 p = none→Q (.ref p) (upd H1 p (.tup xs))
def tLst (t : TA) : TE:=fun σ H Q=>t σ H fun xs H1=>xs.length ≤ sizeLine∧∀ p,H1 p = none→Q (.ref p) (upd H1 p (.lst xs))
theorem pe_tup {x1} (h : PA X es t) : PE X (.Tuple es x1 pos) (tTup t):=by
 intro pins s σ H Q I hq
 refine wpAny_Tuple_spliced (thn (h pos pins s σ H _ I hq) fun us s1 ⟨xs,H1,I1,r,z,q⟩=>⟨by rw [← r.length]; exact z,?_⟩)
 have hf : H1 s1.heap.objs.size = none:=I1.hok.fresh (Nat.le_refl _)
 refine ⟨.ref s1.heap.objs.size,upd H1 s1.heap.objs.size (.tup xs),I1.laid (t':=s1.toks) (fun b u e=>Heap.get?_push_of_some _ e) (Nat.le_refl _) ?_,rfl,q _ hf⟩
 exact ⟨z,us,r,⟨_,Heap.get?_push_size _ rfl,rfl,_,rfl⟩⟩
theorem pe_lst (h : PA X es t) : PE X (.List es pos) (tLst t):=by
 intro pins s σ H Q I hq
 refine wpAny_List_spliced (thn (h pos pins s σ H _ I hq) fun us s1 ⟨xs,H1,I1,r,z,q⟩=>⟨by rw [← r.length]; exact z,?_⟩)
 have hf : H1 s1.heap.objs.size = none:=I1.hok.fresh (Nat.le_refl _)
 refine ⟨.ref s1.heap.objs.size,upd H1 s1.heap.objs.size (.lst xs),I1.laid (t':=s1.toks) (fun b u e=>Heap.get?_push_of_some _ e) (Nat.le_refl _) ?_,rfl,q _ hf⟩
 exact ⟨z,us,0,r,Heap.get?_push_size _ rfl⟩
end
abbrev Sp:=List V→Hp→VK→XK→Prop
abbrev CXT:=List Env→Hp→Shared→XK→Value→Shared→Prop
structure Env0 (P : Program) (w : World) (K : PySem.W.Frag) (mg : Str→Option Value) (base : Heap) (A : Around) (outer : List Env) (s : Shared) (H : Hp) : Prop where
 frames : A.frames = some outer
 mod : Mod K mg base
 bs : ∀ b o,base.get? b = some o→s.heap.get? b = some o∧H b = none
 bsz : base.objs.size ≤ s.heap.objs.size
 funs : s.heap.FunFrames base outer
 frf : ∀ b ∈ frs outer,H b = none
 hok : HOk P w H s.heap
 bare : AllBare s.gens
def CE (outer : List Env) (P : Program) (w : World) (H : Hp) (s : Shared) (Q : VK) (u : Value) (s' : Shared) : Prop :=
 ∃ v H',s'.os = s.os∧AllBare s'.gens∧Un (frs outer) [] H H' s.heap s'.heap∧HOk P w H' s'.heap∧RelV v u∧Q v H'
def CR (CX : CXT) (outer : List Env) (P : Program) (w : World) (H : Hp) (s : Shared) (Q : VK) (E : XK) (r : Result) (s' : Shared) : Prop :=
 match r with
 | .ok (.ret u)=>CE outer P w H s Q u s'
 | .ok _=>False
 | .error e=>CX outer H s E e s'
structure FnOk (P : Program) (w : World) (K : PySem.W.Frag) (mg : Str→Option Value) (base : Heap) (CX : CXT) (k : Nat) (f : Addr) (fd : FuncData) (ps : List Str) (sp : Sp) : Prop where
 len : ∀ vs H Q E,sp vs H Q E→vs.length = ps.length
 run : ∀ (A : Around) (outer : List Env) (s : Shared) (H : Hp) (args : Args) (us : List Value) (vs : List V) (Q : VK) (E : XK),Room k A→Env0 P w K mg base A outer s H→BindsTo s fd args (ps.zip us)→Vals vs us→sp vs H Q E →
  codeAny (model P w) A (.call (.ref f) args) (CR CX outer P w H s Q E) s
section
variable {X : Cx} {pins : List (Addr × Obj)} {σ : St} {H : Hp} {s s' : Shared}
theorem Inv.env0 (I : Inv X pins σ H s) : Env0 X.prog X.w X.K X.mg X.base X.A X.stack s H :=
 ⟨I.ok.frames,I.ok.mod,I.bs,Nat.le_trans I.ok.bsz I.sz,I.stack,I.stkFree,I.hok,I.bare⟩
theorem Inv.after {Q : VK} {u : Value} (I : Inv X pins σ H s) (h : CE X.stack X.prog X.w H s Q u s') : EP X pins σ Q u s':=by
 obtain ⟨v,H',os,bare,un,hok,r,q⟩:=h
 obtain ⟨hh,g,d,t,os'⟩:=s'
 obtain rfl : os' = s.os:=os
 exact ⟨v,H',I.call (h':=hh) (g':=g) (d':=d) (t':=t) (ch:=[]) un hok bare (fun b z=>absurd z (by simp)),r,q⟩
end
def tCall (sp : Sp) (dvs : List V) (E : XK) (t : TA) : TE:=fun σ H Q=>t σ H fun vs H1=>sp (vs ++ dvs) H1 Q E
def Binds (K : PySem.W.Frag) (fd : FuncData) (ps : List Str) (ds : List Value) : Prop :=
 ∀ (s : Shared) (us : List Value),K.In s.heap→(us ++ ds).length = ps.length→BindsTo s fd ⟨us,[]⟩ (ps.zip (us ++ ds))
theorem Binds.all {K : PySem.W.Frag} {fd : FuncData} {ps : List Str} (h : ∀ us : List Value,us.length = ps.length→bindArgs fd ⟨us,[]⟩ = pure (ps.zip us)) : Binds K fd ps []:=fun s us _ hl=>by
 rw [List.append_nil] at hl ⊢
 exact .of_eq (h us hl)
def Passes (CX : CXT) (X : Cx) (E : XK) : Prop:=∀ (pins : List (Addr × Obj)) (σ : St) (H : Hp) (s : Shared) (e : Value) (s' : Shared),Inv X pins σ H s→CX X.stack H s E e s'→X.xe e s'
section
variable {X : Cx} {CX : CXT} {k : Nat} {f C : Addr} {fd : FuncData} {ps : List Str} {sp : Sp} {dvs : List V} {ds : List Value} {E : XK} {x m : Str} {p pos apos : Pos} {e o : Expr} {es : List Expr} {ta : TE} {t : TA}
theorem run_fn {pins : List (Addr × Obj)} {σ : St} {H : Hp} {s : Shared} {Q : VK} {us : List Value} {vs : List V} (F : FnOk X.prog X.w X.K X.mg X.base CX k f fd ps sp) (hr : Room k X.A) (hb : Binds X.K fd ps ds) (hd : Vals dvs ds) (hx : Passes CX X E)
  (I : Inv X pins σ H s) (r : Vals vs us) (h : sp (vs ++ dvs) H Q E) : wpAny (model X.prog X.w) X.A (call (.ref f) us) (EP X pins σ Q) X.xe s:=by
 have r2 : Vals (vs ++ dvs) (us ++ ds):=r.append hd
 have hl : (us ++ ds).length = ps.length:=by rw [← r2.length]; exact F.len _ _ _ _ h
 refine wpAny_call (codeAny_mono (F.run X.A X.stack s H ⟨us,[]⟩ (us ++ ds) (vs ++ dvs) Q E hr I.env0 (hb s us I.kIn hl) r2 h) fun r s' hq=>?_)
 cases r with
 | error e=>exact hx pins σ H s e s' I hq
 | ok fl =>
  cases fl with
  | ret u=>exact I.after hq
  | next=>exact False.elim hq
  | brk=>exact False.elim hq
  | cont=>exact False.elim hq
theorem pe_call (F : FnOk X.prog X.w X.K X.mg X.base CX k f fd ps sp) (hr : Room k X.A) (hg : Gl X x) (hm : X.mg x = some (.ref f)) (hk : PySem.W.keepIn X.K (.ref f) = true) (hb : Binds X.K fd ps ds) (hd : Vals dvs ds) (hx : Passes CX X E)
  (ha : PA X (e :: es) t) (hdb : (x == ("__debug__" : Str)) = false:=by decide) (he : starEach (e :: es) X.env = (false,eval e X.env) :: starEach es X.env:=by rfl) (hpl : (backTo pos (starEach es X.env)).any (·.1) = false:=by rfl) :
  PE X (.Call (.Name x p) (e :: es) [] pos) (tCall sp dvs E t):=by
 intro pins s σ H Q I h
 refine wpAny_Call_Name_kw (ld_glob I hg hm ?_ hdb)
 refine PySem.W.callWith_K (h₀:=X.base) I.ok.mod.kin hk (thn (ha pos pins s σ H _ I h) fun us s1 ⟨vs,H1,I1,r,q⟩=>⟨I1.kIn,?_⟩) he hpl
 exact run_fn F hr hb hd hx I1 r q
end
section
variable {X : Cx} {CX : CXT} {k : Nat} {f C : Addr} {fd : FuncData} {ps ks : List Str} {sp : Sp} {E : XK} {x m : Str} {p pos apos kpos : Pos} {e o : Expr} {es : List Expr} {kws : List Keyword} {te ta : TE} {t tk : TA} {nm : Option Str}
variable {g : List Value→List Value→List Value} {gV : List V→List V→List V}
end
structure FnScope (N P : List Str) (sc : Scope) : Prop where
 kind : sc.kind = .function
 co : sc.isCoroutine = false
 gen : sc.isGenerator = false
 nd : N.Nodup
 pre : N.take P.length = P
 par : ∀ x ∈ P,sc.names.lookup x = some .local∨sc.names.lookup x = some .cell
 nofree : ∀ y ∈ sc.names,y.2 ≠ .free
theorem bindL_out {kindOf : Str→Option NameKind} {x : Str} : ∀ {binds : List (Str × Value)} {m : Str→Option Value},(∀ v,(x,v) ∉ binds)→bindL kindOf binds m x = m x
 | [],_,_=>rfl
 | (n,v) :: r,m,h=>by
  unfold bindL
  rw [bindL_out fun w hw=>h w (List.mem_cons_of_mem _ hw)]
  split
  ·have : x ≠ n:=by rintro rfl; exact h v List.mem_cons_self
   simp [this]
  ·rfl
theorem bindC_out {kindOf : Str→Option NameKind} {x : Str} : ∀ {binds : List (Str × Value)} {m : Str→Option Value},(∀ v,(x,v) ∉ binds)→bindC kindOf binds m x = m x
 | [],_,_=>rfl
 | (n,v) :: r,m,h=>by
  unfold bindC
  rw [bindC_out fun w hw=>h w (List.mem_cons_of_mem _ hw)]
  split
  ·rfl
  ·have : x ≠ n:=by rintro rfl; exact h v List.mem_cons_self
   simp [this]
theorem bindL_get {kindOf : Str→Option NameKind} {x : Str} {v : Value} : ∀ {P : List Str} {vs : List Value} {i : Nat} {m : Str→Option Value},P.Nodup→P[i]? = some x→vs[i]? = some v→kindOf x = some .local →
  bindL kindOf (P.zip vs) m x = some v
 | [],_,_,_,_,h,_,_=>by simp at h
 | _ :: _,[],_,_,_,_,h,_=>by simp at h
 | p :: P,w :: vs,0,m,nd,h1,h2,hk=>by
  simp at h1 h2; subst h1; subst h2
  show bindL kindOf ((p,w) :: P.zip vs) m p = _
  unfold bindL
  rw [bindL_out fun v hv=>(List.nodup_cons.mp nd).1 (List.of_mem_zip hv).1,if_pos hk]
  simp
 | p :: P,w :: vs,i + 1,m,nd,h1,h2,hk=>by
  show bindL kindOf ((p,w) :: P.zip vs) m x = _
  unfold bindL
  exact bindL_get (i:=i) (List.nodup_cons.mp nd).2 (by simpa using h1) (by simpa using h2) hk
theorem bindC_get {kindOf : Str→Option NameKind} {x : Str} {v : Value} : ∀ {P : List Str} {vs : List Value} {i : Nat} {m : Str→Option Value},P.Nodup→P[i]? = some x→vs[i]? = some v→kindOf x ≠ some .local →
  bindC kindOf (P.zip vs) m x = some v
 | [],_,_,_,_,h,_,_=>by simp at h
 | _ :: _,[],_,_,_,_,h,_=>by simp at h
 | p :: P,w :: vs,0,m,nd,h1,h2,hk=>by
  simp at h1 h2; subst h1; subst h2
  show bindC kindOf ((p,w) :: P.zip vs) m p = _
  unfold bindC
  rw [bindC_out fun v hv=>(List.nodup_cons.mp nd).1 (List.of_mem_zip hv).1,if_neg hk]
  simp
 | p :: P,w :: vs,i + 1,m,nd,h1,h2,hk=>by
  show bindC kindOf ((p,w) :: P.zip vs) m x = _
  unfold bindC
  exact bindC_get (i:=i) (List.nodup_cons.mp nd).2 (by simpa using h1) (by simpa using h2) hk
def start (N : List Str) (vs : List V) : St:=vs.map some ++ List.replicate (N.length - vs.length) none
def cxOf (CX : CXT) (P : Program) (w : World) (K : PySem.W.Frag) (mg : Str→Option Value) (base : Heap) (N : List Str) (qual : Str) (scope : Scope) (f : Addr) (cd : Value) (A : Around) (outer : List Env) (s : Shared) (H : Hp) (E : XK) : Cx where
 prog:=P
 w:=w
 K:=K
 mg:=mg
 base:=base
 A:=A.deeper (envOfC qual scope s.heap.objs.size f cd)
 N:=N
 s₀:=s
 H₀:=H
 env:=envOfC qual scope s.heap.objs.size f cd
 outer:=outer
 stack:=envOfC qual scope s.heap.objs.size f cd :: outer
 ex:=[]
 calm:=true
 fn:=fun _=>true
 pn:=[]
 xe:=fun e s'=>wpAny (model P w) (A.deeper (envOfC qual scope s.heap.objs.size f cd)) (leaving (envOfC qual scope s.heap.objs.size f cd) e) (fun _ s''=>CX outer H s E e s'') (fun e' s''=>CX outer H s E e' s'') s'
theorem cell_has {sc : Scope} {n : Nat} {x : Str} (h : sc.names.lookup x = some .cell) : ∃ c,(cellsFrom n sc.names []).lookup x = some c:=by
 have q:=PySem.W.cellsFrom_some sc.names n [] (.inl h)
 exact Option.isSome_iff_exists.mp q
theorem inv_start {CX : CXT} {P : Program} {w : World} {K : PySem.W.Frag} {mg : Str→Option Value} {base : Heap} {N ps : List Str} {qual : Str} {scope : Scope} {f : Addr} {cd : Value} {A : Around} {outer : List Env} {s s1 : Shared} {H : Hp} {E : XK} {us : List Value} {vs : List V}
  (S : FnScope N ps scope) (hd : A.handled = none) (e0 : Env0 P w K mg base A outer s H) (hl : vs.length = ps.length) (r : Vals vs us)
  (x : InCallC s s.heap.objs.size (bindL (envOfC qual scope s.heap.objs.size f cd).kindOf (ps.zip us) fun _=>none) (cellsFrom (s.heap.objs.size + 1) scope.names []) (bindC (envOfC qual scope s.heap.objs.size f cd).kindOf (ps.zip us) fun _=>none) s1) :
  Inv (cxOf CX P w K mg base N qual scope f cd A outer s H E) [] (start N vs) H s1:=by
 have hpl : ps.length ≤ N.length:=by have:=congrArg List.length S.pre; rw [List.length_take] at this; omega
 obtain ⟨h1,tk,rfl,hk⟩:=x.done
 have noA : ∀ b : Addr,b ∉ (cxOf CX P w K mg base N qual scope f cd A outer s H E).ex:=fun b z=>absurd (show b ∈ ([] : List Addr) from z) (by simp)
 refine ⟨⟨e0.mod,S.kind,rfl,rfl,Nat.le_refl _,fun y z c h1 h2=>?_,fun y hy=>?_,fun y c _ h=>?_,fun _=>hd,Around.frames_deeper e0.frames,.inr ⟨rfl,rfl⟩,fun b z=>absurd z (noA b),e0.bs,e0.bsz,fun b _ _=>noA b,fun b z=>absurd z (noA b),e0.funs,e0.frf⟩,
  rfl,e0.bare,Un.kept hk,⟨_,x.toInCall.ns,fun i y v h1 h2 h3=>?_⟩,fun y c h=>⟨_,x.cell y c h⟩,e0.hok.fresh (Nat.le_refl _),fun y c h=>?_,fun p hp=>absurd (show p ∈ ([] : List (Addr × Obj)) from hp) (by simp),e0.hok.kept hk,?_⟩
 ·exact name_of_addr x.apart (PySem.mem_of_lookup h1) (PySem.mem_of_lookup h2)
 ·have hy : scope.names.lookup y = some .cell∨scope.names.lookup y = some .free:=hy
  rcases hy with hy | hy
  ·exact cell_has hy
  ·exact absurd rfl (S.nofree _ (PySem.mem_of_lookup hy))
 ·exact Nat.le_of_lt (x.above y c (PySem.mem_of_lookup h))
 ·have hi : i < vs.length:=by
   unfold start at h2
   by_cases hi : i < vs.length
   ·exact hi
   ·rw [List.getElem?_append_right (by simpa using hi)] at h2
    rw [List.getElem?_replicate] at h2
    split at h2 <;> cases h2
  have ha : vs[i]? = some v:=by
   unfold start at h2
   rw [List.getElem?_append_left (by simpa using hi),List.getElem?_map] at h2
   cases e : vs[i]? with
   | none=>rw [e] at h2; cases h2
   | some a=>rw [e] at h2; cases h2; rfl
  obtain ⟨u,hu,rv⟩:=r.get ha
  have hp : ps[i]? = some y:=by
   rw [← S.pre,List.getElem?_take_of_lt (by omega)]; exact h1
  have ndP : ps.Nodup:=by rw [← S.pre]; exact S.nd.sublist (List.take_sublist _ _)
  refine ⟨u,rv,?_⟩
  rcases S.par y (List.mem_of_getElem? hp) with k | k
  ·exact .inl ⟨k,bindL_get ndP hp hu k⟩
  ·obtain ⟨c,e⟩:=cell_has (n:=s.heap.objs.size + 1) k
   refine .inr ⟨.inl k,c,e,?_⟩
   have q:=x.cell y c e
   rw [bindC_get ndP hp hu (by show scope.names.lookup y ≠ _; rw [k]; decide)] at q
   exact q
 ·exact e0.hok.fresh (Nat.le_of_lt (x.above y c (PySem.mem_of_lookup h)))
 ·unfold start
  show _ = N.length
  rw [List.length_append,List.length_map,List.length_replicate]
  omega
theorem fn_of {CX : CXT} {P : Program} {w : World} {K : PySem.W.Frag} {mg : Str→Option Value} {base : Heap} {k : Nat} {f : Addr} {name qual : Str} {params : Arguments} {body : List Stmt} {scope : Scope} {dV kV doc pm cdv ct oc : Value} {an od : Option Addr}
  {osl : Array (Option Value)} {N ps : List Str} {sp : Sp} (lk : K.lookup f = some ⟨oc,od,.func (PySem.W.fnOf name qual params body scope dV kV doc pm an cdv ct),osl⟩) (hcd : PySem.W.codeIn K cdv qual = true) (S : FnScope N ps scope)
  (len : ∀ vs H Q E,sp vs H Q E→vs.length = ps.length)
  (hbody : ∀ (A : Around) (outer : List Env) (s : Shared) (H : Hp) (vs : List V) (Q : VK) (E : XK),Room k (A.deeper (envOfC qual scope s.heap.objs.size f cdv))→sp vs H Q E →
   ∃ t,PSs (cxOf CX P w K mg base N qual scope f cdv A outer s H E) body t∧t { nx:=fun _ H'=>Q .non H',rt:=Q } (start N vs) H) :
  FnOk P w K mg base CX (k + 1) f (PySem.W.fnOf name qual params body scope dV kV doc pm an cdv ct) ps sp:=by
 refine ⟨len,fun A outer s H args us vs Q E hr e0 hb r hsp=>?_⟩
 have hl:=len _ _ _ _ hsp
 have KX : K.In s.heap:=e0.mod.kin.keeps fun b o e=>(e0.bs b o e).1
 have lim : s.heap.NoLimit:=e0.mod.nolimit.keeps fun b o e=>(e0.bs b o e).1
 have hkind : ∀ y ∈ ps.zip us,scope.names.lookup y.1 = some .local∨(scope.names.lookup y.1 = some .cell∧((cellsFrom (s.heap.objs.size + 1) scope.names []).lookup y.1).isSome = true):=fun ⟨n,v⟩ hy=>by
  rcases S.par n (List.of_mem_zip hy).1 with q | q
  ·exact .inl q
  ·exact .inr ⟨q,PySem.W.cellsFrom_some _ _ _ (.inl q)⟩
 refine codeAny_call_function hr.depth (KX _ _ lk) rfl S.co S.gen rfl (PySem.W.codeRec_of KX hcd) (hb _ _ _ _ ?_)
 refine wpAny_newFunctionEnv_cells S.kind hkind fun env he s1 x=>?_
 subst he
 refine ⟨lim.keeps x.toInCall.keep,codeAny_func ?_⟩
 obtain ⟨t,ht,hq⟩:=hbody A outer s H vs Q E (hr.deeper _) hsp
 have I : Inv (cxOf CX P w K mg base N qual scope f cdv A outer s H E) [] (start N vs) H s1:=inv_start S hr.hd e0 hl r x
 refine wpAny_mono (ht [] s1 (start N vs) H _ I hq) (fun fl s' hs=>?_) fun e s' hs=>hs
 have fin : ∀ {σ' : St} {H' : Hp} {v : V} {u : Value},Inv (cxOf CX P w K mg base N qual scope f cdv A outer s H E) [] σ' H' s'→RelV v u→Q v H'→CE outer P w H s Q u s' :=
  fun {σ' H' v u} J rv q=>⟨v,H',J.os,J.bare,J.base,J.hok,rv,q⟩
 cases fl with
 | ret u =>
  obtain ⟨v,σ',H',J,rv,q⟩:=hs
  exact fin J rv q
 | next =>
  obtain ⟨σ',H',J,q⟩:=hs
  exact fin (v:=V.non) (u:=Value.none) J rfl q
 | brk =>
  obtain ⟨_,_,_,q⟩:=hs
  exact False.elim q
 | cont =>
  obtain ⟨_,_,_,q⟩:=hs
  exact False.elim q
end L2
namespace L2
open PySem PySem.Spec PyProof.Rows
section
variable {X : Cx} {x : Str} {p pos : Pos} {e : Expr} {es : List Expr} {t : TA} {id T : String} {r : List V→Hp→VK→Prop}
def tCB (r : List V→Hp→VK→Prop) (t : TA) : TE:=fun σ H Q=>t σ H fun vs H1=>r vs H1 Q
theorem pe_callB (hc : CallR X (.builtin id) r) (hg : Gl X x) (hm : X.mg x = none) (hv : bootBuiltins x = some (.builtin id)) (ha : PA X (e :: es) t) (hn : x ≠ "__name__" := by decide) (hdb : (x == ("__debug__" : Str)) = false:=by decide)
  (he : starEach (e :: es) X.env = (false,eval e X.env) :: starEach es X.env:=by rfl) (hpl : (backTo pos (starEach es X.env)).any (·.1) = false:=by rfl) : PE X (.Call (.Name x p) (e :: es) [] pos) (tCB r t):=by
 intro pins s σ H Q I h
 refine wpAny_Call_Name_kw (ld_blt I hg hm hv ?_ hn hdb)
 exact PyProof.Rows.callWith_builtin1 (thn (ha pos pins s σ H _ I h) fun us s1 ⟨vs,H1,I1,r1,q1⟩=>hc pins s1 σ H1 vs us Q I1 r1 q1) he hpl
theorem pe_callTy (hc : CallR X (.type T) r) (hg : Gl X x) (hm : X.mg x = none) (hv : bootBuiltins x = some (.type T)) (ha : PA X (e :: es) t) (hn : x ≠ "__name__" := by decide) (hdb : (x == ("__debug__" : Str)) = false:=by decide)
  (he : starEach (e :: es) X.env = (false,eval e X.env) :: starEach es X.env:=by rfl) (hpl : (backTo pos (starEach es X.env)).any (·.1) = false:=by rfl) : PE X (.Call (.Name x p) (e :: es) [] pos) (tCB r t):=by
 intro pins s σ H Q I h
 refine wpAny_Call_Name_kw (ld_blt I hg hm hv ?_ hn hdb)
 exact PyProof.Rows.callWith_type1 (thn (ha pos pins s σ H _ I h) fun us s1 ⟨vs,H1,I1,r1,q1⟩=>hc pins s1 σ H1 vs us Q I1 r1 q1) he hpl
end
end L2
namespace HT
open PySem PyProof.Rows
section
open PySem.SeqAt
open PySem.AutoSeq1 (wpAny_loadPart')
open PySem.MeetsSeq PySem.MeetsSeq2 PySem.MeetsSeq3
end
section
variable {prog : Program} {w : World} {A : Around} {E : Value→Shared→Prop} {s : Shared}
end
end HT
namespace L2
open PySem PySem.Spec PyProof.Rows
abbrev TO:=St→Hp→(Option Int→Hp→Prop)→Prop
def PO (X : Cx) (e : Option Expr) (t : TO) : Prop :=
 ∀ (pins : List (Addr × Obj)) (s : Shared) (σ : St) (H : Hp) (Q : Option Int→Hp→Prop),Inv X pins σ H s→t σ H Q →
  wpAny (model X.prog X.w) X.A (evalPart e X.env) (fun u s'=>∃ o H',Inv X pins σ H' s'∧IsPart u o∧Q o H') X.xe s
def tNoPart : TO:=fun _ H Q=>Q none H
def tPart (t : TE) : TO:=fun σ H Q=>t σ H fun x H1=>∃ i,x = .int i∧Q (some i) H1
section
variable {X : Cx} {e : Expr} {te : TE} {lo hi : Option Expr} {tl th : TO} {pos p2 : Pos}
theorem po_none : PO X none tNoPart:=by
 intro pins s σ H Q I h
 rw [evalPart_none]
 exact wpAny_pure ⟨none,H,I,.none,h⟩
theorem po_some (h : PE X e te) : PO X (some e) (tPart te):=by
 intro pins s σ H Q I hw
 rw [evalPart_some]
 refine thn (h pins s σ H _ I hw) fun u s1 ⟨x,H1,I1,r1,q1⟩=>?_
 obtain ⟨i,rfl,q⟩:=q1
 obtain ⟨t,rfl⟩:=r1
 exact ⟨some i,H1,I1,.int i t,q⟩
end
end L2
namespace L2
open PySem PySem.Spec PyProof.Rows
def ixN (n : Nat) (i : Int) : Option Nat:=if 0 ≤ i then (if i < n then some i.toNat else none) else if -(n : Int) ≤ i then some (i + n).toNat else none
def atI {α : Type} (xs : List α) (i : Int) : Option α:=(ixN xs.length i).bind fun j=>xs[j]?
theorem ixN_seq {n : Nat} {i : Int} {j : Nat} (h : ixN n i = some j) : seqIndex? i n = some j∧j < n∧-(n : Int) ≤ i∧i < n:=by
 unfold ixN at h
 by_cases h0 : 0 ≤ i
 ·rw [if_pos h0] at h
  by_cases h1 : i < n
  ·rw [if_pos h1] at h
   have e : i.toNat = j:=Option.some.inj h
   exact ⟨by rw [seqIndex_of h0 h1,e],by omega,by omega,h1⟩
  ·rw [if_neg h1] at h; cases h
 ·rw [if_neg h0] at h
  by_cases h1 : -(n : Int) ≤ i
  ·rw [if_pos h1] at h
   have e : (i + n).toNat = j:=Option.some.inj h
   exact ⟨by rw [seqIndex_neg (by omega) h1,e],by omega,h1,by omega⟩
  ·rw [if_neg h1] at h; cases h
theorem atI_get {α : Type} {xs : List α} {i : Int} {v : α} (h : atI xs i = some v) : ∃ j,seqIndex? i xs.length = some j∧xs[j]? = some v∧j < xs.length∧-(xs.length : Int) ≤ i∧i < xs.length:=by
 unfold atI at h
 cases e : ixN xs.length i with
 | none=>rw [e] at h; cases h
 | some j =>
  rw [e] at h
  obtain ⟨h1,h2,h3,h4⟩:=ixN_seq e
  exact ⟨j,h1,h,h2,h3,h4⟩
theorem atI_nat {α : Type} {xs : List α} {j : Nat} {v : α} (h : xs[j]? = some v) : atI xs (j : Int) = some v:=by
 have hj : j < xs.length:=(List.getElem?_eq_some_iff.mp h).1
 have e : ixN xs.length (j : Int) = some j:=by
  unfold ixN
  rw [if_pos (by omega),if_pos (by omega)]; simp
 unfold atI; rw [e]; exact h
def PlainIx (b : Expr) : Prop:=∀ o i,subscripted b false o i = operate [o,i] (getItem o i)
def IxR (X : Cx) (r : R2) : Prop :=
 ∀ (value slice : Expr) (pins : List (Addr × Obj)) (s : Shared) (σ : St) (H : Hp) (x y : V) (v u : Value) (Q : VK),Inv X pins σ H s→RelV x v→RelV y u→r x y H Q →
  subscripted slice false v u = operate [v,u] (getItem v u)→wpAny (model X.prog X.w) X.A (subscriptTail value slice v u) (EP X pins σ Q) X.xe s
def MtR (X : Cx) (id : String) (r : V→List V→Hp→VK→Prop) : Prop :=
 ∀ (pins : List (Addr × Obj)) (s : Shared) (σ : St) (H : Hp) (x : V) (xs : List V) (v : Value) (us : List Value) (Q : VK),Inv X pins σ H s→RelV x v→Vals xs us→r x xs H Q →
  wpAny (model X.prog X.w) X.A (call (.builtin id) (v :: us)) (EP X pins σ Q) X.xe s
section
variable {X : Cx} {a b : Expr} {ta tb : TE} {pos : Pos}
theorem pe_ix {r : R2} (hr : IxR X r) (ha : PE X a ta) (hb : PE X b tb) (hs : PlainIx b) : PE X (.Subscript a b pos) (tOp r ta tb):=by
 intro pins s σ H Q I h
 exact Subscript_ (binT ha hb I h fun v u s2 x y H2 I2 rx ry q=>hr a b pins s2 σ H2 x y v u Q I2 rx ry q (hs _ _))
def rIxL (K : PySem.W.Frag) : R2:=fun x y H Q=>∃ p xs i v,x = .ref p∧y = .int i∧SqL K H p xs∧atI xs i = some v∧Q v H
def rIxT (K : PySem.W.Frag) : R2:=fun x y H Q=>∃ p xs i v,x = .ref p∧y = .int i∧SqT K H p xs∧atI xs i = some v∧Q v H
def rIxS : R2:=fun x y H Q=>∃ z i c,x = .str z∧y = .int i∧z.length ≤ sizeLine∧atI z.cps.toList i = some c∧Q (.str ⟨#[c]⟩) H
theorem ix_list : IxR X (rIxL X.K):=by
 intro value slice pins s σ H x y v u Q I rx ry h hs
 obtain ⟨p,xs,i,z,rfl,rfl,hq,he,q⟩:=h
 cases rx
 obtain ⟨t,rfl⟩:=ry
 obtain ⟨its,r,pl,hz⟩:=I.list hq
 obtain ⟨j,h1,h2,h3,h4,h5⟩:=atI_get he
 obtain ⟨w,ew,rw'⟩:=r.get h2
 have hl:=r.length
 have hn:=line63
 have fin : EP X pins σ Q w s:=⟨z,H,I,rw',q⟩
 by_cases h0 : 0 ≤ i
 ·have hj : i.toNat = j:=by
   rw [seqIndex_of h0 h5] at h1
   exact Option.some.inj h1
  exact item_listR pl.isList h0 (by omega) (by rw [hj]; simpa using ew) fin hs
 ·have hj : (i + (its.toArray.size : Int)).toNat = j:=by
   rw [seqIndex_neg (by omega) h4] at h1
   rw [List.size_toArray,← hl]
   exact Option.some.inj h1
  exact subscriptTail_builtinR (x:=w) pl.isList.typeIs slot_list_getitem.lookup
   (wpAny_getItem_list_neg (Q:=fun r s'=>r = w∧EP X pins σ Q r s') pl.isList (by omega) (by rw [List.size_toArray] <;> omega) (by omega) (by rw [hj]; simpa using ew) ⟨rfl,fin⟩) hs
theorem ix_tup : IxR X (rIxT X.K):=by
 intro value slice pins s σ H x y v u Q I rx ry h hs
 obtain ⟨p,xs,i,z,rfl,rfl,hq,he,q⟩:=h
 cases rx
 obtain ⟨t,rfl⟩:=ry
 obtain ⟨its,r,pl,hz⟩:=I.tuple hq
 obtain ⟨j,h1,h2,h3,h4,h5⟩:=atI_get he
 obtain ⟨w,ew,rw'⟩:=r.get h2
 have hl:=r.length
 have hn:=line63
 have fin : EP X pins σ Q w s:=⟨z,H,I,rw',q⟩
 exact subscriptTail_builtinR (x:=w) pl.typeIs slot_tuple_getitem.lookup
  (getItem_tuple (j:=j) (Q:=fun r s'=>r = w∧EP X pins σ Q r s') pl (by omega) (by omega) (by rw [List.size_toArray,← hl]; exact h1) (by simpa using ew) ⟨rfl,fin⟩) hs
theorem ix_str : IxR X rIxS:=by
 intro value slice pins s σ H x y v u Q I rx ry h hs
 obtain ⟨z,i,c,rfl,rfl,hz,he,q⟩:=h
 obtain ⟨t,rfl⟩:=rx
 obtain ⟨t',rfl⟩:=ry
 obtain ⟨j,h1,h2,h3,h4,h5⟩:=atI_get he
 have hl : z.cps.toList.length = z.length:=by simp [Str.length]
 rw [hl] at h1 h4 h5
 have hn:=line63
 exact tail_any (typeIs_str s z t) slot_str_getitem.lookup (getItem_str (c:=c) (by
  have e1 : decide (i < -(2 ^ 63 : Int)) = false:=decide_eq_false (by omega)
  have e2 : decide (i ≥ 2 ^ 63) = false:=decide_eq_false (by omega)
  rw [e1,e2,Bool.or_false]) (by rw [h1]; simpa using h2) ⟨.str ⟨#[c]⟩,H,I.tok _,⟨_,rfl⟩,q⟩) hs
def flatV : V→Bool
 | .non=>true
 | .bl _=>true
 | .int _=>true
 | .str _=>true
 | _=>false
def eqV : V→V→Bool
 | .non,.non=>true
 | .bl a,.bl b=>a == b
 | .bl a,.int b=>(if a then 1 else 0) == b
 | .int a,.bl b=>a == (if b then 1 else 0)
 | .int a,.int b=>a == b
 | .str a,.str b=>a == b
 | _,_=>false
theorem eqAt_V {A : Around} {s : Shared} {y x : V} {u v : Value} (ry : RelV y u) (rx : RelV x v) (fy : flatV y = true) (fx : flatV x = true) : SeqAt.EqAt A s u v (eqV y x):=by
 cases y with
 | non =>
  cases ry
  cases x with
  | non=>cases rx; exact SeqAt.EqAt.same _
  | bl b=>cases rx; exact SeqAt.EqAt.none_bool b
  | int b=>obtain ⟨t,rfl⟩:=rx; exact SeqAt.EqAt.none_int b t
  | str b=>obtain ⟨t,rfl⟩:=rx; exact SeqAt.EqAt.none_str b t
  | _=>exact absurd (show false = true from fx) Bool.false_ne_true
 | bl a =>
  cases ry
  cases x with
  | non=>cases rx; exact SeqAt.EqAt.bool_none a
  | bl b=>cases rx; exact SeqAt.EqAt.bool_bool a b
  | int b=>obtain ⟨t,rfl⟩:=rx; exact SeqAt.EqAt.bool_int a b t
  | str b=>obtain ⟨t,rfl⟩:=rx; exact SeqAt.EqAt.bool_str a b t
  | _=>exact absurd (show false = true from fx) Bool.false_ne_true
 | int a =>
  obtain ⟨t',rfl⟩:=ry
  cases x with
  | non=>cases rx; exact SeqAt.EqAt.int_none a t'
  | bl b=>cases rx; exact SeqAt.EqAt.int_bool a t' b
  | int b=>obtain ⟨t,rfl⟩:=rx; exact SeqAt.EqAt.int_int a t' b t
  | str b=>obtain ⟨t,rfl⟩:=rx; exact SeqAt.EqAt.int_str a t' b t
  | _=>exact absurd (show false = true from fx) Bool.false_ne_true
 | str a =>
  obtain ⟨t',rfl⟩:=ry
  cases x with
  | non=>cases rx; exact SeqAt.EqAt.str_none a t'
  | bl b=>cases rx; exact SeqAt.EqAt.str_bool a t' b
  | int b=>obtain ⟨t,rfl⟩:=rx; exact SeqAt.EqAt.str_int a t' b t
  | str b=>obtain ⟨t,rfl⟩:=rx; exact SeqAt.EqAt.str_str a t' b t
  | _=>exact absurd (show false = true from fx) Bool.false_ne_true
 | _=>exact absurd (show false = true from fy) Bool.false_ne_true
def eqU (x : V) (u : Value) : Bool:=match u with
 | .none=>eqV .non x
 | .bool b=>eqV (.bl b) x
 | .int i _=>eqV (.int i) x
 | .str z _=>eqV (.str z) x
 | _=>false
theorem eqU_of {x y : V} {u : Value} (r : RelV y u) (f : flatV y = true) : eqU x u = eqV y x:=by
 cases y with
 | non=>cases r; rfl
 | bl b=>cases r; rfl
 | int i=>obtain ⟨t,rfl⟩:=r; rfl
 | str z=>obtain ⟨t,rfl⟩:=r; rfl
 | _=>exact absurd (show false = true from f) Bool.false_ne_true
theorem any_eqU {x : V} : ∀ {xs : List V} {us : List Value},Vals xs us→xs.all flatV = true→us.any (eqU x) = xs.any fun y=>eqV y x
 | _,_,.nil,_=>rfl
 | y :: xs,u :: us,.cons r t,f=>by
  rw [List.all_cons,Bool.and_eq_true] at f
  rw [List.any_cons,List.any_cons,eqU_of r f.1,any_eqU t f.2]
theorem mem_eqAt {A : Around} {s : Shared} {x : V} {v : Value} (rx : RelV x v) (fx : flatV x = true) : ∀ {xs : List V} {us : List Value},Vals xs us→xs.all flatV = true→∀ u ∈ us,SeqAt.EqAt A s u v (eqU x u)
 | _,_,.nil,_=>fun u hu=>by cases hu
 | y :: xs,u :: us,.cons r t,f=>fun u' hu=>by
  rw [List.all_cons,Bool.and_eq_true] at f
  rcases List.mem_cons.mp hu with rfl | hu
  ·rw [eqU_of r f.1]; exact eqAt_V r rx f.1 fx
  ·exact mem_eqAt rx fx t f.2 u' hu
def inV (x : V) (xs : List V) : Bool:=xs.any fun y=>eqV y x
def rIn (K : PySem.W.Frag) (neg : Bool) : R2:=fun x y H Q=>∃ p xs,y = .ref p∧(SqL K H p xs∨SqT K H p xs)∧flatV x = true∧xs.all flatV = true∧Q (.bl (if neg then !inV x xs else inV x xs)) H
theorem op_in_seq : OpR X (compareOp .In) (rIn X.K false):=by
 intro pins s σ H x y v u Q I rx ry h
 obtain ⟨p,xs,rfl,hq,fx,fs,q⟩:=h
 cases ry
 rcases hq with hq | hq
 ·obtain ⟨its,r,pl,hz⟩:=I.list hq
  refine SeqAt.in_listAt (eqU x) pl.isList (fun w hw=>mem_eqAt rx fx r fs w (by simpa using hw)) ⟨.bl _,H,I,rfl,?_⟩
  rw [show its.toArray.any (eqU x) = its.any (eqU x) by simp,any_eqU r fs]
  exact q
 ·obtain ⟨its,r,pl,hz⟩:=I.tuple hq
  refine SeqAt.in_tupleAt (eqU x) pl (fun w hw=>mem_eqAt rx fx r fs w (by simpa using hw)) ⟨.bl _,H,I,rfl,?_⟩
  rw [show its.toArray.any (eqU x) = its.any (eqU x) by simp,any_eqU r fs]
  exact q
theorem op_notIn_seq : OpR X (compareOp .NotIn) (rIn X.K true):=by
 intro pins s σ H x y v u Q I rx ry h
 obtain ⟨p,xs,rfl,hq,fx,fs,q⟩:=h
 cases ry
 rcases hq with hq | hq
 ·obtain ⟨its,r,pl,hz⟩:=I.list hq
  refine SeqAt.notIn_listAt (eqU x) pl.isList (fun w hw=>mem_eqAt rx fx r fs w (by simpa using hw)) ⟨.bl _,H,I,rfl,?_⟩
  rw [show its.toArray.any (eqU x) = its.any (eqU x) by simp,any_eqU r fs]
  exact q
 ·obtain ⟨its,r,pl,hz⟩:=I.tuple hq
  refine SeqAt.notIn_tupleAt (eqU x) pl (fun w hw=>mem_eqAt rx fx r fs w (by simpa using hw)) ⟨.bl _,H,I,rfl,?_⟩
  rw [show its.toArray.any (eqU x) = its.any (eqU x) by simp,any_eqU r fs]
  exact q
theorem call_len_seq : CallR X (.builtin "len") (fun xs H Q=>∃ p ys,xs = [.ref p]∧(SqL X.K H p ys∨SqT X.K H p ys)∧Q (.int ys.length) H):=by
 intro pins s σ H xs us Q I r h
 obtain ⟨p,ys,rfl,hq,q⟩:=h
 obtain ⟨u,rfl,rx⟩:=vals1 r
 cases rx
 have hn:=line63
 rcases hq with hq | hq
 ·obtain ⟨its,r',pl,hz⟩:=I.list hq
  have hlen:=r'.length
  exact Calls.call_len_list pl.isList (by simp only [List.size_toArray] <;> omega) ⟨.int ys.length,H,I.tok _,⟨s.toks + 1,by rw [List.size_toArray,hlen]⟩,q⟩
 ·obtain ⟨its,r',pl,hz⟩:=I.tuple hq
  have hlen:=r'.length
  exact len_tuple pl (by simp only [List.size_toArray] <;> omega) ⟨.int ys.length,H,I.tok _,⟨s.toks + 1,by rw [List.size_toArray,hlen]⟩,q⟩
theorem call_tuple_of : CallR X (.type "tuple") (fun xs H Q=>∃ p ys,xs = [.ref p]∧((SqL X.K H p ys∧∀ l,H l = none→Q (.ref l) (upd H l (.tup ys)))∨(SqT X.K H p ys∧Q (.ref p) H))):=by
 intro pins s σ H xs us Q I r h
 obtain ⟨p,ys,rfl,h⟩:=h
 obtain ⟨u,rfl,rx⟩:=vals1 r
 cases rx
 rcases h with ⟨hq,q⟩ | ⟨hq,q⟩
 ·obtain ⟨its,r',pl,hz⟩:=I.list hq
  have hlen:=r'.length
  refine call_tuple_list pl.isList (fun h' kp=>?_) (by simp only [List.size_toArray] <;> omega)
  have I1 : Inv X pins σ H { s with heap:=h' }:=I.kept (t':=s.toks) kp
  have I2 : Inv X pins σ (upd H h'.objs.size (.tup ys)) { s with heap:=h'.push { cls:=.type "tuple",data:=.seq its.toArray } } :=
   I1.laid (t':=s.toks) (fun b o e=>Heap.get?_push_of_some _ e) (Nat.le_refl _) (show ObjOk X.prog X.w _ _ _ (.tup ys) from ⟨hz,its,r',IsTup.new _ _⟩)
  exact ⟨.ref h'.objs.size,_,I2,rfl,q _ (I1.hok.fresh (Nat.le_refl _))⟩
 ·obtain ⟨its,r',pl,hz⟩:=I.tuple hq
  exact call_tuple_same pl ⟨.ref p,H,I,rfl,q⟩
def tyV (K : PySem.W.Frag) (T : String) (x : V) (H : Hp) : Prop:=match x with
 | .str _=>T = "str"
 | .int _=>T = "int"
 | .ref p=>(T = "list" ∧ ∃ xs,SqL K H p xs)∨(T = "tuple" ∧ ∃ o,K.lookup p = some o∧o.cls = .type "tuple" ∧ o.dict = none) ∨
   (T = "dict" ∧ ((∃ kvs,H p = some (.dK kvs))∨∃ kvs,H p = some (.dT kvs)))∨(T = "set" ∧ ∃ S n,H p = some (.set S n))
 | _=>False
theorem tyV_is {pins : List (Addr × Obj)} {σ : St} {H : Hp} {s : Shared} {T : String} {x : V} {v : Value} (I : Inv X pins σ H s) (r : RelV x v) (ty : tyV X.K T x H) :
  s.TypeIs v T∧∀ a,v = .ref a→∃ ob,s.heap.get? a = some ob∧ob.dict = none:=by
 cases x with
 | str z =>
  obtain ⟨t,rfl⟩:=r
  cases (show T = "str" from ty)
  exact ⟨typeIs_str s z t,fun _ e=>nomatch e⟩
 | int i =>
  obtain ⟨t,rfl⟩:=r
  cases (show T = "int" from ty)
  exact ⟨typeIs_int s i t,fun _ e=>nomatch e⟩
 | ref p =>
  cases r
  rcases ty with ⟨rfl,xs,hq⟩ | ⟨rfl,o,hk,hc,hd⟩ | ⟨rfl,hk⟩ | ⟨rfl,S,n,hk⟩
  ·obtain ⟨its,_,pl,_⟩:=I.list hq
   refine ⟨pl.isList.typeIs,fun a e=>?_⟩
   cases e
   obtain ⟨o,n,e,c,hd,_⟩:=pl
   exact ⟨o,e,hd⟩
  ·refine ⟨⟨o,I.kIn p o hk,hc⟩,fun a e=>?_⟩
   cases e
   exact ⟨o,I.kIn _ o hk,hd⟩
  ·have z : ∃ o,s.heap.get? p = some o∧o.ExactDict:=by
    rcases hk with ⟨kvs,hk⟩ | ⟨kvs,hk⟩
    ·obtain ⟨_,_,_,_,o,_,_,e,ex,_⟩:=I.hok p _ hk
     exact ⟨o,e,ex⟩
    ·obtain ⟨_,_,_,_,o,_,_,e,ex,_⟩:=I.hok p _ hk
     exact ⟨o,e,ex⟩
   obtain ⟨o,e,ex⟩:=z
   refine ⟨⟨o,e,ex.1⟩,fun a e2=>?_⟩
   cases e2
   exact ⟨o,e,ex.2.1⟩
  ·obtain ⟨o,_,_,_,e,ex,_⟩:=I.hok p _ hk
   refine ⟨⟨o,e,ex.1⟩,fun a e2=>?_⟩
   cases e2
   exact ⟨o,e,ex.2.1⟩
 | _=>exact False.elim ty
def tBM (K : PySem.W.Frag) (T : String) (r : V→List V→Hp→VK→Prop) (to : TE) (t : TA) : TE:=fun σ H Q=>to σ H fun x H1=>tyV K T x H1∧t σ H1 fun xs H2=>r x xs H2 Q
variable {o e : Expr} {es : List Expr} {to : TE} {t : TA} {name : Str} {apos cpos : Pos} {T id : String} {r : V→List V→Hp→VK→Prop}
theorem pe_bm (pa : PlainAttrs T) (slot : Slot T name id) (hty : typeOf (.builtin id) = pure (.type "method_descriptor")) (hm : MtR X id r) (ho : PE X o to) (ha : PA X (e :: es) t)
  (hbase : attributeBase o name X.env (eval o X.env) = eval o X.env:=by rfl)
  (hfew : ((backTo cpos (starEach (e :: es) X.env)).all (fun x=>!x.1) && (backToKw cpos (keywordEach [] X.env)).all (fun x=>x.1.isSome)
   && decide ((e :: es).length + ([] : List Keyword).length + (if ([] : List Keyword).isEmpty then 0 else 1) < 30)) = true:=by rfl)
  (hline : (apos.endLine == cpos.line) = true:=by rfl) (hs : starEach (e :: es) X.env = (false,eval e X.env) :: starEach es X.env:=by rfl) (hplain : (backTo cpos (starEach es X.env)).any (·.1) = false:=by rfl) :
  PE X (.Call (.Attribute o name apos) (e :: es) [] cpos) (tBM X.K T r to t):=by
 intro pins s σ H Q I h
 refine wpAny_Call_method_late hbase hfew hline rfl (thn (ho pins s σ H _ I h) fun v s1 ⟨x,H1,I1,r1,ty,q1⟩=>?_)
 obtain ⟨h1,h2⟩:=tyV_is I1 r1 ty
 refine ⟨T,id,pa,slot,hty,h1,h2,?_⟩
 have hA:=ha cpos pins s1 σ H1 _ I1 q1
 rw [hs] at hA ⊢
 refine Calls.callWith_builtin (by show (false || (backTo cpos (starEach es X.env)).any (·.1)) = false; rw [hplain] <;> rfl) (Calls.evalArgs_plain ?_)
 exact thn hA fun us s2 ⟨vs,H2,I2,r2,q2⟩=>hm pins s2 σ H2 x vs v us Q I2 r1 r2 q2
end
end L2
namespace L2
open PySem PySem.Spec PyProof.Rows
def MtM (X : Cx) (id : String) (r : V→List V→Hp→VK→Prop) : Prop :=
 ∀ (pins : List (Addr × Obj)) (s : Shared) (σ : St) (H : Hp) (x : V) (xs : List V) (v : Value) (us : List Value) (Q : VK),Inv X pins σ H s→RelV x v→Vals xs us→r x xs H Q →
  wpAny (model X.prog X.w) X.A (call (.builtin id) (v :: us)) (EP X pins σ Q) X.xe s
theorem Vals.one : ∀ {x : V} {us : List Value},Vals [x] us→∃ u,us = [u]∧RelV x u
 | _,_,.cons r .nil=>⟨_,rfl,r⟩
section
variable {X : Cx} {pins : List (Addr × Obj)} {σ : St} {H : Hp} {s : Shared} {l b : Addr} {xs ys zs : List V}
theorem Inv.lset {its its' : List Value} {n : Nat} {f : Array Value→Array Value} {t' : Nat} (I : Inv X pins σ H s) (hH : H l = some (.lst xs))
  (e : s.heap.get? l = some { cls:=.type "list",data:=.seq its.toArray n }) (hf : f its.toArray = its'.toArray) (hv : Vals ys its') (hz : ys.length ≤ sizeLine) :
  Inv X pins σ (upd H l (.lst ys)) { s with heap:=s.heap.update l (Obj.mapSeq f),toks:=t' }:=by
 have q:=PySem.IsL.update e f
 rw [hf] at q
 refine I.write (x:=l) (e:=l) (by rw [hH]; exact trivial) (.inl rfl) (fun b' u hb hu=>(Heap.get?_update_other s.heap (Obj.mapSeq f) (Ne.symm hb)).trans hu) ⟨_,q⟩ ?_
 exact ⟨hz,its',_,hv,q⟩
theorem Inv.lnew {its : List Value} {t' : Nat} (I : Inv X pins σ H s) (hv : Vals ys its) (hz : ys.length ≤ sizeLine) :
  Inv X pins σ (upd H s.heap.objs.size (.lst ys)) { s with heap:=s.heap.push { cls:=.type "list",data:=.seq its.toArray },toks:=t' } :=
 I.laid (fun _ _ q=>Heap.get?_push_of_some _ q) (Nat.le_refl _) ⟨hz,its,0,hv,Heap.get?_push_size _ rfl⟩
theorem Inv.fresh (I : Inv X pins σ H s) : H s.heap.objs.size = none:=I.hok.fresh (Nat.le_refl _)
theorem Inv.lstM (I : Inv X pins σ H s) (hH : H l = some (.lst xs)) : xs.length ≤ sizeLine∧∃ (its : List Value) (n : Nat),Vals xs its∧xs.length = its.length∧s.heap.get? l = some { cls:=.type "list",data:=.seq its.toArray n }:=by
 obtain ⟨z,its,n,r,e⟩:=I.hok l _ hH
 exact ⟨z,its,n,r,r.length,e⟩
end
section
variable {X : Cx}
def rAppend : V→List V→Hp→VK→Prop:=fun x vs H Q=>∃ l xs y,x = .ref l∧vs = [y]∧H l = some (.lst xs)∧xs.length < sizeLine∧Q .non (upd H l (.lst (xs ++ [y])))
theorem mt_append : MtM X "list.append" rAppend:=by
 intro pins s σ H x vs v us Q I rx rv h
 obtain ⟨l,xs,y,rfl,rfl,hH,hz,q⟩:=h
 cases rx
 obtain ⟨u,rfl,ru⟩:=rv.one
 obtain ⟨z,its,n,r,hl,e⟩:=I.lstM hH
 refine call_meets F.slot_list_append ⟨_,e,rfl⟩ F.entry_list_append (F.args_list_append_2 _ _) (PySem.list_append l its.toArray n u (by rw [List.size_toArray]; omega)) ⟨e,?_⟩
 refine ⟨.non,_,I.lset (its':=its ++ [u]) hH e (by simp) (r.append (.cons ru .nil)) ?_,rfl,q⟩
 rw [List.length_append,List.length_singleton]
 omega
def rCat : R2:=fun x y H Q=>∃ l b xs zs,x = .ref l∧y = .ref b∧H l = some (.lst xs)∧H b = some (.lst zs)∧xs.length + zs.length ≤ sizeLine∧∀ p,H p = none→Q (.ref p) (upd H p (.lst (xs ++ zs)))
theorem op_cat : OpR X (binaryOp .Add) rCat:=by
 intro pins s σ H x y v u Q I rx ry h
 obtain ⟨l,b,xs,zs,rfl,rfl,hH,hB,hz,q⟩:=h
 cases rx
 cases ry
 obtain ⟨z,its,n,r,hl,e⟩:=I.lstM hH
 obtain ⟨z2,its2,n2,r2,hl2,e2⟩:=I.lstM hB
 refine PySem.P.add_list e e2 ?_ (by rw [List.size_toArray,List.size_toArray]; omega)
 have ea : its.toArray ++ its2.toArray = (its ++ its2).toArray:=by simp
 rw [ea]
 exact ⟨.ref _,_,I.lnew (t':=s.toks) (r.append r2) (by rw [List.length_append]; omega),rfl,q _ I.fresh⟩
end
section
variable {prog : Program} {w : World} {A : Around} {E : Value→Shared→Prop} {s : Shared}
set_option maxRecDepth 100000 in
end
section
variable {X : Cx}
end
end L2
namespace Att
open PySem PySem.W PySem.Calls PyProof.Rows
theorem ints_of_wellAll {P : Params} {h : Heap} : ∀ (ns : List Int) (vs : List Value),WellAll P h vs (ns.map WData.int)→IntsAre vs ns:=by
 intro ns
 induction ns with
 | nil =>
  intro vs w
  rw [List.map_nil] at w
  cases w
  exact .nil
 | cons n ns ih =>
  intro vs w
  rw [List.map_cons] at w
  cases w with
  | cons a b =>
   cases a
   exact .cons _ _ (ih _ b)
theorem script_of {l : OpenLaw} {n : Nat} (hn : l.most = some n) {P : Params} {h : Heap} {args : List WData} {vals : List Value}
  (hpre : l.row.toRowW.claim.pre args = true) (hwl : WellAll P h vals args) :
  ∃ a vs ns,vals = [Value.ref a]∧args = [WData.list (ns.map WData.int)]∧h.get? a = some { cls:=.type "list",data:=.seq vs.toArray }∧IntsAre vs ns∧ns.length ≤ n:=by
 have hsh : WShape.hasAll [] args [.list .int] = true:=(pre_splitW hpre).1
 have hc : l.pre.holds [] { args:=args } = true:=(pre_splitW hpre).2
 obtain ⟨d,r,rfl,h1,h2⟩:=hasAllW_cons hsh
 obtain rfl:=hasAllW_nil h2
 obtain ⟨xs,rfl,h3⟩:=hasW_list h1
 obtain ⟨ns,rfl⟩:=items_int h3
 have hlen : ns.length ≤ n:=by
  unfold OpenLaw.pre at hc
  have h4 : (WTm.not (.lt (.lit (.int (n : Int))) (.len (.arg 0)))).holds [] { args:=[.list (ns.map .int)] } = true:=by
   have h4:=(holds_andW hc).1
   rw [hn] at h4
   exact h4
  have h5:=condW_of h4 (w_not (w_lt w_lit (w_len_list (w_arg rfl))))
  rw [List.length_map] at h5
  refine Nat.le_of_not_lt fun q=>?_
  have q' : (n : Int) < ((ns.length : Nat) : Int):=by omega
  first
   | (rw [decide_eq_true q'] at h5; exact absurd h5 (by decide))
   | (simp at h5; omega)
 cases hwl with
 | cons w1 w2 =>
  cases w2
  cases w1 with
  | list ho hall=>exact ⟨_,_,ns,rfl,rfl,ho,ints_of_wellAll ns _ hall,hlen⟩
theorem post_true (l : OpenLaw) (args : List WData) : l.row.toRowW.claim.post args (.bool true) args = true :=
 postW_of (r:=l.row.toRowW) (X:=(true == true))
  (show WShape.has [] (.bool true) .bool = true by first | rfl | decide | simp [WShape.has,WShape.arms,WShape.armsAll])
  (show (WTm.eq .res (.lit (.bool true))).value [] { args:=args,res:=some (.bool true),after:=args } = some (.bool (true == true)) from w_eq_bool (w_res rfl) w_lit) rfl
theorem attach_call {l : OpenLaw} {n : Nat} {q : Program} {loose : List Str} {XP : (Str→Option Value)→Heap→Prop} {YP : World→Heap→Prop} {d : DefRec}
  (hn : l.most = some n) (hdf : d.params.defaults = [])
  (call : ∀ (w : World) (s₀ s₁ : Shared) (mg mb : Str→Option Value) (fa : Addr) (o : Obj) (pm cd doc : Value) (a : Addr) (vs : List Value) (ns : List Int),
   Ground q loose [] XP w s₀ mg mb s₁.heap→YP w s₁.heap →
   s₁.heap.get? fa = some o→o.data = .func (docDef d.name d.params d.body d.scope pm cd doc)→s₁.heap.CodeRec cd d.name→mg d.name = some (.ref fa) →
   s₁.heap.get? a = some { cls:=.type "list",data:=.seq vs.toArray }→IntsAre vs ns→ns.length ≤ n→s₁.gens = #[] →
   codeAny (model l.prog w) callerA (.call (.ref fa) ⟨[.ref a],[]⟩) (fun r s'=>r = .ok (.ret (.bool true))∧OldK s₁.heap s'.heap∧s'.os = s₁.os∧AllBare s'.gens) s₁) :
  WalkO q loose XP YP l.row.toRowW d [] (fun f vs=>PySem.call f vs):=by
 intro w s₀ s₁ mg mb G Y fa o pm cd doc dV kV ho hd hcd hD hmg hg args vals as hpre hlay hrd hwl hlo
 obtain rfl : dV = .none:=Dflts.none hD hdf
 obtain rfl : kV = .none:=Dflts.noKw hD
 obtain ⟨a,vs,ns,rfl,rfl,hobj,hints,hlen⟩:=script_of hn hpre hwl
 refine enter_call (codeAny_mono (call w s₀ s₁ mg mb fa o pm cd doc a vs ns G Y ho (fd_plain hd) hcd hmg hobj hints hlen hg) fun r s' hq=>?_)
 obtain ⟨rfl,h2,h3,h4⟩:=hq
 exact ⟨.inl ⟨.bool true,.bool true,[],rfl,fun _=>rfl,.bool true,post_true l _,fun _=>⟨List.Pairwise.nil,fun _ hm=>(nomatch hm)⟩⟩,h2,h3,h4⟩
section
variable {prog : Program} {w : World} {A : Around} {E : Value→Shared→Prop} {s : Shared} {K : Frag}
end
end Att
namespace L2
open PySem PySem.Spec PyProof.Rows
theorem vals_ints : ∀ {vs : List Value} {ns : List Int},IntsAre vs ns→Vals (ns.map V.int) vs
 | _,_,.nil=>.nil
 | _,_,.cons n t h=>.cons ⟨t,rfl⟩ (vals_ints h)
def Only (H : Hp) : Prop:=∀ b,H b = none∨∃ o xs,H b = some (.frz o (.lst xs))
theorem law_call {P : Program} {w : World} {K : PySem.W.Frag} {mg mb : Str→Option Value} {CX : CXT} {k : Nat} {fa a : Addr} {fd : FuncData} {x : Str} {sp : Sp} {s₁ : Shared} {vs : List Value} {ns : List Int}
  (KX : K.In s₁.heap) (hns : s₁.heap.Ns mainGlobals mg) (hb : s₁.heap.Ns builtinsNs mb) (hbb : ∀ x : Str,x ≠ "__name__" → mb x = bootBuiltins x) (hlim : s₁.heap.NoLimit) (hg : s₁.gens = #[])
  (ha : s₁.heap.get? a = some { cls:=.type "list",data:=.seq vs.toArray }) (hi : IntsAre vs ns) (hl : ns.length ≤ sizeLine) (hr : Room k callerA)
  (F : ∀ base : Heap,K.In base→base.Ns mainGlobals mg→FnOk P w K mg base CX k fa fd [x] sp) (hbind : ∀ (s : Shared) (u : Value),BindsTo s fd ⟨[u],[]⟩ [(x,u)])
  (hsp : ∀ H : Hp,Only H→SqL K H a (ns.map V.int)→sp [.ref a] H (fun v _=>v = .bl true) fun _ _ _=>False)
  (hCX : ∀ H e s',CX [] H s₁ (fun _ _ _=>False) e s'→False) :
  codeAny (model P w) callerA (.call (.ref fa) ⟨[.ref a],[]⟩) (fun r s'=>r = .ok (.ret (.bool true))∧OldK s₁.heap s'.heap∧s'.os = s₁.os∧AllBare s'.gens) s₁:=by
 have rv:=vals_ints hi
 have lenV:=hi.length
 have core : ∀ H : Hp,Only H→SqL K H a (ns.map V.int)→HOk P w H s₁.heap→(∀ b,H b ≠ none→b = a)→(H a ≠ none→K.lookup a = none) →
   codeAny (model P w) callerA (.call (.ref fa) ⟨[.ref a],[]⟩) (fun r s'=>r = .ok (.ret (.bool true))∧OldK s₁.heap s'.heap∧s'.os = s₁.os∧AllBare s'.gens) s₁:=by
  intro H hO hS hok hA hK
  have base_of : ∀ {b : Addr} {o : Obj},s₁.heap.get? b = some o→H b = none→(hidT s₁.heap H).get? b = some o:=fun e n=>hidT_get e n
  have noA : ∀ {b : Addr} {o : Obj} {es : Array DictEntry} {ep : Nat},s₁.heap.get? b = some o→o.data = .dict es ep→H b = none:=fun {b o es ep} e d=>by
   cases q : H b with
   | none=>rfl
   | some u =>
    have e' : b = a:=hA b (by rw [q]; simp)
    subst e'
    rw [ha] at e; cases e
    have d' : Data.seq vs.toArray _ = Data.dict es ep:=d
    cases d'
  have nsK : ∀ {b : Addr} {m : Str→Option Value},s₁.heap.Ns b m→(hidT s₁.heap H).Ns b m:=fun {b m} ⟨o,es,ep,e,d,r⟩=>⟨o,es,ep,base_of e (noA e d),d,r⟩
  have hKb : K.In (hidT s₁.heap H):=fun b o e=>base_of (KX b o e) (by
   cases q : H b with
   | none=>rfl
   | some u =>
    have e' : b = a:=hA b (by rw [q]; simp)
    subst e'
    rw [hK (by rw [q]; simp)] at e; cases e)
  have hM : Mod K mg (hidT s₁.heap H):=⟨hKb,nsK hns,⟨mb,nsK hb,hbb⟩,let ⟨mc,h1,h2⟩:=hlim; ⟨mc,nsK h1,h2⟩⟩
  have e0 : Env0 P w K mg (hidT s₁.heap H) callerA [] s₁ H:=⟨rfl,hM,fun b o e=>of_hidT e,Nat.le_of_eq (hidT_size _ _),trivial,fun b hb=>absurd (show b ∈ ([] : List Addr) from hb) (by simp),hok,.of_eq hg⟩
  refine codeAny_mono ((F _ hKb (nsK hns)).run callerA [] s₁ H ⟨[.ref a],[]⟩ [.ref a] [.ref a] _ _ hr e0 (hbind s₁ (.ref a)) (.cons rfl .nil) (hsp H hO hS)) fun r s' h=>?_
  cases r with
  | error e=>exact (hCX H e s' h).elim
  | ok fl =>
   cases fl with
   | next=>exact False.elim h
   | brk=>exact False.elim h
   | cont=>exact False.elim h
   | ret u =>
    obtain ⟨v,H',os,bare,un,hok',r',q⟩:=h
    have q' : v = .bl true:=q
    subst q'
    obtain rfl : u = Value.bool true:=r'
    refine ⟨rfl,OldK.of_keep fun b o e=>?_,os,bare⟩
    cases q : H b with
    | none=>exact un.keep b o e q (by intro z; exact absurd (show b ∈ ([] : List Addr) from z) (by simp)) (by simp)
    | some u =>
     rcases hO b with z | ⟨ob,xs,z⟩
     ·rw [q] at z; cases z
     ·have z2:=un.frzs b ob _ z
      obtain ⟨e1,_⟩:=hok b _ z
      obtain ⟨e2,_⟩:=hok' b _ z2
      rw [e] at e1; cases e1
      exact e2
 cases hk : K.lookup a with
 | some o =>
  have e:=KX a o hk
  rw [ha] at e
  cases e
  refine core (fun _=>none) (fun _=>.inl rfl) (.inr ⟨_,vs.toArray,_,hk,rfl,rfl,rfl,by rw [List.size_toArray,lenV]; exact hl,by simpa using rv⟩) (fun b u z=>by have z' : (none : Option HO) = some u:=z; cases z') (fun b z=>absurd rfl z) fun z=>absurd rfl z
 | none =>
  refine core (fun b=>if b = a then some (.frz { cls:=.type "list",data:=.seq vs.toArray } (.lst (ns.map V.int))) else none) (fun b=>?_) (.inl (.inr ⟨{ cls:=.type "list",data:=.seq vs.toArray },if_pos rfl⟩)) (fun b u z=>?_) (fun b z=>?_) fun _=>hk
  ·by_cases hb : b = a
   ·exact .inr ⟨_,_,if_pos hb⟩
   ·exact .inl (if_neg hb)
  ·by_cases hb : b = a
   ·have z':=(if_pos hb).symm.trans z
    cases z'
    subst hb
    exact ⟨ha,by rw [List.length_map]; exact hl,vs,_,rv,ha⟩
   ·have z':=(if_neg hb).symm.trans z
    cases z'
  ·by_cases hb : b = a
   ·exact hb
   ·exact absurd (if_neg hb) z
end L2
namespace L2
open PySem PySem.Spec PyProof.Rows
abbrev KOf {K : PySem.W.Frag} {h : Heap} (_ : K.In h) : PySem.W.Frag:=K
theorem walk_of {l : PySem.W.OpenLaw} {n k : Nat} {q : Program} {loose : List Str} {XP : (Str→Option Value)→Heap→Prop} {YP : World→Heap→Prop} {d : DefRec} {K : Params→PySem.W.Frag} {CX : World→CXT} {sp : World→Sp} {x : Str}
  (hn : l.most = some n) (hn2 : n ≤ sizeLine) (hdf : d.params.defaults = []) (hr : Room k callerA)
  (hY : ∀ (w : World) (h : Heap),YP w h→(K w.params).In h)
  (F : ∀ (w : World) (mg : Str→Option Value) (fa : Addr) (h : Heap),(K w.params).In h→h.Ns mainGlobals mg→mg d.name = some (.ref fa) →
   ∃ fd : FuncData,(∀ (s : Shared) (u : Value),BindsTo s fd ⟨[u],[]⟩ [(x,u)]) ∧
    ∀ base : Heap,(K w.params).In base→base.Ns mainGlobals mg→FnOk l.prog w (K w.params) mg base (CX w) k fa fd [x] (sp w))
  (hsp : ∀ (w : World) (H : Hp) (a : Addr) (ns : List Int),ns.length ≤ n→Only H→SqL (K w.params) H a (ns.map V.int)→sp w [.ref a] H (fun v _=>v = .bl true) fun _ _ _=>False)
  (hCX : ∀ (w : World) (H : Hp) (s : Shared) (e : Value) (s' : Shared),CX w [] H s (fun _ _ _=>False) e s'→False) :
  PySem.W.WalkO q loose XP YP l.row.toRowW d [] (fun f vs=>PySem.call f vs):=by
 refine Att.attach_call hn hdf fun w s₀ s₁ mg mb fa o pm cd doc a vs ns G Y ho hd hcd hmg hobj hints hlen hg=>?_
 have KX:=hY w _ Y
 obtain ⟨fd,hb,hF⟩:=F w mg fa _ KX G.T.g hmg
 exact law_call KX G.T.g G.T.b G.T.builtins G.T.nolimit hg hobj hints (Nat.le_trans hlen hn2) hr hF hb (fun H hO hS=>hsp w H a ns hlen hO hS) fun H e s'=>hCX w H s₁ e s'
end L2
namespace L2
open PySem PySem.Spec PyProof.Rows
def defArgs (s : Stmt) : Arguments:=match s with
 | .FunctionDef _ a _ _ _ _ _ _ _ _=>a
 | _=>{ posonlyargs:=[],args:=[],vararg:=none,kwonlyargs:=[],kw_defaults:=[],kwarg:=none,defaults:=[] }
def defBody (s : Stmt) : List Stmt:=match s with
 | .FunctionDef _ _ b _ _ _ _ _ _ _=>b
 | _=>[]
def defScope (s : Stmt) : Scope:=match s with
 | .FunctionDef _ _ _ _ _ _ sc _ _ _=>sc
 | _=>{ kind:=.function,names:=[],isGenerator:=false,isCoroutine:=false }
abbrev CX0 : CXT:=fun _ _ _ _ _ _=>False
abbrev E0 : XK:=fun _ _ _=>False
theorem pass0 {X : Cx} : Passes CX0 X E0:=fun _ _ _ _ _ _ _ h=>h.elim
structure Fun (K : PySem.W.Frag) (x qual : Str) (st : Stmt) (f : Addr) (fd : FuncData) : Prop where
 ex : ∃ (oc : Value) (od : Option Addr) (kV doc pm : Value) (an : Option Addr) (cdv ct : Value) (osl : Array (Option Value)),
  fd = PySem.W.fnOf x qual (defArgs st) (defBody st) (defScope st) .none kV doc pm an cdv ct∧K.lookup f = some ⟨oc,od,.func fd,osl⟩∧PySem.W.codeIn K cdv qual = true
 kp : PySem.W.keepIn K (.ref f) = true
section
variable {P : Program} {w : World} {K : PySem.W.Frag} {mg : Str→Option Value} {base : Heap}
theorem Fun.ok {x qual : Str} {st : Stmt} {f : Addr} {fd : FuncData} {N ps : List Str} {k : Nat} {sp : Sp} (F : Fun K x qual st f fd) (S : FnScope N ps (defScope st)) (len : ∀ vs H Q E,sp vs H Q E→vs.length = ps.length)
  (hbody : ∀ (cdv : Value) (A : Around) (outer : List Env) (s : Shared) (H : Hp) (vs : List V) (Q : VK) (E : XK),Room k (A.deeper (envOfC qual (defScope st) s.heap.objs.size f cdv))→sp vs H Q E →
   ∃ t,PSs (cxOf CX0 P w K mg base N qual (defScope st) f cdv A outer s H E).nox (defBody st) t∧t { nx:=fun _ H'=>Q .non H',rt:=Q } (start N vs) H) : FnOk P w K mg base CX0 (k + 1) f fd ps sp:=by
 obtain ⟨oc,od,kV,doc,pm,an,cdv,ct,osl,rfl,lk,hcd⟩:=F.ex
 refine fn_of lk hcd S len fun A outer s H vs Q E hr hsp=>?_
 obtain ⟨t,h,q⟩:=hbody cdv A outer s H vs Q E hr hsp
 exact ⟨t,h.nox,q⟩
theorem Fun.binds {x qual : Str} {st : Stmt} {f : Addr} {fd : FuncData} {ps : List Str} (F : Fun K x qual st f fd)
  (h : ∀ (kV doc pm : Value) (an : Option Addr) (cdv ct : Value) (us : List Value),us.length = ps.length→bindArgs (PySem.W.fnOf x qual (defArgs st) (defBody st) (defScope st) .none kV doc pm an cdv ct) ⟨us,[]⟩ = pure (ps.zip us)) : Binds K fd ps []:=by
 obtain ⟨oc,od,kV,doc,pm,an,cdv,ct,osl,rfl,lk,hcd⟩:=F.ex
 exact .all (h kV doc pm an cdv ct)
theorem fun_mk {x qual : Str} {st : Stmt} {f : Addr} {oc : Value} {od an : Option Addr} {osl : Array (Option Value)} {kV doc pm cdv ct : Value} (l : K.lookup f = some ⟨oc,od,.func (PySem.W.fnOf x qual (defArgs st) (defBody st) (defScope st) .none kV doc pm an cdv ct),osl⟩)
  (c : PySem.W.codeIn K cdv qual = true) (k : PySem.W.keepIn K (.ref f) = true) : Fun K x qual st f (PySem.W.fnOf x qual (defArgs st) (defBody st) (defScope st) .none kV doc pm an cdv ct):=⟨⟨oc,od,kV,doc,pm,an,cdv,ct,osl,rfl,l,c⟩,k⟩
end
theorem hu_of {A : Around} {k : Nat} (hr : Room k A) : A.units + 1 < cLine:=Nat.lt_of_le_of_lt (Nat.add_le_add_left (by decide : 1 ≤ 64) _) hr.units
theorem small1000 {n : Nat} (h : n ≤ 1000) : n < sizeLine:=Nat.lt_of_le_of_lt h (by decide)
section
variable {X : Cx}
theorem pv (i : Nat) {x : Str} {pos : Pos} (hN : X.N[i]? = some x:=by rfl) (hv : Vis X.env.scope x:=by first | exact Or.inl rfl | exact Or.inr (Or.inl rfl) | exact Or.inr (Or.inr rfl)) (hd : (x == ("__debug__" : Str)) = false:=by decide)
  (hcd : (x == ("__classdict__" : Str)) = false:=by decide) : PE X (.Name x pos) (tVar i):=pe_var hN hv hd hcd
end
theorem iteF {A B : Prop} (h : B) : if false = true then A else B:=by
 rw [if_neg Bool.false_ne_true]
 exact h
theorem iteT {A B : Prop} (h : A) : if true = true then A else B:=by
 rw [if_pos rfl]
 exact h
theorem ite2 {c A B : Prop} [Decidable c] (h1 : c→A) (h2 : ¬ c→B) : if c then A else B:=by
 by_cases h : c
 ·rw [if_pos h]
  exact h1 h
 ·rw [if_neg h]
  exact h2 h
theorem iteNS {c A B : Prop} [Decidable c] (hc : c) (h : B) : if (!decide c) = true then A else B:=by
 rw [decide_eq_true hc]
 exact iteF h
def Same (H H' : Hp) : Prop:=∀ b o,H b = some o→H' b = some o
theorem Same.refl (H : Hp) : Same H H:=fun _ _ h=>h
theorem Same.trans {H H1 H2 : Hp} (a : Same H H1) (b : Same H1 H2) : Same H H2:=fun c o h=>b c o (a c o h)
theorem Same.free {H H' : Hp} (e : Same H H') {l : Addr} (h : H' l = Option.none) : H l = Option.none:=by
 cases q : H l with
 | none=>rfl
 | some o =>
  rw [e l o q] at h
  cases h
theorem Same.seq {K : PySem.W.Frag} {H H' : Hp} {a : Addr} {xs : List V} (e : Same H H') (h : SqL K H a xs) : SqL K H' a xs:=by
 rcases h with (h | ⟨o,h⟩) | h
 ·exact .inl (.inl (e _ _ h))
 ·exact .inl (.inr ⟨o,e _ _ h⟩)
 ·exact .inr h
end L2
set_option Elab.async false
set_option linter.all false
set_option maxRecDepth 100000
set_option maxHeartbeats 16000000
namespace L2
open PySem PySem.Spec PyProof.Rows
section
variable {X : Cx} {pins : List (Addr × Obj)} {σ : List (Option V)} {H : Hp} {s : Shared} {h' : Heap}
theorem Inv.turnedL {t' : Nat} {ch : List Addr} (I : Inv X pins σ H s) (k : ∀ b o,b ∉ ch→s.heap.get? b = some o→h'.get? b = some o) (hf : ∀ b ∈ ch,FpOk X pins H b) :
  Inv X pins σ H { s with heap:=h',toks:=t' }:=by
 have nit : ∀ b u,H b = some u→b ∉ ch:=fun b u e z=>by rw [(hf b z).1] at e; cases e
 refine I.step (g':=s.gens) (d':=s.drawn) (ch:=ch) (fun b hb=>?_) (fun b o _ _ hc e _=>k b o hc e) (fun b o _ _ hc e _=>⟨o.slots,k b o hc e⟩) (fun _ _ _ _ n=>n)
  (fun b o hc e=>⟨o,k b o hc e⟩) (fun _ _ e=>e) (fun _ _ _ e=>e) (fun b ps e=>⟨#[],by rw [e]; simp⟩) (fun m hm=>?_) (fun b u e=>?_) I.bare
 ·obtain ⟨_,h1,_,h2,h3,h4⟩:=hf b hb
  exact ⟨h2,h1,h3,h4⟩
 ·obtain ⟨o,es,ep,ho,r⟩:=hm
  exact ⟨o,es,ep,k _ o (fun z=>(hf _ z).2.1 rfl) ho,r⟩
 ·refine (I.hok b u e).stay (fun c v hc q=>k c v ?_ q) (fun _ q=>q) fun _ _ q=>q
  rcases hc with z | z
  ·rw [z]; exact nit b u e
  ·exact nit c _ z
theorem Inv.track {T : Addr} {o : HO} (I : Inv X pins σ H s) (hf : FpOk X pins H T) (new : ObjOk X.prog X.w (upd H T o) s.heap T o) : Inv X pins σ (upd H T o) s:=by
 obtain ⟨h0,h1,h5,h2,h3,h4⟩:=hf
 have nT : ∀ b u,H b = some u→b ≠ T:=fun b u e z=>by rw [z,h0] at e; cases e
 refine I.step (h':=s.heap) (g':=s.gens) (d':=s.drawn) (t':=s.toks) (ch:=[T]) (fun b hb=>?_) (fun b o _ _ hc e _=>e) (fun b o _ _ hc e _=>⟨o.slots,e⟩)
  (fun b o hc _ n=>by rw [upd_ne (fun z=>hc (by simp [z]))]; exact n)
  (fun b o hc e=>⟨o,e⟩) (fun b xs e=>by rw [upd_ne (nT _ _ e)]; exact e) (fun b ob u e=>by rw [upd_ne (nT _ _ e)]; exact e) (fun b ps e=>⟨#[],by rw [upd_ne (nT _ _ e),e]; simp⟩) (fun m hm=>hm) (fun b u e=>?_) I.bare
 ·have e : b = T:=by simpa using hb
  subst e
  exact ⟨h2,h1,h3,h4⟩
 ·by_cases hb : b = T
  ·subst hb; rw [upd_same] at e; cases e; exact new
  ·rw [upd_ne hb] at e
   exact (I.hok b u e).stay (fun c v _ q=>q) (fun c q=>by rw [upd_ne (nT _ _ q)]; exact q) fun c xs q=>by rw [upd_ne (nT _ _ q)]; exact q
end
section
variable {X : Cx}
theorem call_isinst : CallR X (.builtin "isinstance") (fun xs H Q=>∃ x t T b,xs = [x,.ty T]∧TyOf X.K H x t∧PySem.W.kitOne X.K t (.type T) = some b∧Q (.bl b) H):=by
 intro pins s σ H xs us Q I r h
 obtain ⟨x,t,T,b,rfl,ty,e,q⟩:=h
 obtain ⟨u,w',rfl,rx,ry⟩:=vals2 r
 cases (show w' = Value.type T from ry)
 exact isinst_ok I rx ty e fun tk=>⟨.bl b,H,I.tok _,rfl,q⟩
end
end L2
namespace ET
open PySem PySem.Spec
open PySem.AutoSeq1 (wpAny_loadPart')
section
variable {prog : Program} {w : World} {A : Around} {E : Value→Shared→Prop} {s : Shared}
theorem nextOf_tuple_item {it l : Addr} {i : Nat} {items : Array Value} {x : Value} {Q : Value→Shared→Prop} (hit : s.heap.IsTupleIter it l i)
  (hl : s.heap.IsTuple l items) (hx : items[i]? = some x)
  (hQ : ∀ h',h'.IsTupleIter it l (i + 1)→Heap.SameBut it s.heap h'→Q x { s with heap:=h' }) :
  wpAny (model prog w) A (Builtin.SmallTypes.nextOf (.ref it)) Q E s:=by
 obtain ⟨o,ho,hc,hd⟩:=id hit
 obtain ⟨ol,hol,_,nl,hdl⟩:=hl
 unfold Builtin.SmallTypes.nextOf
 refine wpAny_bind (wpAny_callSpecial?_slot (name:=Str.ofString "__next__") hit.typeIs F.slot_tuple_iterator_next
  (wpAny_call_entry F.slot_tuple_iterator_next hit.typeIs F.entry_tuple_iterator_next ?_ (F.args_tuple_iterator_next_1 _)))
 show wpAny _ _ (field (.ref it) 0 >>= _) _ _ s
 refine wpAny_bind (wpAny_field ho hd (x:=.ref l) rfl ?_)
 show wpAny _ _ (if (Value.ref l == Value.none) = true then _ else _) _ _ s
 rw [if_neg (show ¬ ((Value.ref l == Value.none) = true) from Bool.false_ne_true)]
 show wpAny _ _ (field (.ref it) 1 >>= _) _ _ s
 refine wpAny_bind (wpAny_field ho hd (x:=.int i 0) rfl ?_)
 show wpAny _ _ (seqItems? (.ref l) >>= _) _ _ s
 refine wpAny_bind (wpAny_seqItems hol hdl ?_)
 simp only [Int.toNat_natCast,hx]
 refine wpAny_bind (wpAny_setField ho hd (by simp) (wpAny_pure ⟨x,rfl,wpAny_pure (hQ _ ?_ (Heap.SameBut.update ..))⟩))
 exact ⟨_,Heap.get?_update_self _ ho (Obj.isFreed_of_fields (Obj.data_mapFields hd _)),(Obj.cls_mapFields ..).trans hc,by
  rw [Obj.data_mapFields hd]; simp [rawInt]⟩
theorem nextOf_tuple_end {it l : Addr} {i : Nat} {items : Array Value} {Q : Value→Shared→Prop} (hh : A.handled = none)
  (hit : s.heap.IsTupleIter it l i) (hl : s.heap.IsTuple l items) (hx : items[i]? = none)
  (hE : ∀ h' e,Heap.ExtBut it s.heap h'→(∃ o,h'.get? e = some o∧o.cls = .type "StopIteration")→E (.ref e) { s with heap:=h' }) :
  wpAny (model prog w) A (Builtin.SmallTypes.nextOf (.ref it)) Q E s:=by
 obtain ⟨o,ho,hc,hd⟩:=id hit
 obtain ⟨ol,hol,_,nl,hdl⟩:=hl
 unfold Builtin.SmallTypes.nextOf
 refine wpAny_bind (wpAny_callSpecial?_slot (name:=Str.ofString "__next__") hit.typeIs F.slot_tuple_iterator_next
  (wpAny_call_entry F.slot_tuple_iterator_next hit.typeIs F.entry_tuple_iterator_next ?_ (F.args_tuple_iterator_next_1 _)))
 show wpAny _ _ (field (.ref it) 0 >>= _) _ _ s
 refine wpAny_bind (wpAny_field ho hd (x:=.ref l) rfl ?_)
 show wpAny _ _ (if (Value.ref l == Value.none) = true then _ else _) _ _ s
 rw [if_neg (show ¬ ((Value.ref l == Value.none) = true) from Bool.false_ne_true)]
 show wpAny _ _ (field (.ref it) 1 >>= _) _ _ s
 refine wpAny_bind (wpAny_field ho hd (x:=.int i 0) rfl ?_)
 show wpAny _ _ (seqItems? (.ref l) >>= _) _ _ s
 refine wpAny_bind (wpAny_seqItems hol hdl ?_)
 simp only [Int.toNat_natCast,hx]
 refine wpAny_bind (wpAny_rule (wpAny_bind (wpAny_setField ho hd (by simp) ?_)))
 show wpAny _ _ (newExc (.type "StopIteration") [] >>= _) _ _ _
 refine wpAny_bind ?_
 simp only [newExc,newTuple]
 refine wpAny_bind (wpAny_newObj_type ?_ (by size_fits))
 refine wpAny_bind (m:=firstArgMember _ _) (wpAny_of_eq (a:=Value.none) (by first | rfl | (simp only [firstArgMember]; rfl)) ?_)
 refine wpAny_newObj_type ?_ (by size_fits)
 simp only [raiseNew]
 refine wpAny_bind (wpAny_handled ?_)
 first | rw [show A.in1.handled = none from hh] | rw [hh]
 refine wpAny_bind (wpAny_pure (wpAny_throw ?_))
 exact hE _ _ (((Heap.SameBut.update ..).extBut.push _).push _) ⟨_,Heap.get?_push_size _ rfl,rfl⟩
end
theorem draws_tuple {prog : Program} {w : World} {A : Around} (hh : A.handled = none) (it l : Addr) (hne : l ≠ it) (items : Array Value) :
  Draws prog w A it [it,l] items.size (fun i v=>items[i]? = some v) (fun i h=>h.IsTupleIter it l i∧h.IsTuple l items) where
 live:=fun _ _ st=>let ⟨o,ho,_⟩:=st.1; ⟨o,ho⟩
 frame:=fun _ _ _ st hk=>⟨let ⟨o,ho,r⟩:=st.1; ⟨o,hk it (by simp) o ho,r⟩,let ⟨o,ho,r⟩:=st.2; ⟨o,hk l (by simp) o ho,r⟩⟩
 item:=fun i s Q E hi st hQ=>by
  refine nextOf_tuple_item st.1 st.2 (x:=items[i]) (by simp [hi]) fun h' hit' hs'=>?_
  exact hQ _ h' s.toks (by simp [hi]) ⟨hit',st.2.extBut hs'.extBut hne⟩ hs'
 done:=fun s Q E st hE=>nextOf_tuple_end hh st.1 st.2 (by simp) hE
theorem meets_enumerate_newT (l : Addr) (items : Array Value) (n : Nat) (dct : Option Addr) (sl : Array (Option Value)) :
  Meets (Builtin.«enumerate.__new__» ⟨[.type "enumerate",.ref l],[]⟩) (fun _ R s=>s.heap.get? l = some { cls:=.type "tuple",dict:=dct,data:=.seq items n,slots:=sl } ∧
   R (.ok (.ret (.ref (s.heap.push { cls:=.type "tuple_iterator",data:=.fields #[.ref l,.int 0 0] }).objs.size)))
    { s with heap:=(s.heap.push { cls:=.type "tuple_iterator",data:=.fields #[.ref l,.int 0 0] }).push { cls:=.type "enumerate",data:=.fields #[.none,.bool false,.ref s.heap.objs.size,rawInt 0,.none,.none] } }) :=
 .of_wp fun prog w A R s h=>by
  obtain ⟨hp,g,d,tk,os⟩:=s; obtain ⟨hl,h⟩:=h
  have hsub:=sub_enumerate
  have hL : Heap.IsTuple (Shared.heap ⟨hp,g,d,tk,os⟩) l items:=⟨_,hl,rfl,n,rfl⟩
  wp_walk using wpAny_loadPart' hl
  refine wpAny_stack_any fun st=>wpAny_pure ?_
  split
  ·rename_i c _ _ _ _ _
   cases (c == Value.type "enumerate")
   ·wp_walk using wpAny_loadPart' hl,wpAny_pyIter_tuple hL
    exact ⟨_,rfl,h⟩
   ·wp_walk using wpAny_loadPart' hl,wpAny_pyIter_tuple hL
    exact ⟨_,rfl,h⟩
  ·wp_walk using wpAny_loadPart' hl,wpAny_pyIter_tuple hL
   exact ⟨_,rfl,h⟩
theorem call_enumerate_tuple {prog : Program} {w : World} {A : Around} {E : Value→Shared→Prop} {s : Shared} {l : Addr} {items : Array Value} {Q : Value→Shared→Prop} (hL : s.heap.IsTuple l items)
  (h : ∀ h',IsEnum h' (s.heap.objs.size + 1) s.heap.objs.size 0 .none→h'.IsTupleIter s.heap.objs.size l 0→h'.objs.size = s.heap.objs.size + 2 →
   (∀ b o,s.heap.get? b = some o→h'.get? b = some o)→Q (.ref (s.heap.objs.size + 1)) { s with heap:=h' }) :
  wpAny (model prog w) A (call (.type "enumerate") [.ref l]) Q E s:=by
 obtain ⟨⟨c,dct,dt,sl⟩,hl,hc,n,hd⟩:=hL
 replace hc : c = .type "tuple" := hc
 replace hd : dt = .seq items n:=hd
 subst hc hd
 refine callType_new F.called_enumerate (by decide) (F.typeCall_enumerate_1 _) (F.newCall_enumerate_1 _) (fun obj=>F.args_object_init_2 obj _) F.entry_enumerate_new
  (meets_enumerate_newT l items n dct sl) ⟨hl,?_⟩
 have hz : (s.heap.push { cls:=.type "tuple_iterator",data:=.fields #[.ref l,.int 0 0] }).objs.size = s.heap.objs.size + 1:=Heap.size_push ..
 show _∧_
 rw [hz]
 have he : IsEnum ((s.heap.push { cls:=.type "tuple_iterator",data:=.fields #[.ref l,.int 0 0] }).push
   { cls:=.type "enumerate",data:=.fields #[.none,.bool false,.ref s.heap.objs.size,rawInt 0,.none,.none] }) (s.heap.objs.size + 1) s.heap.objs.size 0 .none:=by
  have:=Heap.get?_push_size (s.heap.push { cls:=.type "tuple_iterator",data:=.fields #[.ref l,.int 0 0] })
   (o:={ cls:=.type "enumerate",data:=.fields #[.none,.bool false,.ref s.heap.objs.size,rawInt 0,.none,.none] }) rfl
  rw [hz] at this; exact this
 refine ⟨⟨_,he,rfl⟩,h _ he ⟨_,Heap.get?_push_of_some _ (Heap.get?_push_size _ rfl),rfl,rfl⟩ (by rw [Heap.size_push,hz]) fun b o x=>Heap.get?_push_of_some _ (Heap.get?_push_of_some _ x)⟩
end ET
namespace L2
open PySem PySem.Spec PyProof.Rows
def Ite (K : PySem.W.Frag) (a : Addr) : It :=
 ⟨fun i H=>∃ xs x,SqT K H a xs∧xs[i]? = some x,
   fun i H x H'=>∃ p v,(∀ xs,SqT K H a xs→xs[i]? = some v)∧H p = none∧x = .ref p∧H' = upd H p (.tup [.int i,v]),
   fun i H=>∃ xs,SqT K H a xs∧xs.length = i⟩
theorem turn_enumT {P : Program} {w : World} {K : PySem.W.Frag} {elts : List Expr} {k : Nat} {pos : Pos} (a e it : Addr) (hei : e ≠ it) :
  Turn P w K (.Tuple elts k pos) (Ite K a) [e,it] e (fun i h=>(∃ old,IsEnum h e it i old)∧h.IsTupleIter it a i) where
 mem:=by simp
 obj:=fun i h st b hb=>by
  obtain ⟨⟨old,he⟩,o,ho,hc,hd⟩:=st
  rcases List.mem_cons.mp hb with z | hb
  ·subst z
   exact ⟨_,he,fun v z=>by
    have z' : Data.fields _ = Data.cell v:=z
    cases z'⟩
  ·obtain z:=List.mem_singleton.mp hb
   subst z
   exact ⟨o,ho,fun v z=>by rw [hd] at z; cases z⟩
 keep:=fun i h h' st kk=>by
  obtain ⟨⟨old,he⟩,o,ho,r⟩:=st
  exact ⟨⟨old,kk e (by simp) _ he⟩,o,kk it (by simp) o ho,r⟩
 item:=by
  intro X hP hw hK hc i pins s σ H E I hf st hg
  subst hP hw hK
  obtain ⟨xs,x,hq,hx⟩:=hg
  obtain ⟨its,rv,p,hz⟩:=I.tuple hq
  obtain ⟨u,hu,ru⟩:=rv.get hx
  obtain ⟨⟨old,he⟩,hit⟩:=st
  have ht : s.heap.IsTuple a its.toArray:=p
  have hai : a ≠ it:=by
   intro z
   obtain ⟨o,ho,hc1,_⟩:=id hit
   obtain ⟨o2,ho2,hc2,_⟩:=id ht
   rw [z,ho] at ho2
   cases ho2
   rw [hc1] at hc2
   exact absurd hc2 (by decide)
  have hae : a ≠ e:=by
   intro z
   obtain ⟨o2,ho2,hc2,_⟩:=id ht
   have he':=he
   unfold IsEnum at he'
   rw [z,he'] at ho2
   cases ho2
   exact absurd (show Value.type "enumerate" = Value.type "tuple" from hc2) (by decide)
  have D:=ET.draws_tuple (prog:=X.prog) (w:=X.w) (A:=X.A.in1) (show X.A.in1.handled = none from I.ok.hd hc) it a hai its.toArray
  have hef : e ∉ [it,a]:=by
   intro z
   rcases List.mem_cons.mp z with z | z
   ·exact hei z
   ·exact hae (List.mem_singleton.mp z).symm
  have W:=WalksT.enumerateD D e hei hef (by simp)
  have hlt : i < its.toArray.size:=by
   have h1:=(List.getElem?_eq_some_iff.mp hu).1
   simpa using h1
  refine W.item i s _ _ hlt ⟨⟨old,he⟩,hit,ht⟩ fun T vals h' tk hP hT hTup hM hk=>?_
  obtain ⟨t,y,hy,rfl⟩:=hP
  have ey : y = u:=by
   have : its[i]? = some y:=by simpa using hy
   rw [hu] at this
   exact (Option.some.inj this).symm
  subst ey
  have I1 : Inv X pins σ H { s with heap:=h',toks:=tk }:=I.turnedL (ch:=[e,it]) hk hf
  have hHT : H T = none:=I.hok.fresh hT
  have fT : FpOk X pins H T:=I.fpOk hT hHT
  refine ⟨_,rfl,?_⟩
  refine W.go elts k pos i T { s with heap:=h',toks:=tk } _ _ hM fun h2 st2 hk2=>?_
  have I2':=I1.turnedL (h':=h2) (t':=tk) (ch:=[e,it]) hk2 hf
  have I2 : Inv X pins σ H { s with heap:=h2,toks:=tk }:=I2'
  have hT2 : h2.IsTuple T #[.int i t,y]:=by
   obtain ⟨o,ho,r⟩:=hTup
   exact ⟨o,hk2 T o (W.apart i T h' hM) ho,r⟩
  have I3 : Inv X pins σ (upd H T (.tup [.int i,x])) { s with heap:=h2,toks:=tk } :=
   I2.track fT ⟨by show 2 ≤ sizeLine; decide,[.int i t,y],.cons ⟨t,rfl⟩ (.cons ru .nil),hT2⟩
  refine ⟨.ref T,_,I3,rfl,⟨T,x,fun ys hy'=>by rw [I.tuple_inj hy' hq]; exact hx,hHT,rfl,rfl⟩,⟨by simpa using st2.1,st2.2.1⟩,fun b hb=>?_⟩
  rw [upd_ne (fun z=>W.apart i T h' hM (by rw [← z]; exact hb))]
  exact (hf b hb).1
 done:=by
  intro X hP hw hK hc i pins s σ H E I hf st hg
  subst hP hw hK
  obtain ⟨xs,hq,hx⟩:=hg
  obtain ⟨its,rv,p,hz⟩:=I.tuple hq
  obtain ⟨⟨old,he⟩,hit⟩:=st
  have ht : s.heap.IsTuple a its.toArray:=p
  have hai : a ≠ it:=by
   intro z
   obtain ⟨o,ho,hc1,_⟩:=id hit
   obtain ⟨o2,ho2,hc2,_⟩:=id ht
   rw [z,ho] at ho2
   cases ho2
   rw [hc1] at hc2
   exact absurd hc2 (by decide)
  have hae : a ≠ e:=by
   intro z
   obtain ⟨o2,ho2,hc2,_⟩:=id ht
   have he':=he
   unfold IsEnum at he'
   rw [z,he'] at ho2
   cases ho2
   exact absurd (show Value.type "enumerate" = Value.type "tuple" from hc2) (by decide)
  have D:=ET.draws_tuple (prog:=X.prog) (w:=X.w) (A:=X.A.in1) (show X.A.in1.handled = none from I.ok.hd hc) it a hai its.toArray
  have hef : e ∉ [it,a]:=by
   intro z
   rcases List.mem_cons.mp z with z | z
   ·exact hei z
   ·exact hae (List.mem_singleton.mp z).symm
  have W:=WalksT.enumerateD D e hei hef (by simp)
  have hl:=rv.length
  have hn : i = its.toArray.size:=by simp; omega
  refine W.done s _ _ ⟨⟨old,by rw [← hn]; exact he⟩,by rw [← hn]; exact hit,ht⟩ fun h' tk hk=>⟨rfl,?_⟩
  exact I.turnedL (ch:=[e,it]) hk hf
 self:=fun _ _ _ _ _ st h=>by
  obtain ⟨⟨old,he⟩,_⟩:=st
  exact wpAny_pyIter_enum he h
section
variable {X : Cx} {elts : List Expr} {k : Nat} {tpos : Pos}
def iEnum (K : PySem.W.Frag) (ta : TA) : TI:=fun σ H R=>ta σ H fun vs H1=>∃ a,vs = [.ref a]∧(∃ xs,SqT K H1 a xs)∧R (Ite K a) H1
theorem pi_enumT {a : Expr} {ta : TA} {p pos : Pos} (hg : Gl X "enumerate") (hm : X.mg "enumerate" = none) (ha : PA X [a] ta) (hs : starEach [a] X.env = [(false,eval a X.env)]:=by rfl) :
  PI X (.Tuple elts k tpos) (.Call (.Name "enumerate" p) [a] [] pos) (iEnum X.K ta):=by
 intro pins s σ H R I h
 refine Call_ (ld_blt I hg hm boot_enumerate (PyProof.Rows.callWith_type1 (thn (ha pos pins s σ H _ I h) fun us s1 ⟨vs,H1,I1,r1,q1⟩=>?_) hs rfl))
 obtain ⟨a,e,⟨xs,hq⟩,q⟩:=q1
 subst e
 cases r1 with
 | cons r rr =>
  cases rr
  cases r
  obtain ⟨its,rv,p,hz⟩:=I1.tuple hq
  refine ET.call_enumerate_tuple (show s1.heap.IsTuple a its.toArray from p) fun h' he hit hsz hk=>?_
  have I2 : Inv X pins σ H1 { s1 with heap:=h' }:=I1.kept (t':=s1.toks) hk
  refine wpAny_pyIter_enum he ?_
  refine ⟨s1.heap.objs.size + 1,[s1.heap.objs.size + 1,s1.heap.objs.size],_,_,H1,rfl,I2,turn_enumT a (s1.heap.objs.size + 1) s1.heap.objs.size (Nat.succ_ne_self _),⟨⟨_,he⟩,hit⟩,fun b hb=>?_,q⟩
  have hb' : s1.heap.objs.size ≤ b:=by
   rcases List.mem_cons.mp hb with z | z
   ·rw [z]; exact Nat.le_succ _
   ·rw [List.mem_singleton.mp z]; exact Nat.le_refl _
  exact I1.fpOk hb' (I1.hok.fresh hb')
end
theorem for_enum {K : PySem.W.Frag} {a : Addr} {xs : List V} {g : TG} {tb : TS} {D : Ends} {σ : St} {H : Hp} (Pv : Nat→St→Hp→Prop) (h0 : Pv 0 σ H) (hl : ∀ i σ H,i ≤ xs.length→Pv i σ H→SqT K H a xs)
  (hs : ∀ i x p σ H,xs[i]? = some x→Pv i σ H→H p = none→g (.ref p) σ (upd H p (.tup [.int i,x])) fun σ2 H2=>tb { D with nx:=Pv (i + 1),ct:=Pv (i + 1),bk:=D.nx } σ2 H2) (hd : ∀ σ H,Pv xs.length σ H→D.nx σ H) :
  ∃ W : Nat→Nat→St→Hp→Prop,(∃ m,W 0 m σ H)∧∀ i m σ H,W i m σ H →
   ((Ite K a).stop i H∧D.nx σ H)∨((Ite K a).go i H∧∃ N : St→Hp→Prop,(∀ σ' H',N σ' H'→∃ m',m' < m∧W (i + 1) m' σ' H')∧∀ x H',(Ite K a).yld i H x H'→g x σ H' fun σ2 H2=>tb { D with nx:=N,ct:=N,bk:=D.nx } σ2 H2):=by
 refine ⟨fun i m σ H=>m = xs.length - i∧i ≤ xs.length∧Pv i σ H,⟨xs.length,by simp,Nat.zero_le _,h0⟩,?_⟩
 rintro i m σ H ⟨rfl,hi,p⟩
 have q:=hl i σ H hi p
 by_cases hlt : i < xs.length
 ·refine .inr ⟨⟨xs,xs[i],q,by simp [hlt]⟩,Pv (i + 1),fun σ' H' p'=>⟨xs.length - (i + 1),by omega,rfl,hlt,p'⟩,fun x H' y=>?_⟩
  obtain ⟨pp,v,y,hn,e1,e2⟩:=y
  subst e1 e2
  exact hs i v pp σ _ (y xs q) p hn
 ·have e : i = xs.length:=by omega
  subst e
  exact .inl ⟨⟨xs,q,rfl⟩,hd σ H p⟩
end L2
set_option Elab.async false
set_option linter.all false
set_option maxRecDepth 100000
set_option maxHeartbeats 16000000
namespace L2
open PySem PySem.Spec PyProof.Rows
structure Cl (P : Program) (w : World) (K : PySem.W.Frag) (mg : Str→Option Value) (base : Heap) (k : Nat) (x : Str) (ps : List Str) (sp : Sp) : Prop where
 ex : ∃ f fd,FnOk P w K mg base CX0 k f fd ps sp∧mg x = some (.ref f)∧PySem.W.keepIn K (.ref f) = true∧Binds K fd ps []
theorem pe_fn {X : Cx} {j k : Nat} {x : Str} {ps : List Str} {sp : Sp} {e : Expr} {es : List Expr} {t : TA} {p pos : Pos} (C : Cl X.prog X.w X.K X.mg X.base j x ps sp) (hr : Room k X.A) (hg : Gl X x) (ha : PA X (e :: es) t) (hjk : j ≤ k:=by decide)
  (hdb : (x == ("__debug__" : Str)) = false:=by decide) (he : starEach (e :: es) X.env = (false,eval e X.env) :: starEach es X.env:=by rfl) (hpl : (backTo pos (starEach es X.env)).any (·.1) = false:=by rfl) :
  PE X (.Call (.Name x p) (e :: es) [] pos) (tCall sp [] E0 t):=by
 obtain ⟨f,fd,F,hm,hk,hb⟩:=C.ex
 exact pe_call F (hr.mono hjk) hg hm hk hb .nil pass0 ha hdb he hpl
def HasDef (K : PySem.W.Frag) (mg : Str→Option Value) (x : Str) (st : Stmt) : Prop:=∃ f fd,Fun K x x st f fd∧mg x = some (.ref f)
theorem hasDef_mk {K : PySem.W.Frag} {mg : Str→Option Value} {h : Heap} {x : Str} {st : Stmt} {f : Addr} {oc : Value} {od an : Option Addr} {osl : Array (Option Value)} {kV doc pm cdv ct : Value} (X : K.In h) (G : h.Ns mainGlobals mg)
  (a : PySem.W.nsIn K mainGlobals x = some (some (.ref f))) (l : K.lookup f = some ⟨oc,od,.func (PySem.W.fnOf x x (defArgs st) (defBody st) (defScope st) .none kV doc pm an cdv ct),osl⟩)
  (c : PySem.W.codeIn K cdv x = true) (k : PySem.W.keepIn K (.ref f) = true) : HasDef K mg x st :=
 ⟨f,_,fun_mk l c k,PySem.W.mg_of X G a⟩
theorem Cl.of {P : Program} {w : World} {K : PySem.W.Frag} {mg : Str→Option Value} {base : Heap} {x : Str} {st : Stmt} {N ps : List Str} {k : Nat} {sp : Sp} (T : HasDef K mg x st) (S : FnScope N ps (defScope st)) (len : ∀ vs H Q E,sp vs H Q E→vs.length = ps.length)
  (hb : ∀ (kV doc pm : Value) (an : Option Addr) (cdv ct : Value) (us : List Value),us.length = ps.length→bindArgs (PySem.W.fnOf x x (defArgs st) (defBody st) (defScope st) .none kV doc pm an cdv ct) ⟨us,[]⟩ = pure (ps.zip us))
  (hbody : ∀ (f : Addr) (cdv : Value) (A : Around) (outer : List Env) (s : Shared) (H : Hp) (vs : List V) (Q : VK) (E : XK),Room k (A.deeper (envOfC x (defScope st) s.heap.objs.size f cdv))→sp vs H Q E →
   ∃ t,PSs (cxOf CX0 P w K mg base N x (defScope st) f cdv A outer s H E).nox (defBody st) t∧t { nx:=fun _ H'=>Q .non H',rt:=Q } (start N vs) H) : Cl P w K mg base (k + 1) x ps sp:=by
 obtain ⟨f,fd,F,m⟩:=T
 exact ⟨f,fd,F.ok S len (fun cdv A outer s H vs Q E=>hbody f cdv A outer s H vs Q E),m,F.kp,F.binds hb⟩
def Tups (H H' : Hp) : Prop:=∀ b xs,H b = some (.tup xs)→H' b = some (.tup xs)
section
variable {H H1 H2 : Hp} {l p : Addr} {o : HO} {xs ys : List V}
theorem Same.tups (e : Same H H1) : Tups H H1:=fun b xs q=>e b _ q
theorem Tups.refl (H : Hp) : Tups H H:=fun _ _ q=>q
theorem Tups.trans (a : Tups H H1) (b : Tups H1 H2) : Tups H H2:=fun c xs q=>b c xs (a c xs q)
theorem Tups.lst (h : H l = some (.lst xs)) : Tups H (upd H l (.lst ys)):=fun b zs q=>by
 rw [upd_ne (ne_of q h (by intro z; cases z))]; exact q
theorem Tups.new (h : H p = none) : Tups H (upd H p o):=fun b zs q=>by
 rw [upd_ne (ne_of_none q h)]; exact q
theorem Same.put (s : Same H H1) (h : H l = none) : Same H (upd H1 l o):=fun b u q=>by
 rw [upd_ne (ne_of_none q h)]; exact s b u q
theorem Same.new (s : Same H H1) (h : H1 p = none) : Same H (upd H1 p o):=s.put (s.free h)
theorem upd_keep {u : HO} (h : H l = some u) (hp : H p = none) : upd H p o l = some u:=by
 rw [upd_ne (ne_of_none h hp)]; exact h
end
theorem atI_getD {α : Type} (xs : List α) (d : α) {i : Int} (h0 : 0 ≤ i) (h1 : i < (xs.length : Int)) : atI xs i = some (xs.getD i.toNat d):=by
 have e : i = ((i.toNat : Nat) : Int):=by omega
 have hl : i.toNat < xs.length:=by omega
 have hx : xs[i.toNat]? = some (xs.getD i.toNat d):=by
  rw [List.getD_eq_getElem?_getD]
  simp [hl]
 have:=atI_nat hx
 rw [← e] at this
 exact this
theorem atI_map {α : Type} (f : α→V) (xs : List α) (d : α) {i : Int} (h0 : 0 ≤ i) (h1 : i < (xs.length : Int)) : atI (xs.map f) i = some (f (xs.getD i.toNat d)):=by
 have:=atI_getD (xs.map f) (f d) h0 (by simpa using h1)
 rw [this,List.getD_eq_getElem?_getD,List.getElem?_map,List.getD_eq_getElem?_getD]
 have hl : i.toNat < xs.length:=by omega
 simp [hl]
theorem iteSE {x : Str} {A B : Prop} (h : A) : if decide (V.str x = V.str x) = true then A else B:=by
 rw [if_pos (decide_eq_true rfl)]; exact h
theorem iteSN {x y : Str} {A B : Prop} (e : ¬ x = y) (h : B) : if decide (V.str x = V.str y) = true then A else B:=by
 rw [if_neg (by rw [decide_eq_false (fun q=>e (V.str.inj q))]; exact Bool.false_ne_true)]; exact h
theorem ite2I {i j : Int} {A B : Prop} (h1 : i = j→A) (h2 : ¬ i = j→B) : if decide (V.int i = V.int j) = true then A else B :=
 ite2 (fun h=>h1 (V.int.inj (of_decide_eq_true h))) fun h=>h2 fun e=>h (decide_eq_true (congrArg V.int e))
theorem kit_same (K : PySem.W.Frag) (T : String) : PySem.W.kitOne K (.type T) (.type T) = some true:=by
 unfold PySem.W.kitOne
 rw [if_pos (by simp)]
theorem kit_int_str (K : PySem.W.Frag) : PySem.W.kitOne K (.type "int") (.type "str") = some false:=by kernel_rfl
theorem kit_int_bool (K : PySem.W.Frag) : PySem.W.kitOne K (.type "int") (.type "bool") = some false:=by kernel_rfl
def isLet (c : Nat) : Bool:=decide (97 ≤ c) && decide (c ≤ 122)
def isFig (c : Nat) : Bool:=decide (48 ≤ c) && decide (c ≤ 57)
def isSg (c : Nat) : Bool:=isLet c || isFig c
def isNm : List Nat→Bool
 | []=>false
 | c :: r=>isLet c && r.all isSg && decide (r.length ≤ 7)
def NameOk (x : Str) : Prop:=isNm x.cps.toList = true
instance (x : Str) : Decidable (NameOk x):=inferInstanceAs (Decidable (_ = true))
theorem NameOk.len {x : Str} (h : NameOk x) : 1 ≤ x.length∧x.length ≤ 8:=by
 unfold NameOk at h
 obtain ⟨⟨l⟩⟩:=x
 cases l with
 | nil=>exact absurd (show false = true from h) Bool.false_ne_true
 | cons c r =>
  have h' : (isLet c && r.all isSg && decide (r.length ≤ 7)) = true:=h
  simp only [Bool.and_eq_true,decide_eq_true_eq] at h'
  show 1 ≤ (Array.mk (c :: r)).size∧(Array.mk (c :: r)).size ≤ 8
  simp only [List.size_toArray,List.length_cons]
  omega
inductive Th where
 | num (n : Int)
 | nam (x : Str)
def thV : Th→V
 | .num n=>.int n
 | .nam x=>.str x
def ThOk : Th→Prop
 | .num n=>0 ≤ n∧n < 10 ^ 60
 | .nam x=>NameOk x
def TermAt (H : Hp) (v : V) (t : Int × Th) : Prop:=∃ p,v = .ref p∧H p = some (.tup [.int t.1,thV t.2])∧ThOk t.2
abbrev Terms (H : Hp) : List V→List (Int × Th)→Prop:=Paired (TermAt H)
theorem Paired.get? {α β : Type} {F : α→β→Prop} : ∀ {xs : List α} {ys : List β} {i : Nat} {x : α},Paired F xs ys→xs[i]? = some x→∃ y,ys[i]? = some y∧F x y
 | _,_,_,_,.nil,e=>by simp at e
 | _,_,0,_,.cons r _,e=>by simp at e; subst e; exact ⟨_,rfl,r⟩
 | _,_,i + 1,x,.cons _ t,e=>by
  obtain ⟨u,h1,h2⟩:=Paired.get? (i:=i) (x:=x) t (by simpa using e)
  exact ⟨u,by simpa using h1,h2⟩
theorem Paired.get?' {α β : Type} {F : α→β→Prop} : ∀ {xs : List α} {ys : List β} {i : Nat} {y : β},Paired F xs ys→ys[i]? = some y→∃ x,xs[i]? = some x∧F x y
 | _,_,_,_,.nil,e=>by simp at e
 | _,_,0,_,.cons r _,e=>by simp at e; subst e; exact ⟨_,rfl,r⟩
 | _,_,i + 1,x,.cons _ t,e=>by
  obtain ⟨u,h1,h2⟩:=Paired.get?' (i:=i) (y:=x) t (by simpa using e)
  exact ⟨u,by simpa using h1,h2⟩
theorem TermAt.mono {H H' : Hp} (s : Tups H H') {v : V} {t : Int × Th} (h : TermAt H v t) : TermAt H' v t:=by
 obtain ⟨p,e,h,o⟩:=h
 exact ⟨p,e,s p _ h,o⟩
theorem Terms.mono {H H' : Hp} (s : Tups H H') {vs : List V} {ts : List (Int × Th)} (h : Terms H vs ts) : Terms H' vs ts:=Paired.mapP h fun _ _ q=>q.mono s
structure TermsAt (H : Hp) (t : Addr) (ts : List (Int × Th)) : Prop where
 ex : ∃ vs,H t = some (.tup vs)∧Terms H vs ts
 lo : 1 ≤ ts.length
 hi : ts.length ≤ 6
theorem TermsAt.mono {H H' : Hp} (s : Tups H H') {t : Addr} {ts : List (Int × Th)} (h : TermsAt H t ts) : TermsAt H' t ts:=by
 obtain ⟨⟨vs,h1,h2⟩,lo,hi⟩:=h
 exact ⟨⟨vs,s t _ h1,h2.mono s⟩,lo,hi⟩
theorem take_succ_get {α : Type} {l : List α} {i : Nat} {x : α} (h : l[i]? = some x) : l.take (i + 1) = l.take i ++ [x]:=by
 rw [List.take_succ,h]; rfl
end L2
set_option Elab.async false
set_option linter.all false
set_option maxRecDepth 100000
set_option maxHeartbeats 16000000
namespace L2
open PySem PySem.Spec PyProof.Rows
section
variable {X : Cx}
end
structure WordOk (x : Str) : Prop where
 nb : 32 ∉ x.cps.toList
 len : x.length ≤ 61
instance (x : Str) : Decidable (WordOk x):=decidable_of_iff (32 ∉ x.cps.toList∧x.length ≤ 61) ⟨fun h=>⟨h.1,h.2⟩,fun h=>⟨h.nb,h.len⟩⟩
theorem isSg_ne {c : Nat} (h : isSg c = true) : c ≠ 32:=by
 rintro rfl
 exact absurd h (by decide)
theorem NameOk.signs {x : Str} (h : NameOk x) : ∀ c ∈ x.cps.toList,isSg c = true:=by
 unfold NameOk at h
 intro c hc
 cases e : x.cps.toList with
 | nil=>rw [e] at hc; simp at hc
 | cons d r =>
  rw [e] at h hc
  have h' : (isLet d && r.all isSg && decide (r.length ≤ 7)) = true:=h
  simp only [Bool.and_eq_true,decide_eq_true_eq,List.all_eq_true] at h'
  rcases List.mem_cons.mp hc with z | z
  ·rw [z]; unfold isSg; rw [h'.1.1]; rfl
  ·exact h'.1.2 c z
theorem NameOk.word {x : Str} (h : NameOk x) : WordOk x:=⟨fun z=>isSg_ne (h.signs 32 z) rfl,by have:=h.len; omega⟩
theorem num_text {n : Int} (h0 : 0 ≤ n) (h1 : n < 10 ^ 60) : (Str.ofString (toString n)).cps.toList = (Nat.toDigits 10 n.toNat).map Char.toNat∧(Nat.toDigits 10 n.toNat).length ≤ 60:=by
 have e : n = ((n.toNat : Nat) : Int):=by omega
 constructor
 ·have h:=text_ofNat n.toNat
  rw [show Int.ofNat n.toNat = n from e.symm] at h
  rw [h]
 ·exact digits10_le (by decide) (by omega)
inductive StrsE : List Expr→List Str→Prop
 | nil : StrsE [] []
 | cons {x : Str} {j pos} {es : List Expr} {ys : List Str} (h : StrsE es ys) : StrsE (.Constant (.str x) j pos :: es) (x :: ys)
section
variable {X : Cx}
theorem pa_strs {es : List Expr} {ys : List Str} (h : StrsE es ys) : PA X es (fun _ H Q=>Q (ys.map V.str) H):=by
 induction h with
 | nil=>exact pa_nil
 | @cons x j pos es ys h ih =>
  exact pa_cons (es:=es) (pe_str (x:=x) (j:=j) (pos:=pos)) ih rfl
end
end L2
set_option Elab.async false
set_option linter.all false
set_option maxRecDepth 100000
set_option maxHeartbeats 16000000
namespace L2
open PySem PySem.Spec PyProof.Rows
def closL (cells : List (Str × Addr)) : List (Str × NameKind)→List (Str × Addr)→List (Str × Addr)
 | [],cs=>cs
 | (n,k) :: r,cs=>closL cells r (if k == .free then (n,(cells.lookup n).getD 0) :: cs else cs)
theorem closL_pure {cells : List (Str × Addr)} {env : Env} (he : env.cells = cells) : ∀ (l : List (Str × NameKind)) (cs : List (Str × Addr)),(∀ y ∈ l,y.2 = .free→∃ c,cells.lookup y.1 = some c) →
  (forIn l cs fun p cs=>(do if p.2 == .free then (do let a ← cellOf env p.1; pure (ForInStep.yield ((p.1,a) :: cs))) else pure (ForInStep.yield cs) : Sem (ForInStep (List (Str × Addr))))) = pure (closL cells l cs):=by
 intro l
 induction l with
 | nil=>intro cs _; rfl
 | cons p r ih =>
  intro cs h
  obtain ⟨n,k⟩:=p
  rw [List.forIn_cons]
  have hr : ∀ y ∈ r,y.2 = .free→∃ c,cells.lookup y.1 = some c:=fun y hy=>h y (List.mem_cons_of_mem _ hy)
  by_cases hk : k = .free
  ·subst hk
   obtain ⟨c,hc⟩:=h (n,.free) List.mem_cons_self rfl
   have hc' : env.cells.lookup n = some c:=by rw [he]; exact hc
   have e : cellOf env n = pure c:=by unfold cellOf; rw [hc']
   simp only [beq_self_eq_true,if_true,e,pure_bind]
   rw [ih _ hr]
   unfold closL
   rw [if_pos (by simp),show (cells.lookup n).getD 0 = c by rw [show cells.lookup n = some c from hc]; rfl]
   conv=>rhs; unfold closL
  ·have hb : (k == NameKind.free) = false:=by simpa using hk
   simp only [hb,Bool.false_eq_true,if_false,pure_bind]
   rw [ih _ hr]
   conv=>rhs; unfold closL
   rw [if_neg (by rw [hb]; exact Bool.false_ne_true)]
theorem closL_lookup {cells : List (Str × Addr)} {x : Str} {c : Addr} : ∀ (l : List (Str × NameKind)) (cs : List (Str × Addr)),(∀ y ∈ l,y.2 = .free→∃ c,cells.lookup y.1 = some c)→(closL cells l cs).lookup x = some c→cells.lookup x = some c∨cs.lookup x = some c
 | [],cs,_,h=>.inr h
 | (n,k) :: r,cs,hy,h=>by
  unfold closL at h
  rcases closL_lookup r _ (fun y q=>hy y (List.mem_cons_of_mem _ q)) h with h | h
  ·exact .inl h
  ·by_cases hk : k = .free
   ·subst hk
    obtain ⟨c',hc⟩:=hy (n,.free) List.mem_cons_self rfl
    have hc : cells.lookup n = some c':=hc
    rw [if_pos (by simp),List.lookup_cons] at h
    split at h
    ·rename_i e
     have e' : x = n:=by simpa using e
     subst e'
     rw [hc] at h
     cases h
     exact .inl hc
    ·exact .inr h
   ·rw [if_neg (by simpa using hk)] at h
    exact .inr h
theorem closL_keep {cells : List (Str × Addr)} {x : Str} : ∀ (l : List (Str × NameKind)) (cs : List (Str × Addr)),(∃ c,cs.lookup x = some c)→∃ c,(closL cells l cs).lookup x = some c
 | [],_,h=>h
 | (n,k) :: r,cs,h=>by
  unfold closL
  refine closL_keep r _ ?_
  split
  ·rw [List.lookup_cons]
   split
   ·exact ⟨_,rfl⟩
   ·exact h
  ·exact h
theorem closL_has {cells : List (Str × Addr)} {x : Str} : ∀ (l : List (Str × NameKind)) (cs : List (Str × Addr)),(x,NameKind.free) ∈ l→∃ c,(closL cells l cs).lookup x = some c
 | (n,k) :: r,cs,h=>by
  unfold closL
  rcases List.mem_cons.mp h with e | h
  ·cases e
   refine closL_keep r _ ?_
   rw [if_pos (by simp),List.lookup_cons]
   simp
  ·exact closL_has r _ h
theorem closure_pure {sc : Scope} {env : Env} (h : ∀ y ∈ sc.names,y.2 = .free→∃ c,env.cells.lookup y.1 = some c) : closureFor sc env = pure (closL env.cells sc.names []):=by
 have:=closL_pure (env:=env) rfl sc.names [] h
 unfold closureFor
 simp only [bind_pure]
 exact this
theorem relabel_free {env : Env} {x : Str} : ∀ {names : List (Str × NameKind)},names.lookup x = some .free →
  (names.map fun (n,k)=>if (k == NameKind.free && env.scope.kind == .function && env.kindOf n == some .cell) then (n,NameKind.cell) else (n,k)).lookup x = some .cell ∨
  (names.map fun (n,k)=>if (k == NameKind.free && env.scope.kind == .function && env.kindOf n == some .cell) then (n,NameKind.cell) else (n,k)).lookup x = some .free
 | [],h=>by simp at h
 | (n,k) :: r,h=>by
  have ih:=@relabel_free env x r
  simp only [List.map_cons]
  by_cases hc : (k == NameKind.free && env.scope.kind == .function && env.kindOf n == some .cell) = true
  ·rw [if_pos hc]
   simp only [List.lookup_cons] at h ⊢
   cases hx : x == n with
   | true=>exact .inl rfl
   | false=>simp only [hx] at h ⊢; exact ih h
  ·rw [if_neg hc]
   simp only [List.lookup_cons] at h ⊢
   cases hx : x == n with
   | true=>simp only [hx] at h ⊢; exact .inr h
   | false=>simp only [hx] at h ⊢; exact ih h
theorem relabel_back {env : Env} {x : Str} : ∀ {names : List (Str × NameKind)},
  (names.map fun (n,k)=>if (k == NameKind.free && env.scope.kind == .function && env.kindOf n == some .cell) then (n,NameKind.cell) else (n,k)).lookup x = some .cell ∨
  (names.map fun (n,k)=>if (k == NameKind.free && env.scope.kind == .function && env.kindOf n == some .cell) then (n,NameKind.cell) else (n,k)).lookup x = some .free →
  (x,NameKind.free) ∈ names∨(x,NameKind.cell) ∈ names
 | [],h=>by simp at h
 | (n,k) :: r,h=>by
  have ih:=@relabel_back env x r
  simp only [List.map_cons] at h
  have tl : (x,NameKind.free) ∈ r∨(x,NameKind.cell) ∈ r→(x,NameKind.free) ∈ (n,k) :: r∨(x,NameKind.cell) ∈ (n,k) :: r:=fun q=>q.imp (List.mem_cons_of_mem _) (List.mem_cons_of_mem _)
  by_cases hc : (k == NameKind.free && env.scope.kind == .function && env.kindOf n == some .cell) = true
  ·rw [if_pos hc] at h
   have hk : k = .free:=by
    simp only [Bool.and_eq_true] at hc
    simpa using hc.1.1
   simp only [List.lookup_cons] at h
   cases hx : x == n with
   | true =>
    have e : x = n:=by simpa using hx
    subst e hk
    exact .inl List.mem_cons_self
   | false=>simp only [hx] at h; exact tl (ih h)
  ·rw [if_neg hc] at h
   simp only [List.lookup_cons] at h
   cases hx : x == n with
   | true =>
    have e : x = n:=by simpa using hx
    subst e
    simp only [hx] at h
    rcases h with h | h
    ·cases h; exact .inr List.mem_cons_self
    ·cases h; exact .inl List.mem_cons_self
   | false=>simp only [hx] at h; exact tl (ih h)
structure CompScope (osc : Scope) (N : List Str) (sc : Scope) (M : List Str) (ρ : List (Option Nat)) : Prop where
 kind : sc.kind = .function
 nocell : ∀ y ∈ sc.names,y.2 ≠ .cell
 own : ∀ y ∈ sc.names,y.2 = .local→sc.names.lookup y.1 = some .local
 fre : ∀ y ∈ sc.names,y.2 = .free→osc.names.lookup y.1 = some .cell∨osc.names.lookup y.1 = some .free
 len : ρ.length = M.length
 ren : ∀ p ∈ ρ.zip M,(match p.1 with | none=>true | some i=>decide (N[i]? = some p.2∧sc.names.lookup p.2 = some .free)) = true
 nd : M.Nodup
def subS (ρ : List (Option Nat)) (σ : St) : St:=ρ.map fun o=>match o with | none=>none | some i=>(σ[i]?).join
def cxComp (X : Cx) (sc : Scope) (cl : List (Str × Addr)) (C : Addr) (M : List Str) (s : Shared) (H : Hp) (fp : List Addr) (xe : Value→Shared→Prop) : Cx where
 prog:=X.prog
 w:=X.w
 K:=X.K
 mg:=X.mg
 base:=X.base
 A:=X.A
 N:=M
 s₀:=s
 H₀:=H
 env:=compEnvC sc cl C X.env
 outer:=X.stack
 stack:=X.stack
 ex:=fp
 fn:=fun _=>false
 calm:=X.calm
 pn:=[]
 xe:=xe
theorem comp_loop {P : Program} {w : World} {A : Around} {R : Result→Shared→Prop} {s : Shared} {elt tg iter : Expr} {ifs : List Expr} {sc : Scope} {pos : Pos} {it acc : Value} {env : Env} (J : Nat→Shared→Prop)
  (turn : ∀ n s,J n s→wpAny (model P w) A (pyNext it) (fun r s1=>match r with
   | none=>R (.ok .next) s1
   | some v=>wpAny (model P w) A (letOwnedTupleGo tg it v) (fun _ s2=>wpAny (model P w) A (assign tg env v) (fun _ s3 =>
     wpAny (model P w) A (forIn ifs true fun c r=>if r = true then do let ok ← isTrue c env (eval c env); pure (ForInStep.yield ok) else pure (ForInStep.yield r)) (fun ok s4 =>
      if ok = true then wpAny (model P w) A (eval elt env) (fun x s5=>wpAny (model P w) A (call (.builtin "list.append") [acc,x]) (fun _ s6=>∃ m,m < n∧J m s6) (notedBy (model P w) A env fun e s'=>R (.error e) s') s5)
       (notedBy (model P w) A env fun e s'=>R (.error e) s') s4
      else ∃ m,m < n∧J m s4) (notedBy (model P w) A env fun e s'=>R (.error e) s') s3) (notedBy (model P w) A env fun e s'=>R (.error e) s') s2) (notedBy (model P w) A env fun e s'=>R (.error e) s') s1)
   (notedBy (model P w) A env fun e s'=>R (.error e) s') s)
  (n : Nat) (h : J n s) : codeAny (model P w) A (.compLoop (.ListComp elt [⟨tg,iter,ifs,0⟩] sc pos) 0 it acc env) R s:=by
 refine codeAny_loop rfl J (fun n s hJ=>?_) n h
 show wpAny (model P w) A ((compTurn (.ListComp elt [⟨tg,iter,ifs,0⟩] sc pos) 0 it acc env).onRaise fun x=>do noteFrame x env; theTreesLotGoes x) _ _ s
 refine wpAny_noted ?_
 rw [compTurn_list]
 refine wpAny_bind (wpAny_standAt (wpAny_bind (thn (turn n s hJ) fun r s1 h1=>?_)))
 cases r with
 | none=>exact wpAny_pure h1
 | some v =>
  refine wpAny_bind (thn h1 fun _ s2 h2=>wpAny_bind (thn h2 fun _ s3 h3=>wpAny_bind (thn h3 fun ok s4 h4=>?_)))
  cases ok with
  | false=>exact wpAny_pure ⟨rfl,h4⟩
  | true=>exact wpAny_bind (wpAny_bind (thn h4 fun x s5 h5=>wpAny_bind (thn h5 fun _ s6 h6=>wpAny_pure (wpAny_pure ⟨rfl,h6⟩))))
def PTs (X : Cx) (ifs : List Expr) (t : TT) : Prop :=
 ∀ (pins : List (Addr × Obj)) (s : Shared) (σ : St) (H : Hp) (Q : Bool→Hp→Prop),Inv X pins σ H s→t σ H Q →
  wpAny (model X.prog X.w) X.A (forIn ifs true fun c r=>if r = true then do let ok ← isTrue c X.env (eval c X.env); pure (ForInStep.yield ok) else pure (ForInStep.yield r)) (TP X pins σ Q) X.xe s
def tNoTest : TT:=fun _ H Q=>Q true H
theorem ntG {i : Nat} {v : V} {σ : St} {H : Hp} {A B : St→Hp→Prop} (h : A (σ.set i (some v)) H) : gName i v σ H (fun σ4 H4=>tNoTest σ4 H4 fun b H5=>if b = true then A σ4 H5 else B σ4 H5):=by
 show if true = true then A (σ.set i (some v)) H else B (σ.set i (some v)) H
 exact iteT h
theorem pts_nil {X : Cx} : PTs X [] tNoTest:=fun _ _ _ H _ I h=>wpAny_tests_nil ⟨H,I,h⟩
def tComp (wi : TI) (ρ : List (Option Nat)) (g : TG) (tt : TT) (te : TE) : TE:=fun σ H Q=>wi σ H fun J H1=>∀ D,H1 D = none→∃ W : Nat→Nat→St→Hp→Prop,(∃ m,W 0 m (subS ρ σ) (upd H1 D (.lst [])))∧∀ i m σ2 H2,W i m σ2 H2 →
 (J.stop i H2∧Q (.ref D) H2)∨(J.go i H2∧∃ N : St→Hp→Prop,(∀ σ' H',N σ' H'→∃ m',m' < m∧W (i + 1) m' σ' H')∧∀ x H3,J.yld i H2 x H3→g x σ2 H3 fun σ4 H4=>tt σ4 H4 fun b H5 =>
  if b = true then te σ4 H5 fun y H6=>∃ ys,H6 D = some (.lst ys)∧ys.length < sizeLine∧N σ4 (upd H6 D (.lst (ys ++ [y])))
  else N σ4 H5)
theorem comp_by {J : It} {g : TG} {tt : TT} {te : TE} {Q : Hp→Prop} {σ : St} {H : Hp} {D : Addr} (n : Nat) (Pv : Nat→St→Hp→Prop) (h0 : Pv 0 σ (upd H D (.lst [])))
  (hs : ∀ i σ2 H2,i < n→Pv i σ2 H2→J.go i H2∧∀ x H3,J.yld i H2 x H3→g x σ2 H3 fun σ4 H4=>tt σ4 H4 fun b H5 =>
   if b = true then te σ4 H5 fun y H6=>∃ ys,H6 D = some (.lst ys)∧ys.length < sizeLine∧Pv (i + 1) σ4 (upd H6 D (.lst (ys ++ [y]))) else Pv (i + 1) σ4 H5)
  (hd : ∀ σ2 H2,Pv n σ2 H2→J.stop n H2∧Q H2) :
  ∃ W : Nat→Nat→St→Hp→Prop,(∃ m,W 0 m σ (upd H D (.lst [])))∧∀ i m σ2 H2,W i m σ2 H2 →
   (J.stop i H2∧Q H2)∨(J.go i H2∧∃ N : St→Hp→Prop,(∀ σ' H',N σ' H'→∃ m',m' < m∧W (i + 1) m' σ' H')∧∀ x H3,J.yld i H2 x H3→g x σ2 H3 fun σ4 H4=>tt σ4 H4 fun b H5 =>
    if b = true then te σ4 H5 fun y H6=>∃ ys,H6 D = some (.lst ys)∧ys.length < sizeLine∧N σ4 (upd H6 D (.lst (ys ++ [y]))) else N σ4 H5):=by
 refine ⟨fun i m σ H=>m = n - i∧i ≤ n∧Pv i σ H,⟨n,by simp,Nat.zero_le _,h0⟩,?_⟩
 rintro i m σ2 H2 ⟨rfl,hi,p⟩
 by_cases hlt : i < n
 ·obtain ⟨h1,h2⟩:=hs i σ2 H2 hlt p
  exact .inr ⟨h1,Pv (i + 1),fun σ' H' p'=>⟨n - (i + 1),by omega,rfl,hlt,p'⟩,h2⟩
 ·have e : i = n:=by omega
  subst e
  exact .inl (hd σ2 H2 p)
section
variable {X : Cx} {tg elt iter : Expr} {ifs : List Expr} {sc : Scope} {pos : Pos} {M : List Str} {ρ : List (Option Nat)} {wi : TI} {g : TG} {tt : TT} {te : TE}
theorem comp_block (osc : Scope) (hosc : X.env.scope = osc) (N : List Str) (hN : X.N = N) (S : CompScope osc N sc M ρ) (hc : X.calm = true)
  (hg : ∀ cl C s H fp xe,PG (cxComp X sc cl C M s H fp xe) tg g) (ht : ∀ cl C s H fp xe,PTs (cxComp X sc cl C M s H fp xe) ifs tt) (he : ∀ cl C s H fp xe,PE (cxComp X sc cl C M s H fp xe) elt te)
  {pins : List (Addr × Obj)} {σ : St} {H : Hp} {s : Shared} {itv : Value} {Q : VK} {RR : Value→Addr→Result→Shared→Prop} (I : Inv X pins σ H s)
  (h2 : PIE X pins σ tg (fun J H1=>∀ D,H1 D = none→∃ W : Nat→Nat→St→Hp→Prop,(∃ m,W 0 m (subS ρ σ) (upd H1 D (.lst [])))∧∀ i m σ2 H2,W i m σ2 H2 →
   (J.stop i H2∧Q (.ref D) H2)∨(J.go i H2∧∃ N : St→Hp→Prop,(∀ σ' H',N σ' H'→∃ m',m' < m∧W (i + 1) m' σ' H')∧∀ x H3,J.yld i H2 x H3→g x σ2 H3 fun σ4 H4=>tt σ4 H4 fun b H5 =>
    if b = true then te σ4 H5 fun y H6=>∃ ys,H6 D = some (.lst ys)∧ys.length < sizeLine∧N σ4 (upd H6 D (.lst (ys ++ [y])))
    else N σ4 H5)) itv s)
  (hR : ∀ (D C : Addr) (H' : Hp) (s' : Shared) (mC : Str→Option Value),Inv X pins σ H' s'→s'.heap.Ns C mC→FpOk X pins H' C→Q (.ref D) H'→RR (.ref D) C (.ok .next) s') :
  wpAny (model X.prog X.w) X.A (newList []) (fun acc s3=>wpAny (model X.prog X.w) X.A (newFunctionEnv sc X.env.globals (closL X.env.cells sc.names []) [] X.env.qual none .none (some X.env)) (fun cenv s4 =>
   codeAny (model X.prog X.w) X.A (.compStart (.ListComp elt [⟨tg,iter,ifs,0⟩] sc pos) 0 itv acc { cenv with scope:=relabel sc X.env }) (RR acc cenv.locals) s4) X.xe s3) X.xe s:=by
 subst hosc hN
 obtain ⟨it,fp,tn,J,H2,rfl,I2,T,st2,f2,q2⟩:=h2
 have hcells : ∀ y ∈ sc.names,y.2 = .free→∃ c,X.env.cells.lookup y.1 = some c:=fun y hy hf=>I2.ok.has y.1 (S.fre y hy hf)
 have hclx : ∀ {x c},(closL X.env.cells sc.names []).lookup x = some c→X.env.cells.lookup x = some c:=fun {x c} e=>(closL_lookup _ _ hcells e).elim id fun z=>by simp at z
 generalize hcl : closL X.env.cells sc.names [] = cl at hclx ⊢
 refine wpAny_newObj_type (wpAny_newFunctionEnv S.nocell (by intro y hy; simp at hy) (fun h1 hns hsb=>?_) S.kind)
 dsimp only at hns hsb ⊢
 generalize hG : s.heap.push { cls:=.type "list",dict:=none,data:=.seq ([] : List Value).toArray } = G at hns hsb ⊢
 have hC : G.objs.size = s.heap.objs.size + 1:=by rw [← hG,Heap.size_push]
 have old : ∀ b o,s.heap.get? b = some o→h1.get? b = some o:=fun b o e =>
  hsb.extBut b o (Nat.ne_of_lt (by rw [hC]; exact Nat.lt_succ_of_lt (Heap.lt_size e))) (Heap.get?_push_of_some _ (hG ▸ Heap.get?_push_of_some _ e))
 have hD1 : h1.get? s.heap.objs.size = some { cls:=.type "list",dict:=none,data:=.seq ([] : List Value).toArray } :=
  hsb.extBut _ _ (by rw [hC]; exact Nat.ne_of_lt (Nat.lt_succ_self _)) (Heap.get?_push_of_some _ (hG ▸ Heap.get?_push_size _ rfl))
 have hDn : H2 s.heap.objs.size = none:=I2.hok.fresh (Nat.le_refl _)
 obtain ⟨W,⟨m0,w0⟩,turn⟩:=q2 s.heap.objs.size hDn
 have hCle : s.heap.objs.size ≤ G.objs.size:=by rw [hC]; exact Nat.le_succ _
 have hCD : G.objs.size ≠ s.heap.objs.size:=by rw [hC]; exact Nat.succ_ne_self _
 generalize hxe : notedBy (model X.prog X.w) X.A (compEnvC sc cl G.objs.size X.env) (fun e s'=>RR (.ref s.heap.objs.size) G.objs.size (.error e) s') = xe
 have fpC : ∀ b ∈ fp,b ≠ G.objs.size:=fun b hb=>by
  obtain ⟨o,e,_⟩:=T.obj 0 _ st2 b hb
  have:=Heap.lt_size e
  exact Nat.ne_of_lt (Nat.lt_of_lt_of_le this hCle)
 have fpS : ∀ b ∈ fp,b ∉ frs X.stack:=fun b hb z=>by
  obtain ⟨f0,f1,f3,_⟩:=f2 b hb
  rcases List.mem_cons.mp (I2.stkSub b z) with e | e
  ·exact f1 e
  ·exact f3 e
 have hok : (cxComp X sc cl G.objs.size M s H2 fp xe).Ok:=by
  refine ⟨I2.ok.mod,S.kind,I2.ok.glob,I2.ok.blt,hCle,fun x y c e1 e2=>I2.ok.inj x y c (hclx e1) (hclx e2),fun x hx=>?_,(fun x c e _=>absurd (show false = true from e) Bool.false_ne_true),I2.ok.hd,I2.ok.frames,.inl rfl,fun b hb=>⟨fpC b hb,fun x c e=>(f2 b hb).2.2.2.2.1 x c (hclx e)⟩,
   I2.bs,Nat.le_trans I2.ok.bsz I2.sz,fun b o e hb=>?_,fpS,I2.stack,I2.stkFree⟩
  ·rcases relabel_back (names:=sc.names) (env:=X.env) hx with q | q
   ·rw [← hcl]; exact closL_has _ _ q
   ·exact absurd rfl (S.nocell _ q)
  ·rcases (f2 b hb).2.2.2.1 with z | z
   ·exact I2.ok.noex b o e z
   ·exact absurd (Nat.lt_of_lt_of_le (Heap.lt_size e) (Nat.le_trans I2.ok.bsz z)) (Nat.lt_irrefl _)
 have I4 : Inv (cxComp X sc cl G.objs.size M s H2 fp xe) [] (subS ρ σ) (upd H2 s.heap.objs.size (.lst [])) { s with heap:=h1,toks:=s.toks + ([] : List (Str × Value)).length }:=by
  refine ⟨hok,rfl,I2.bare,Un.laid old (Nat.le_refl _) hDn,⟨_,hns,fun j x v e1 e2 _=>?_⟩,fun x c e=>?_,?_,fun x c e=>?_,fun p hp=>absurd (show p ∈ ([] : List (Addr × Obj)) from hp) (by simp),I2.hok.laid old (Nat.le_refl _) ⟨by show 0 ≤ sizeLine; decide,[],0,.nil,hD1⟩,?_⟩
  ·unfold subS at e2
   rw [List.getElem?_map] at e2
   cases q : ρ[j]? with
   | none=>rw [q] at e2; cases e2
   | some o =>
    rw [q] at e2
    cases o with
    | none=>cases e2
    | some i =>
     have e2' : (σ[i]?).join = some v:=Option.some.inj e2
     have e3 : σ[i]? = some (some v):=by
      cases z : σ[i]? with
      | none=>rw [z] at e2'; cases e2'
      | some y=>rw [z] at e2'; cases y with
       | none=>cases e2'
       | some y=>cases e2'; rfl
     have hz : (ρ.zip M)[j]? = some (some i,x):=List.getElem?_zip_eq_some.mpr ⟨q,e1⟩
     have hr:=S.ren (some i,x) (List.mem_of_getElem? hz)
     obtain ⟨r1,r2⟩:=of_decide_eq_true hr
     obtain ⟨m,hn,hl⟩:=I2.loc
     have hfr:=S.fre _ (PySem.mem_of_lookup r2) rfl
     obtain ⟨u,ru,lk⟩:=hl i x v r1 e3 (hfr.elim (fun z=>.inr (.inl z)) fun z=>.inr (.inr z))
     refine ⟨u,ru,?_⟩
     rcases lk with ⟨k,_⟩ | ⟨_,c,hcc,cell⟩
     ·have k' : X.env.scope.names.lookup x = some .local:=k
      rcases hfr with z | z
      ·rw [k'] at z; cases z
      ·rw [k'] at z; cases z
     ·obtain ⟨c',hc'⟩:=closL_has (cells:=X.env.cells) sc.names [] (PySem.mem_of_lookup r2)
      rw [hcl] at hc'
      have:=hclx hc'
      rw [hcc] at this
      cases this
      obtain ⟨oc,ho,hd⟩:=cell
      exact .inr ⟨relabel_free r2,_,hc',oc,old _ _ ho,hd⟩
  ·obtain ⟨v,oc,ho,hd⟩:=I2.cell x c (hclx e)
   exact ⟨v,oc,old _ _ ho,hd⟩
  ·show upd H2 s.heap.objs.size (.lst []) G.objs.size = none
   rw [upd_ne hCD]
   exact I2.hok.fresh hCle
  ·show upd H2 s.heap.objs.size (.lst []) c = none
   obtain ⟨v,oc,ho,hd⟩:=I2.cell x c (hclx e)
   rw [upd_ne (Nat.ne_of_lt (Heap.lt_size ho))]
   exact I2.freeC x c (hclx e)
  ·show (subS ρ σ).length = M.length
   unfold subS
   rw [List.length_map,S.len]
 have st4 : tn 0 h1:=T.keep 0 _ _ st2 fun b _ o e=>old b o e
 have fr4 : ∀ b ∈ fp,upd H2 s.heap.objs.size (.lst []) b = none:=fun b hb=>by
  obtain ⟨o,e,_⟩:=T.obj 0 _ st2 b hb
  rw [upd_ne (Nat.ne_of_lt (Heap.lt_size e))]
  exact (f2 b hb).1
 have stat : ∀ {H' : Hp},(∀ b ∈ fp,H' b = none)→∀ b ∈ fp,FpOk (cxComp X sc cl G.objs.size M s H2 fp xe) [] H' b:=fun hn b hb =>
  ⟨hn b hb,fpC b hb,fpS b hb,.inl hb,fun x c e=>(f2 b hb).2.2.2.2.1 x c (hclx e),fun p hp=>absurd (show p ∈ ([] : List (Addr × Obj)) from hp) (by simp)⟩
 have loop : codeAny (model X.prog X.w) X.A (.compLoop (.ListComp elt [⟨tg,iter,ifs,0⟩] sc pos) 0 (.ref it) (.ref s.heap.objs.size) (compEnvC sc cl G.objs.size X.env)) (RR (.ref s.heap.objs.size) G.objs.size)
   { s with heap:=h1,toks:=s.toks + ([] : List (Str × Value)).length }:=by
  refine comp_loop (fun n s'=>∃ i σ' H',Inv (cxComp X sc cl G.objs.size M s H2 fp xe) [] σ' H' s'∧tn i s'.heap∧(∀ b ∈ fp,H' b = none)∧W i n σ' H') ?_ m0 ⟨0,_,_,I4,st4,fr4,w0⟩
  rw [hxe]
  rintro n s3 ⟨i,σ3,H3,I3,st3,fr3,w3⟩
  rcases turn i n σ3 H3 w3 with ⟨stop,qn⟩ | ⟨go,N,hN,step⟩
  ·refine thn (T.done (cxComp X sc cl G.objs.size M s H2 fp xe) rfl rfl rfl hc i [] s3 σ3 H3 xe I3 (stat fr3) st3 stop) fun r s4 ⟨hr,I5⟩=>?_
   subst hr
   obtain ⟨mC,nC,_⟩:=I5.loc
   have I6 : Inv X pins σ H3 s4:=I2.call' I5.os I5.base I5.hok I5.bare fun b hb=>⟨(f2 b hb).2.2.2.1,(f2 b hb).2.1,(f2 b hb).2.2.2.2.1,(f2 b hb).2.2.2.2.2⟩
   exact hR _ _ H3 s4 mC I6 nC (I2.fpOk hCle I5.free) qn
  ·refine thn (T.item (cxComp X sc cl G.objs.size M s H2 fp xe) rfl rfl rfl hc i [] s3 σ3 H3 xe I3 (stat fr3) st3 go) fun r s4 ⟨u,hr,h4⟩=>?_
   subst hr
   refine thn h4 fun _ s5 ⟨x,H5,I5,r5,y5,st5,fr5⟩=>?_
   have I5':=I5.pinned (stat fr5) (T.obj _ _ st5)
   refine thn (hg cl G.objs.size s H2 fp xe _ s5 σ3 H5 x u _ I5' r5 (step x H5 y5)) fun _ s6 ⟨σ6,H6,I6,q6⟩=>?_
   have fin : ∀ {s7 : Shared} {σ7 : St} {H7 : Hp},Inv (cxComp X sc cl G.objs.size M s H2 fp xe) ([] ++ pinsAt fp s5.heap) σ7 H7 s7→(∃ m',m' < n∧W (i + 1) m' σ7 H7) →
     ∃ m,m < n∧∃ i σ' H',Inv (cxComp X sc cl G.objs.size M s H2 fp xe) [] σ' H' s7∧tn i s7.heap∧(∀ b ∈ fp,H' b = none)∧W i m σ' H':=fun {s7 σ7 H7} I7 ⟨m',hm,w7⟩=>by
    refine ⟨m',hm,i + 1,σ7,H7,I7.unpinned,T.keep _ _ _ st5 fun b hb o e=>(I7.pin (b,o) (List.mem_append_right _ (List.mem_append_right _ (mem_pinsAt hb e)))).1,fun b hb=>?_,w7⟩
    obtain ⟨o,e,d⟩:=T.obj _ _ st5 b hb
    exact (I7.pin (b,o) (List.mem_append_right _ (List.mem_append_right _ (mem_pinsAt hb e)))).2.1
   refine thn (ht cl G.objs.size s H2 fp xe _ s6 σ6 H6 _ I6 q6) fun ok s7 ⟨H7,I7,q7⟩=>?_
   cases ok with
   | false =>
    rw [if_neg Bool.false_ne_true] at q7 ⊢
    exact fin I7 (hN _ _ q7)
   | true =>
    rw [if_pos rfl] at q7 ⊢
    refine thn (he cl G.objs.size s H2 fp xe _ s7 σ6 H7 _ I7 q7) fun y s8 ⟨yv,H8,I8,r8,ys,hys,hlt,q8⟩=>?_
    obtain ⟨z,its,k,rv,hl,e⟩:=I8.lstM hys
    refine call_meets F.slot_list_append ⟨_,e,rfl⟩ F.entry_list_append (F.args_list_append_2 _ _) (PySem.list_append _ its.toArray k y (by rw [List.size_toArray]; omega)) ⟨e,?_⟩
    exact fin (I8.lset (its':=its ++ [y]) hys e (by simp) (rv.append (.cons r8 .nil)) (by rw [List.length_append,List.length_singleton]; omega)) (hN _ _ q8)
 exact codeAny_compStart_list loop (T.self X.A 0 _ _ _ st4 loop)
theorem pe_comp (osc : Scope) (N : List Str) (S : CompScope osc N sc M ρ) (hi : PI X tg iter wi) (hg : ∀ cl C s H fp xe,PG (cxComp X sc cl C M s H fp xe) tg g) (ht : ∀ cl C s H fp xe,PTs (cxComp X sc cl C M s H fp xe) ifs tt)
  (he : ∀ cl C s H fp xe,PE (cxComp X sc cl C M s H fp xe) elt te) (hosc : X.env.scope = osc:=by rfl) (hN : X.N = N:=by rfl) (hc : X.calm = true:=by rfl) (hs : ∀ x,foldedSetIterable iter X.env x = pure x:=by intro _; rfl) :
  PE X (.ListComp elt [⟨tg,iter,ifs,0⟩] sc pos) (tComp wi ρ g tt te):=by
 intro pins s σ H Q I h
 have hcells : ∀ y ∈ sc.names,y.2 = .free→∃ c,X.env.cells.lookup y.1 = some c:=fun y hy hf=>I.ok.has y.1 (by show X.env.scope.names.lookup y.1 = _∨X.env.scope.names.lookup y.1 = _; rw [hosc]; exact S.fre y hy hf)
 rw [eval_ListComp]
 refine wpAny_comprehension_free (M:=model X.prog X.w) (A:=X.A) (E:=X.xe) (e:=.ListComp elt [⟨tg,iter,ifs,0⟩] sc pos) rfl hs (closure_pure hcells) S.kind S.own (thn (hi pins s σ H _ I h) fun v s1 h1=>thn h1 fun itv s2 h2=>?_)
 obtain ⟨_,_,_,_,_,_,I2,_⟩:=id h2
 refine comp_block (RR:=fun acc C=>compPost (model X.prog X.w) X.A X.xe none (EP X pins σ Q) acc C) osc hosc N hN S hc hg ht he I2 h2 fun D C H' s' mC I' nC fC q=>?_
 refine ⟨mC,nC,fun h' sb=>?_⟩
 obtain ⟨f0,f1,_,f3,f4,f5⟩:=fC
 exact ⟨.ref D,H',I'.turned (t':=s'.toks) (fun b o hb e=>(sb.2 b hb).trans e) f0 f1 f3 f4 f5,rfl,q⟩
theorem ps_setC {j : Nat} {x : Str} {px spos : Pos} (osc : Scope) (N : List Str) (S : CompScope osc N sc M ρ) (hNd : X.N.Nodup) (hj : X.N[j]? = some x) (hx : Loc X.env.scope x) (hi : PI X tg iter wi) (hg : ∀ cl C s H fp xe,PG (cxComp X sc cl C M s H fp xe) tg g)
  (ht : ∀ cl C s H fp xe,PTs (cxComp X sc cl C M s H fp xe) ifs tt) (he : ∀ cl C s H fp xe,PE (cxComp X sc cl C M s H fp xe) elt te)
  (hsw : swapsWith (.ListComp elt [⟨tg,iter,ifs,0⟩] sc pos) (some (.Name x px)) spos.line X.env = pure true:=by rfl) (hosc : X.env.scope = osc:=by rfl) (hN : X.N = N:=by rfl) (hc : X.calm = true:=by rfl) (hs : ∀ x,foldedSetIterable iter X.env x = pure x:=by intro _; rfl)
  (hf : X.fn x = true∨X.env.scope.names.lookup x = some .local:=by first | exact .inl rfl | exact .inr rfl | assumption) :
  PS X (.Assign [.Name x px] (.ListComp elt [⟨tg,iter,ifs,0⟩] sc pos) spos) (tAsg (tComp wi ρ g tt te) (gName j)):=by
 intro pins s σ H D I h
 have hcells : ∀ y ∈ sc.names,y.2 = .free→∃ c,X.env.cells.lookup y.1 = some c:=fun y hy hf=>I.ok.has y.1 (by show X.env.scope.names.lookup y.1 = _∨X.env.scope.names.lookup y.1 = _; rw [hosc]; exact S.fre y hy hf)
 rw [exec_Assign_Name_used _ _ _ _ hsw]
 refine wpAny_bind (wpAny_standAt (wpAny_bind ?_))
 show wpAny (model X.prog X.w) X.A (do let _ ← comprehension (.ListComp elt [⟨tg,iter,ifs,0⟩] sc pos) sc X.env (firstIterPos [⟨tg,iter,ifs,0⟩] pos) (newList []) false (eval iter X.env) (some (assign (.Name x px) X.env))) _ X.xe s
 refine wpAny_bind (thn (Q:=fun _ s'=>SP X pins D .next s') (wpAny_comprehension_free (M:=model X.prog X.w) (A:=X.A) (E:=X.xe) (e:=.ListComp elt [⟨tg,iter,ifs,0⟩] sc pos) (use:=some (assign (.Name x px) X.env)) rfl hs (closure_pure hcells) S.kind S.own
  (thn (hi pins s σ H _ I h) fun v s1 h1=>thn h1 fun itv s2 h2=>?_)) fun _ s' hq=>wpAny_pure (wpAny_pure hq))
 obtain ⟨_,_,_,_,_,_,I2,_⟩:=id h2
 refine comp_block (Q:=fun v H'=>gName j v σ H' D.nx) (RR:=fun acc C=>compPost (model X.prog X.w) X.A X.xe (some (assign (.Name x px) X.env)) (fun _ s'=>SP X pins D .next s') acc C) osc hosc N hN S hc hg ht he I2 h2 fun D' C H' s' mC I' nC fC q=>?_
 show wpAny _ _ (assign (.Name x px) X.env (.ref D')) _ _ s'
 refine wpAny_assign_Name (store_ok2 I' hNd hj hx (v:=.ref D') rfl (fun s3 I3 ⟨a,sb,ha⟩=>?_) hf)
 have hCa : C ≠ a:=by
  rcases ha with e | e
  ·rw [e]; exact fC.2.1
  ·exact fun z=>fC.2.2.2.2.1 x a e z.symm
 refine ⟨mC,nC.sameBut sb hCa,fun h' sb2=>?_⟩
 obtain ⟨f0,f1,_,f3,f4,f5⟩:=fC
 exact ⟨_,H',I3.turned (t':=s3.toks) (fun b o hb e=>(sb2.2 b hb).trans e) f0 f1 f3 f4 f5,q⟩
end
end L2
set_option Elab.async false
set_option linter.all false
set_option maxRecDepth 100000
set_option maxHeartbeats 16000000
namespace L2
open PySem PySem.Spec PyProof.Rows
section
variable {X : Cx} {tg : Expr}
theorem pg_tupK {K : PySem.W.Frag} {pos : Pos} {es : List Expr} {k : Nat} {t : TGs} {n : Nat} (hK : X.K = K) (hc : X.calm = true) (h : PGs X es t) (hn : (assignEach es X.env).length = n:=by rfl) (hst : (assignEach es X.env).findIdx? (·.1) = none:=by rfl) : PG X (.Tuple es k pos) (gTup K n t):=hK ▸ pg_tup hc h hn hst
end
end L2
set_option Elab.async false
set_option linter.all false
set_option maxRecDepth 100000
set_option maxHeartbeats 16000000
namespace L2
open PySem PySem.Spec PyProof.Rows
def PairAt (H : Hp) (v : V) (d : Str × Str) : Prop:=∃ p,v = .ref p∧H p = some (.tup [.str d.1,.str d.2])∧NameOk d.1∧NameOk d.2
abbrev Pairs (H : Hp) : List V→List (Str × Str)→Prop:=Paired (PairAt H)
theorem PairAt.mono {H H' : Hp} (s : Tups H H') {v : V} {t : Str × Str} (h : PairAt H v t) : PairAt H' v t:=by
 obtain ⟨p,e,h,o⟩:=h
 exact ⟨p,e,s p _ h,o⟩
theorem Pairs.mono {H H' : Hp} (s : Tups H H') {vs : List V} {ts : List (Str × Str)} (h : Pairs H vs ts) : Pairs H' vs ts:=Paired.mapP h fun _ _ q=>q.mono s
structure PairsAt (H : Hp) (t : Addr) (ps : List (Str × Str)) : Prop where
 ex : ∃ vs,H t = some (.tup vs)∧Pairs H vs ps
 hi : ps.length ≤ 6
theorem PairsAt.mono {H H' : Hp} (s : Tups H H') {t : Addr} {ts : List (Str × Str)} (h : PairsAt H t ts) : PairsAt H' t ts:=by
 obtain ⟨⟨vs,h1,h2⟩,hi⟩:=h
 exact ⟨⟨vs,s t _ h1,h2.mono s⟩,hi⟩
def optV : Option Str→V
 | none=>.non
 | some x=>.str x
structure SumOk (ts : List (Int × Th)) : Prop where
 lo : 1 ≤ ts.length
 hi : ts.length ≤ 6
 th : ∀ p ∈ ts,ThOk p.2
 sg : ∀ p ∈ ts,p.1 = 1∨p.1 = -1
 hd : ∀ p,ts.head? = some p→p.1 = 1
inductive Rw where
 | bring (p : Str) (ps : List (Str × Str))
 | give (o g : Str)
 | set (o : Str) (ts : List (Int × Th))
 | take (o : Str)
 | say (ts : List (Int × Th)) (w : Option Str)
 | need (ts : List (Int × Th))
 | ask (p : Str) (w : Option Str)
 | part (p : Str)
 | doo (p : Str)
def RowAt (H : Hp) (r : Addr) : Rw→Prop
 | .bring p ps=>∃ t,H r = some (.tup [.str "bring",.str p,.ref t])∧PairsAt H t ps
 | .give o g=>H r = some (.tup [.str "give",.str o,.str g])
 | .set o ts=>∃ t,H r = some (.tup [.str "set",.str o,.ref t])∧TermsAt H t ts
 | .take o=>H r = some (.tup [.str "take",.str o])
 | .say ts w=>∃ t,H r = some (.tup [.str "say",.ref t,optV w])∧TermsAt H t ts
 | .need ts=>∃ t,H r = some (.tup [.str "need",.ref t])∧TermsAt H t ts
 | .ask p w=>H r = some (.tup [.str "ask",.str p,optV w])
 | .part p=>H r = some (.tup [.str "part",.str p])
 | .doo p=>H r = some (.tup [.str "do",.str p])
theorem RowAt.mono {H H' : Hp} (s : Tups H H') {r : Addr} {rw : Rw} (h : RowAt H r rw) : RowAt H' r rw:=by
 cases rw with
 | bring p ps=>obtain ⟨t,h1,h2⟩:=h; exact ⟨t,s _ _ h1,h2.mono s⟩
 | give o g=>exact s _ _ h
 | set o ts=>obtain ⟨t,h1,h2⟩:=h; exact ⟨t,s _ _ h1,h2.mono s⟩
 | take o=>exact s _ _ h
 | say ts w=>obtain ⟨t,h1,h2⟩:=h; exact ⟨t,s _ _ h1,h2.mono s⟩
 | need ts=>obtain ⟨t,h1,h2⟩:=h; exact ⟨t,s _ _ h1,h2.mono s⟩
 | ask p w=>exact s _ _ h
 | part p=>exact s _ _ h
 | doo p=>exact s _ _ h
end L2
set_option Elab.async false
set_option linter.all false
set_option maxRecDepth 100000
set_option maxHeartbeats 16000000
namespace L2
open PySem PySem.Spec PyProof.Rows
section
variable {X : Cx} {elts : List Expr} {k : Nat} {tpos : Pos}
end
end L2
set_option Elab.async false
set_option linter.all false
set_option maxRecDepth 100000
set_option maxHeartbeats 16000000
namespace L2
open PySem PySem.Spec PyProof.Rows
theorem cps_app (a b : Str) : (a ++ b).cps.toList = a.cps.toList ++ b.cps.toList:=by
 show (a.cps ++ b.cps).toList = _
 simp
abbrev Pt:=Str × List Rw
def RowV (H : Hp) (v : V) (rw : Rw) : Prop:=∃ r,v = .ref r∧RowAt H r rw
abbrev RowsAt (H : Hp) : List V→List Rw→Prop:=Paired (RowV H)
theorem RowsAt.mono {H H' : Hp} (s : Tups H H') {vs : List V} {rs : List Rw} (h : RowsAt H vs rs) : RowsAt H' vs rs:=Paired.mapP h fun _ _ ⟨r,e,q⟩=>⟨r,e,q.mono s⟩
def PartAt (H : Hp) (v : V) (p : Pt) : Prop:=∃ t u vs,v = .ref t∧H t = some (.tup [.str p.1,.ref u])∧H u = some (.tup vs)∧RowsAt H vs p.2
theorem PartAt.mono {H H' : Hp} (s : Tups H H') {v : V} {p : Pt} (h : PartAt H v p) : PartAt H' v p:=by
 obtain ⟨t,u,vs,e,h1,h2,h3⟩:=h
 exact ⟨t,u,vs,e,s _ _ h1,s _ _ h2,h3.mono s⟩
end L2
set_option Elab.async false
set_option linter.all false
set_option maxRecDepth 100000
set_option maxHeartbeats 16000000
namespace L2
open PySem PySem.Spec PyProof.Rows
section
variable {κ : Type} [DecidableEq κ]
def valV (kvs : List (κ × V)) (k : κ) : Option V:=(kvs.find? fun kv=>decide (kv.1 = k)).map (·.2)
def putK (kvs : List (κ × V)) (k : κ) (v : V) : List (κ × V) :=
 if (kvs.any fun kv=>decide (kv.1 = k)) = true then kvs.map (fun kv=>if kv.1 = k then (kv.1,v) else kv) else kvs ++ [(k,v)]
theorem valV_nil {k : κ} : valV ([] : List (κ × V)) k = none:=rfl
theorem valV_pos {p : κ × V} {r : List (κ × V)} {k : κ} (e : p.1 = k) : valV (p :: r) k = some p.2:=by simp [valV,List.find?_cons,e]
theorem valV_neg {p : κ × V} {r : List (κ × V)} {k : κ} (e : ¬ p.1 = k) : valV (p :: r) k = valV r k:=by simp [valV,List.find?_cons,e]
theorem valV_any (k : κ) : ∀ kvs : List (κ × V),(kvs.any fun kv=>decide (kv.1 = k)) = (valV kvs k).isSome
 | []=>rfl
 | p :: r=>by
  rw [List.any_cons]
  by_cases e : p.1 = k
  ·simp only [valV_pos e,decide_eq_true e,Bool.true_or,Option.isSome_some]
  ·rw [valV_neg e,decide_eq_false e,Bool.false_or]; exact valV_any k r
theorem valV_map (k j : κ) (y : V) : ∀ kvs : List (κ × V),valV (kvs.map fun kv=>if kv.1 = k then (kv.1,y) else kv) j = (valV kvs j).map fun x=>if j = k then y else x
 | []=>rfl
 | p :: r=>by
  have ih:=valV_map k j y r
  rw [List.map_cons]
  by_cases h : p.1 = k
  ·rw [if_pos h]
   by_cases e : p.1 = j
   ·rw [valV_pos (p:=(p.1,y)) e,valV_pos e,Option.map_some,if_pos (e.symm.trans h)]
   ·rw [valV_neg (p:=(p.1,y)) e,valV_neg e,ih]
  ·rw [if_neg h]
   by_cases e : p.1 = j
   ·rw [valV_pos (p:=p) e,valV_pos e,Option.map_some,if_neg (fun z=>h (e.trans z))]
   ·rw [valV_neg (p:=p) e,valV_neg e,ih]
theorem valV_snoc (k j : κ) (y : V) : ∀ kvs : List (κ × V),valV kvs k = none→valV (kvs ++ [(k,y)]) j = if j = k then some y else valV kvs j
 | [],_=>by
  by_cases e : k = j
  ·rw [if_pos e.symm]; exact valV_pos (p:=(k,y)) e
  ·rw [if_neg (fun z=>e z.symm)]; exact valV_neg (p:=(k,y)) e
 | p :: r,hn=>by
  rw [List.cons_append]
  have hk : ¬ p.1 = k:=fun z=>by rw [valV_pos z] at hn; cases hn
  rw [valV_neg hk] at hn
  have ih:=valV_snoc k j y r hn
  by_cases e : p.1 = j
  ·rw [valV_pos e,valV_pos e,if_neg (fun z=>hk (e.trans z))]
  ·rw [valV_neg e,valV_neg e,ih]
theorem valV_put (kvs : List (κ × V)) (k j : κ) (y : V) : valV (putK kvs k y) j = if j = k then some y else valV kvs j:=by
 unfold putK
 by_cases a : (kvs.any fun kv=>decide (kv.1 = k)) = true
 ·rw [if_pos a,valV_map]
  rw [valV_any] at a
  by_cases e : j = k
  ·obtain ⟨x,hx⟩:=Option.isSome_iff_exists.mp a
   rw [if_pos e,e,hx,Option.map_some,if_pos rfl]
  ·rw [if_neg e]
   cases valV kvs j with
   | none=>rfl
   | some x=>rw [Option.map_some,if_neg e]
 ·rw [if_neg a]
  refine valV_snoc k j y kvs ?_
  rw [valV_any] at a
  cases q : valV kvs k with
  | none=>rfl
  | some x=>rw [q] at a; exact (a rfl).elim
theorem length_putK (kvs : List (κ × V)) (k : κ) (v : V) : (putK kvs k v).length ≤ kvs.length + 1:=by
 unfold putK
 split
 ·rw [List.length_map]; omega
 ·rw [List.length_append,List.length_cons,List.length_nil]; omega
theorem RelO.isSome_eq {o : Option V} {u : Option Value} (r : RelO o u) : o.isSome = u.isSome:=by
 cases o with
 | none=>cases u with
  | none=>rfl
  | some _=>exact (show False from r).elim
 | some _=>cases u with
  | none=>exact (show False from r).elim
  | some _=>rfl
theorem KV.val {kvs : List (κ × V)} {vs : List (κ × Value)} (r : KV kvs vs) (k : κ) : RelO (valV kvs k) (valueAt vs k):=by
 unfold KV at r
 induction r with
 | nil=>exact True.intro
 | @cons p q ps qs h t ih =>
  obtain ⟨h1,h2⟩:=h
  by_cases e : p.1 = k
  ·have e' : q.1 = k:=h1.symm.trans e
   have b : valueAt (q :: qs) k = some q.2:=by simp [valueAt,List.find?_cons,e']
   rw [valV_pos e,b]; exact h2
  ·have e' : ¬ q.1 = k:=fun z=>e (h1.trans z)
   have b : valueAt (q :: qs) k = valueAt qs k:=by simp [valueAt,List.find?_cons,e']
   rw [valV_neg e,b]; exact ih
theorem KV.any {kvs : List (κ × V)} {vs : List (κ × Value)} (r : KV kvs vs) (k : κ) : (kvs.any fun kv=>decide (kv.1 = k)) = vs.any fun kv=>decide (kv.1 = k):=by
 unfold KV at r
 induction r with
 | nil=>rfl
 | cons h t ih=>rw [List.any_cons,List.any_cons,ih,h.1]
theorem KV.repl {kvs : List (κ × V)} {vs : List (κ × Value)} (r : KV kvs vs) (k : κ) {y : V} {u : Value} (ry : RelV y u) :
  KV (kvs.map fun kv=>if kv.1 = k then (kv.1,y) else kv) (vs.map fun kv=>if kv.1 = k then (kv.1,u) else kv):=by
 unfold KV at r ⊢
 induction r with
 | nil=>exact .nil
 | @cons p q ps qs h t ih =>
  rw [List.map_cons,List.map_cons]
  refine .cons ?_ ih
  obtain ⟨h1,h2⟩:=h
  by_cases e : p.1 = k
  ·rw [if_pos e,if_pos (h1.symm.trans e)]; exact ⟨h1,ry⟩
  ·rw [if_neg e,if_neg (fun z=>e (h1.trans z))]; exact ⟨h1,h2⟩
theorem KV.put {kvs : List (κ × V)} {vs : List (κ × Value)} (r : KV kvs vs) (k : κ) {y : V} {u : Value} (ry : RelV y u) : KV (putK kvs k y) (stored vs k u):=by
 unfold putK stored
 rw [r.any k]
 by_cases e : (vs.any fun kv=>decide (kv.1 = k)) = true
 ·rw [if_pos e,if_pos e]; exact r.repl k ry
 ·rw [if_neg e,if_neg e]; exact Paired.snoc r ⟨rfl,ry⟩
theorem KV.length {kvs : List (κ × V)} {vs : List (κ × Value)} (r : KV kvs vs) : kvs.length = vs.length:=Paired.length r
end
theorem kV_is {P : Program} {w : World} {k : Key} {u : Value} (r : RelV (kV k) u) : (mixKind P w).is k u = true:=by
 cases k with
 | inl i=>obtain ⟨t,e⟩:=(show ∃ t,u = Value.int i t from r); subst e; exact mixKind_int P w i t
 | inr x=>obtain ⟨t,e⟩:=(show ∃ t,u = Value.str x t from r); subst e; exact mixKind_str P w x t
theorem items_are {P : Program} {w : World} : ∀ {ks : List Key} {us : List Value},Vals (ks.map kV) us→ItemsAre (mixKind P w) ks us
 | [],_,r=>by rw [List.map_nil] at r; cases r; exact .nil
 | k :: ks,_,r=>by
  rw [List.map_cons] at r
  cases r with
  | cons h t=>exact .cons (kV_is h) (items_are t)
abbrev KT (H : Hp) : List (List Key × V)→List (List Key × Addr × Value)→Prop:=Paired fun p q=>p.1 = q.1∧H q.2.1 = some (.tup (p.1.map kV))∧RelV p.2 q.2.2
theorem KT.val {H : Hp} {kvs : List (List Key × V)} {xs : List (List Key × Addr × Value)} (r : KT H kvs xs) (k : List Key) : RelO (valV kvs k) ((atKey xs k).map (·.2)):=by
 induction r with
 | nil=>exact True.intro
 | @cons p q ps qs h t ih =>
  obtain ⟨h1,_,h2⟩:=h
  by_cases e : p.1 = k
  ·have e' : q.1 = k:=h1.symm.trans e
   have b : atKey (q :: qs) k = some q.2:=by simp [atKey,List.find?_cons,e']
   rw [valV_pos e,b]; exact h2
  ·have e' : ¬ q.1 = k:=fun z=>e (h1.trans z)
   have b : atKey (q :: qs) k = atKey qs k:=by simp [atKey,List.find?_cons,e']
   rw [valV_neg e,b]; exact ih
theorem KT.repl {H : Hp} {kvs : List (List Key × V)} {xs : List (List Key × Addr × Value)} (r : KT H kvs xs) (k : List Key) {y : V} {u : Value} (ry : RelV y u) :
  KT H (kvs.map fun kv=>if kv.1 = k then (kv.1,y) else kv) (xs.map (putAt k u)):=by
 induction r with
 | nil=>exact .nil
 | @cons p q ps qs h t ih =>
  rw [List.map_cons,List.map_cons]
  refine .cons ?_ ih
  obtain ⟨h1,h2,h3⟩:=h
  unfold putAt
  by_cases e : p.1 = k
  ·rw [if_pos e,if_pos (h1.symm.trans e)]; exact ⟨h1,h2,ry⟩
  ·rw [if_neg e,if_neg (fun z=>e (h1.trans z))]; exact ⟨h1,h2,h3⟩
theorem KT.put {H : Hp} {kvs : List (List Key × V)} {xs : List (List Key × Addr × Value)} (r : KT H kvs xs) (k : List Key) {b : Addr} {y : V} {u : Value} (hb : H b = some (.tup (k.map kV))) (ry : RelV y u) :
  KT H (putK kvs k y) (storedH xs k b u):=by
 have e : (kvs.any fun kv=>decide (kv.1 = k)) = (atKey xs k).isSome:=by
  rw [valV_any,(r.val k).isSome_eq,Option.isSome_map]
 unfold putK storedH
 rw [e]
 by_cases q : (atKey xs k).isSome = true
 ·rw [if_pos q,if_pos q]; exact r.repl k ry
 ·rw [if_neg q,if_neg q]; exact Paired.snoc r ⟨rfl,hb,ry⟩
theorem KT.keeps {H H' : Hp} {kvs : List (List Key × V)} {xs : List (List Key × Addr × Value)} (r : KT H kvs xs) (ht : ∀ b ys,H b = some (.tup ys)→H' b = some (.tup ys)) : KT H' kvs xs :=
 Paired.mapP r fun _ _ z=>⟨z.1,ht _ _ z.2.1,z.2.2⟩
section
variable {P : Program} {w : World} {H : Hp} {h : Heap} {a : Addr}
theorem rd_of {u : HO} (ok : HOk P w H h) (e : Rd H a u) : ObjOk P w H h a u:=e.ok ok
theorem dk_rd {kvs : List (Key × V)} (ok : HOk P w H h) (e : Rd H a (.dK kvs)) : kvs.length ≤ sizeLine∧(a == sysModules) = false∧∃ vs,KV kvs vs∧h.DictOf (mixKind P w) a vs :=
 show ObjOk P w H h a (.dK kvs) from rd_of ok e
theorem dk_of {kvs : List (Key × V)} (ok : HOk P w H h) (e : H a = some (.dK kvs)) : kvs.length ≤ sizeLine∧(a == sysModules) = false∧∃ vs,KV kvs vs∧h.DictOf (mixKind P w) a vs:=dk_rd ok (.inl e)
theorem key_of {ks : List Key} (ok : HOk P w H h) (e : H a = some (.tup (ks.map kV))) : (tupleKind (mixKind P w)).is h ks a:=by
 obtain ⟨_,its,r,o,h1,h2,n,h3⟩:=(show ObjOk P w H h a (.tup (ks.map kV)) from ok a _ e)
 exact ⟨o,its.toArray,n,h1,h2,h3,by simpa using items_are r⟩
theorem dt_rd {kvs : List (List Key × V)} (ok : HOk P w H h) (e : Rd H a (.dT kvs)) : kvs.length ≤ sizeLine∧(a == sysModules) = false ∧
  ∃ xs,KT H kvs xs∧h.DictOfH (tupleKind (mixKind P w)) a xs:=by
 obtain ⟨z,y,xs,r,o,es,ep,h1,h2,h3,h4,h5⟩:=(show ObjOk P w H h a (.dT kvs) from rd_of ok e)
 refine ⟨z,y,xs,r,o,es,ep,h1,h2,h3,h4,fun x hx=>?_,h5⟩
 have all : ∀ {l : List (List Key × V)} {m : List (List Key × Addr × Value)},KT H l m→∀ x ∈ m,(tupleKind (mixKind P w)).is h x.1 x.2.1:=by
  intro l m q
  induction q with
  | nil=>intro x hx; exact nomatch hx
  | @cons p q ps qs hq t ih =>
   intro x hx
   rcases List.mem_cons.mp hx with e | hx
   ·subst e
    exact key_of ok (by rw [← hq.1]; exact hq.2.1)
   ·exact ih x hx
 exact all r x hx
theorem dt_of {kvs : List (List Key × V)} (ok : HOk P w H h) (e : H a = some (.dT kvs)) : kvs.length ≤ sizeLine∧(a == sysModules) = false ∧
  ∃ xs,KT H kvs xs∧h.DictOfH (tupleKind (mixKind P w)) a xs:=dt_rd ok (.inl e)
end
def DGet (H : Hp) (a : Addr) (y : V) (r : Option V) : Prop :=
 (∃ kvs k,Rd H a (.dK kvs)∧y = kV k∧r = valV kvs k)∨∃ kvs k b,Rd H a (.dT kvs)∧y = .ref b∧H b = some (.tup (k.map kV))∧r = valV kvs k
def DPut (H : Hp) (a : Addr) (y v : V) (H' : Hp) : Prop :=
 (∃ kvs k,H a = some (.dK kvs)∧y = kV k∧kvs.length < sizeLine∧H' = upd H a (.dK (putK kvs k v))) ∨
 ∃ kvs k b,H a = some (.dT kvs)∧y = .ref b∧H b = some (.tup (k.map kV))∧kvs.length < sizeLine∧H' = upd H a (.dT (putK kvs k v))
theorem DGet.k {H : Hp} {a : Addr} {kvs : List (Key × V)} {k : Key} (e : H a = some (.dK kvs)) : DGet H a (kV k) (valV kvs k):=.inl ⟨kvs,k,.inl e,rfl,rfl⟩
theorem DGet.t {H : Hp} {a b : Addr} {kvs : List (List Key × V)} {k : List Key} (e : H a = some (.dT kvs)) (eb : H b = some (.tup (k.map kV))) : DGet H a (.ref b) (valV kvs k):=.inr ⟨kvs,k,b,.inl e,rfl,eb,rfl⟩
theorem DPut.k {H : Hp} {a : Addr} {kvs : List (Key × V)} {k : Key} {v : V} (e : H a = some (.dK kvs)) (hl : kvs.length < sizeLine) : DPut H a (kV k) v (upd H a (.dK (putK kvs k v))):=.inl ⟨kvs,k,e,rfl,hl,rfl⟩
theorem DPut.t {H : Hp} {a b : Addr} {kvs : List (List Key × V)} {k : List Key} {v : V} (e : H a = some (.dT kvs)) (eb : H b = some (.tup (k.map kV))) (hl : kvs.length < sizeLine) :
  DPut H a (.ref b) v (upd H a (.dT (putK kvs k v))):=.inr ⟨kvs,k,b,e,rfl,eb,hl,rfl⟩
section
variable {X : Cx} {pins : List (Addr × Obj)} {σ : St} {H : Hp} {s : Shared} {a : Addr} {y v : V} {u r : Value} {o : Option V} {A : Around} {E : Value→Shared→Prop}
theorem Inv.big (I : Inv X pins σ H s) : sysModules < s.heap.objs.size:=by
 have h : mainGlobals < s.heap.objs.size:=(I.mod.glob.keeps I.bk).lt
 exact Nat.lt_trans (by decide) h
theorem d_getItem {Q : Value→Shared→Prop} (hu : A.units + 1 < cLine) (I : Inv X pins σ H s) (g : DGet H a y (some v)) (ry : RelV y u) (h : ∀ w' s',Inv X pins σ H s'→RelV v w'→Q w' s') :
  wpAny (model X.prog X.w) A (getItem (.ref a) u) Q E s:=by
 rcases g with ⟨kvs,k,e,ey,l⟩ | ⟨kvs,k,b,e,ey,eb,l⟩
 ·subst ey
  obtain ⟨z,hd,vs,rel,dd⟩:=dk_rd I.hok e
  obtain ⟨w',hw,rw'⟩:=RelO.some_of (v:=v) (o:=valueAt vs k) (by rw [l]; exact rel.val k)
  exact wpAny_getItem_of (kV_is ry) dd.mapOf hw (h w' _ (I.tok _) rw')
 ·subst ey
  cases (show u = Value.ref b from ry)
  obtain ⟨z,hd,xs,rel,dd⟩:=dt_rd I.hok e
  obtain ⟨w',hw,rw'⟩:=RelO.some_of (v:=v) (o:=(atKey xs k).map (·.2)) (by rw [l]; exact rel.val k)
  obtain ⟨p,hp,hp2⟩:=Option.map_eq_some_iff.mp hw
  refine wpAny_getItem_heap (tupleKind_room_in1 hu) (key_of I.hok eb) dd hp ?_
  rw [hp2]
  exact h w' _ (I.tok _) rw'
theorem d_in {Q : Value→Shared→Prop} (hu : A.units + 1 < cLine) (I : Inv X pins σ H s) (g : DGet H a y o) (ry : RelV y u) (h : ∀ s',Inv X pins σ H s'→Q (.bool o.isSome) s') :
  wpAny (model X.prog X.w) A (compareOp .In u (.ref a)) Q E s:=by
 rcases g with ⟨kvs,k,e,ey,l⟩ | ⟨kvs,k,b,e,ey,eb,l⟩
 ·subst ey
  obtain ⟨z,hd,vs,rel,dd⟩:=dk_rd I.hok e
  refine wpAny_in_of (kV_is ry) hd dd.mapOf ?_
  rw [← (rel.val k).isSome_eq,← l]
  exact h _ (I.tok _)
 ·subst ey
  cases (show u = Value.ref b from ry)
  obtain ⟨z,hd,xs,rel,dd⟩:=dt_rd I.hok e
  refine wpAny_in_heap (tupleKind_room_in1 hu) (key_of I.hok eb) hd dd ?_
  have q:=(rel.val k).isSome_eq
  rw [Option.isSome_map] at q
  rw [← q,← l]
  exact h _ (I.tok _)
theorem d_notIn {Q : Value→Shared→Prop} (hu : A.units + 1 < cLine) (I : Inv X pins σ H s) (g : DGet H a y o) (ry : RelV y u) (h : ∀ s',Inv X pins σ H s'→Q (.bool (!o.isSome)) s') :
  wpAny (model X.prog X.w) A (compareOp .NotIn u (.ref a)) Q E s:=by
 rcases g with ⟨kvs,k,e,ey,l⟩ | ⟨kvs,k,b,e,ey,eb,l⟩
 ·subst ey
  obtain ⟨z,hd,vs,rel,dd⟩:=dk_rd I.hok e
  refine wpAny_notIn_of (kV_is ry) hd dd.mapOf ?_
  rw [← (rel.val k).isSome_eq,← l]
  exact h _ (I.tok _)
 ·subst ey
  cases (show u = Value.ref b from ry)
  obtain ⟨z,hd,xs,rel,dd⟩:=dt_rd I.hok e
  refine wpAny_notIn_heap (tupleKind_room_in1 hu) (key_of I.hok eb) hd dd ?_
  have q:=(rel.val k).isSome_eq
  rw [Option.isSome_map] at q
  rw [← q,← l]
  exact h _ (I.tok _)
theorem d_write {h' : Heap} {t' : Nat} {ob : HO} (I : Inv X pins σ H s) (mu : Mut (H a)) (hs : Heap.SameBut a s.heap h') (he : ∃ q,h'.get? a = some q) (new : ObjOk X.prog X.w (upd H a ob) h' a ob) :
  Inv X pins σ (upd H a ob) { s with heap:=h',toks:=t' } :=
 I.write (x:=a) (e:=a) mu (.inl rfl) (fun b q hb z=>(hs.2 b hb).trans z) he new
theorem dk_new {P : Program} {w : World} {H' : Hp} {h' : Heap} {kvs : List (Key × V)} {vs : List (Key × Value)} (z : kvs.length ≤ sizeLine) (hd : (a == sysModules) = false) (rel : KV kvs vs) (dd : h'.DictOf (mixKind P w) a vs) :
  ObjOk P w H' h' a (.dK kvs):=⟨z,hd,vs,rel,dd⟩
theorem d_setItem {H' : Hp} {Q : Unit→Shared→Prop} (hu : A.units + 1 < cLine) (I : Inv X pins σ H s) (g : DPut H a y v H') (ry : RelV y u) (rv : RelV v r) (h : ∀ s',Inv X pins σ H' s'→Q () s') :
  wpAny (model X.prog X.w) A (setItem (.ref a) u r) Q E s:=by
 rcases g with ⟨kvs,k,e,ey,l,eH⟩ | ⟨kvs,k,b,e,ey,eb,l,eH⟩
 ·subst ey eH
  obtain ⟨z,hd,vs,rel,dd⟩:=dk_of I.hok e
  have hz : vs.length ≤ sizeLine:=by rw [← rel.length]; exact z
  have hl : (putK kvs k v).length ≤ sizeLine:=by have:=length_putK kvs k v; omega
  refine wpAny_setItem_pairs (hsz:=hz) (kV_is ry) dd fun h' dd' hs=>h _ ?_
  have he : ∃ q,h'.get? a = some q:=let ⟨q,_,_,hq,_⟩:=dd'; ⟨q,hq⟩
  exact d_write I (by rw [e]; exact True.intro) hs he (dk_new hl hd (rel.put k rv) dd')
 ·subst ey eH
  cases (show u = Value.ref b from ry)
  obtain ⟨z,hd,xs,rel,dd⟩:=dt_of I.hok e
  have hz : xs.length ≤ sizeLine:=by rw [← Paired.length rel]; exact z
  have hl : (putK kvs k v).length ≤ sizeLine:=by have:=length_putK kvs k v; omega
  refine wpAny_setItem_heap (hsz:=hz) (tupleKind_room_in1 hu) (key_of I.hok eb) dd fun h' dd' hs=>h _ ?_
  obtain ⟨q,es,ep,hq,h2,h3,h4,_,h5⟩:=dd'
  refine d_write I (by rw [e]; exact True.intro) hs ⟨q,hq⟩ ⟨hl,hd,_,(rel.put k eb rv).keeps fun c ys ec=>?_,q,es,ep,hq,h2,h3,h4,h5⟩
  rw [upd_ne (ne_of ec e (fun z=>nomatch z))]
  exact ec
end
section
variable {X : Cx} {pins : List (Addr × Obj)} {σ : St} {H : Hp} {s : Shared} {a : Addr} {kvs : List (Key × V)} {k : Key} {u : Value} {A : Around} {E : Value→Shared→Prop}
end
def NoSl (i : Expr) : Prop:=∀ ov iv,subscripted i false ov iv = operate [ov,iv] (getItem ov iv)
theorem subD_of {prog : Program} {w : World} {A : Around} {E : Value→Shared→Prop} {s : Shared} {env : Env} {value slice : Expr} {pos : Pos} {T id : String} {Q : Value→Shared→Prop}
  (hl : typeLookup (.type T) "__getitem__" = pure (some (.builtin id))) (hs : NoSl slice)
  (h : wpAny (model prog w) A (eval value env) (fun o s₁=>wpAny (model prog w) A (eval slice env) (fun i s₂=>s₂.TypeIs o T∧wpAny (model prog w) A (getItem o i) Q E s₂) E s₁) E s) :
  wpAny (model prog w) A (eval (.Subscript value slice pos) env) Q E s:=by
 refine Subscript_ (wpAny_mono h (fun o s₁ h₁=>wpAny_mono h₁ (fun i s₂ h₂=>?_) fun _ _ x=>x) fun _ _ x=>x)
 obtain ⟨hT,h₂⟩:=h₂
 unfold subscriptTail
 refine wpAny_bind ?_
 rw [getitemInPython_of_ne hT.not_modules]
 refine wpAny_bind (wpAny_specialOf hT hl ?_)
 have fin : wpAny (model prog w) A (subscripted slice false o i) (fun r s₃=>wpAny (model prog w) A (letTemporaryGo value o r >>= fun _=>pure r) Q E s₃) E s₂:=by
  rw [hs o i]
  exact wpAny_operating (wpAny_mono h₂ (fun r s₃ h₃=>wpAny_bind (wpAny_letTemporaryGo (wpAny_pure h₃))) fun _ _ x=>x)
 first
  | exact wpAny_pure (wpAny_bind fin)
  | exact wpAny_bind (wpAny_pure (wpAny_bind fin))
  | exact wpAny_bind fin
theorem dict_typeIs {X : Cx} {pins : List (Addr × Obj)} {σ : St} {H : Hp} {s : Shared} {a : Addr} {y : V} {o : Option V} (I : Inv X pins σ H s) (g : DGet H a y o) : s.TypeIs (.ref a) "dict" := by
 rcases g with ⟨kvs,k,e,_,_⟩ | ⟨kvs,k,b,e,_,_,_⟩
 ·obtain ⟨_,_,vs,_,dd⟩:=dk_rd I.hok e
  exact dd.typeIs
 ·obtain ⟨_,_,xs,_,dd⟩:=dt_rd I.hok e
  exact dd.typeIs
def tDGet (td ty : TE) : TE:=fun σ H Q=>td σ H fun x H1=>ty σ H1 fun y H2=>∃ a v,x = .ref a∧DGet H2 a y (some v)∧Q v H2
def tDIn (ty td : TE) : TE:=fun σ H Q=>ty σ H fun y H1=>td σ H1 fun x H2=>∃ a o,x = .ref a∧DGet H2 a y o∧Q (.bl o.isSome) H2
def tDNotIn (ty td : TE) : TE:=fun σ H Q=>ty σ H fun y H1=>td σ H1 fun x H2=>∃ a o,x = .ref a∧DGet H2 a y o∧Q (.bl (!o.isSome)) H2
def sDPut (td ty tv : TE) : TS:=fun D σ H=>tv σ H fun v H1=>td σ H1 fun x H2=>ty σ H2 fun y H3=>∃ a H4,x = .ref a∧DPut H3 a y v H4∧D.nx σ H4
section
variable {X : Cx} {o i e value : Expr} {pos pos' tpos : Pos} {td ty tv : TE}
theorem pe_dget (hu : X.A.units + 1 < cLine) (ho : PE X o td) (hi : PE X i ty) (hs : NoSl i) : PE X (.Subscript o i pos) (tDGet td ty):=by
 intro pins s σ H Q I h
 refine subD_of PySem.F.slot_dict_getitem.lookup hs (thn (ho pins s σ H _ I h) fun u s1 ⟨x,H1,I1,rx,q1⟩=>thn (hi pins s1 σ H1 _ I1 q1) fun iv s2 ⟨y,H2,I2,ry,a,v,ex,g,q2⟩=>?_)
 subst ex
 obtain rfl : u = Value.ref a:=rx
 exact ⟨dict_typeIs I2 g,d_getItem hu I2 g ry fun w' s3 I3 rw'=>⟨v,H2,I3,rw',q2⟩⟩
theorem pc_din (hu : X.A.units + 1 < cLine) (hi : PE X i ty) (ho : PE X o td) : PC X .In i o (tDIn ty td):=by
 intro pins s σ H Q I h
 refine thn (hi pins s σ H _ I h) fun iv s1 ⟨y,H1,I1,ry,q1⟩=>thn (ho pins s1 σ H1 _ I1 q1) fun u s2 ⟨x,H2,I2,rx,a,ov,ex,g,q2⟩=>?_
 subst ex
 obtain rfl : u = Value.ref a:=rx
 exact d_in hu I2 g ry fun s3 I3=>⟨.bl ov.isSome,H2,I3,rfl,q2⟩
theorem pc_dnotin (hu : X.A.units + 1 < cLine) (hi : PE X i ty) (ho : PE X o td) : PC X .NotIn i o (tDNotIn ty td):=by
 intro pins s σ H Q I h
 refine thn (hi pins s σ H _ I h) fun iv s1 ⟨y,H1,I1,ry,q1⟩=>thn (ho pins s1 σ H1 _ I1 q1) fun u s2 ⟨x,H2,I2,rx,a,ov,ex,g,q2⟩=>?_
 subst ex
 obtain rfl : u = Value.ref a:=rx
 exact d_notIn hu I2 g ry fun s3 I3=>⟨.bl (!ov.isSome),H2,I3,rfl,q2⟩
theorem ps_dput (hu : X.A.units + 1 < cLine) (ho : PE X o td) (hi : PE X i ty) (hv : PE X value tv) (hs : swapsWith value (some (.Subscript o i pos')) pos.line X.env = pure false) :
  PS X (.Assign [.Subscript o i pos'] value pos) (sDPut td ty tv):=by
 intro pins s σ H D I h
 refine wpAny_Assign_Subscript (thn (hv pins s σ H _ I h) fun r s1 ⟨v,H1,I1,rv,q1⟩=>thn (ho pins s1 σ H1 _ I1 q1) fun u s2 ⟨x,H2,I2,rx,q2⟩=>thn (hi pins s2 σ H2 _ I2 q2) fun iv s3 ⟨y,H3,I3,ry,a,H4,ex,g,q3⟩=>?_) hs
 subst ex
 obtain rfl : u = Value.ref a:=rx
 exact d_setItem hu I3 g ry rv fun s4 I4=>⟨σ,H4,I4,q3⟩
end
theorem dk_empty {P : Program} {w : World} {H : Hp} (h : Heap) (hb : sysModules < h.objs.size) : ObjOk P w H (h.push { cls:=.type "dict",data:=.dict #[] }) h.objs.size (.dK []) :=
 ⟨Nat.zero_le _,beq_eq_false_iff_ne.mpr (Ne.symm (Nat.ne_of_lt hb)),[],.nil,Heap.DictOf.new h⟩
theorem dt_empty {P : Program} {w : World} {H : Hp} (h : Heap) (hb : sysModules < h.objs.size) : ObjOk P w H (h.push { cls:=.type "dict",data:=.dict #[] }) h.objs.size (.dT []) :=
 ⟨Nat.zero_le _,beq_eq_false_iff_ne.mpr (Ne.symm (Nat.ne_of_lt hb)),[],.nil,_,#[],0,Heap.get?_push_size _ rfl,⟨rfl,rfl,rfl⟩,rfl,rfl,List.nodup_nil⟩
def tDNewK : TE:=fun _ H Q=>∀ p,H p = none→Q (.ref p) (upd H p (.dK []))
def tDNewT : TE:=fun _ H Q=>∀ p,H p = none→Q (.ref p) (upd H p (.dT []))
section
variable {X : Cx} {pos : Pos}
theorem pe_dnewK : PE X (.Dict [] [] pos) tDNewK:=fun pins s σ H Q I h =>
 wpAny_Dict_empty ⟨.ref s.heap.objs.size,_,I.laid (a:=s.heap.objs.size) (o:=.dK []) (t':=s.toks) (fun _ _ q=>Heap.get?_push_of_some _ q) (Nat.le_refl _) (dk_empty s.heap I.big),rfl,h _ (I.hok.fresh (Nat.le_refl _))⟩
theorem pe_dnewT : PE X (.Dict [] [] pos) tDNewT:=fun pins s σ H Q I h =>
 wpAny_Dict_empty ⟨.ref s.heap.objs.size,_,I.laid (a:=s.heap.objs.size) (o:=.dT []) (t':=s.toks) (fun _ _ q=>Heap.get?_push_of_some _ q) (Nat.le_refl _) (dt_empty s.heap I.big),rfl,h _ (I.hok.fresh (Nat.le_refl _))⟩
end
abbrev VV : List (V × V)→List (Value × Value)→Prop:=Paired fun p q=>RelV p.1 q.1∧RelV p.2 q.2
section
variable {X : Cx} {pins : List (Addr × Obj)} {σ : St} {H : Hp} {s : Shared} {a : Addr} {y d : V} {u r : Value} {o : Option V} {A : Around} {E : Value→Shared→Prop}
end
section
variable {X : Cx} {o e f : Expr} {apos cpos : Pos} {td ty tx : TE}
end
section
variable {X : Cx} {pins : List (Addr × Obj)} {σ : St} {H : Hp} {s : Shared} {a : Addr} {kvs : List (Key × V)} {A : Around} {E : Value→Shared→Prop}
end
section
variable {X : Cx} {pins : List (Addr × Obj)} {σ : St} {H : Hp} {s : Shared} {a : Addr} {y : V} {u : Value} {A : Around} {E : Value→Shared→Prop}
end
end L2
namespace L2
open PySem PySem.Spec PyProof.Rows
section
variable {X : Cx}
end
section
variable {κ : Type} [DecidableEq κ]
theorem valV_in {kvs : List (κ × V)} {k : κ} {v : V} (h : valV kvs k = some v) : k ∈ kvs.map (·.1):=by
 have q : (kvs.any fun kv=>decide (kv.1 = k)) = true:=by
  rw [valV_any,h]
  all_goals rfl
 obtain ⟨p,hp,e⟩:=List.any_eq_true.mp q
 exact List.mem_map.mpr ⟨p,hp,of_decide_eq_true e⟩
end
end L2
set_option Elab.async false
set_option linter.all false
set_option maxRecDepth 100000
set_option maxHeartbeats 16000000
namespace L2
open PySem PySem.Spec PyProof.Rows
theorem keys_miss {prog : Program} {w : World} {A : Around} {E : Value→Shared→Prop} {s : Shared} {a : Addr} {items : Array Value} {Q : Option Value→Shared→Prop} (hL : s.heap.IsTuple a items) (hn : ∀ o,s.heap.get? a = some o→o.dict = none) (hA : A.handled = none)
  (h : ∀ h' tk,(∀ b ob,s.heap.get? b = some ob→h'.get? b = some ob)→Q none { s with heap:=h',toks:=tk }) : wpAny (model prog w) A (getAttr? (.ref a) "keys") Q E s:=by
 obtain ⟨⟨c,dct,dat,sl⟩,hx,hc,k,hd⟩:=hL
 have hdn:=hn _ hx
 simp only at hc hd hdn
 subst hc hd hdn
 obtain ⟨hp,g,d,tk,os⟩:=s
 have hT : ∀ tk',(⟨hp,g,d,tk',os⟩ : Shared).TypeIs (.ref a) "tuple" := fun _=>⟨_,hx,rfl⟩
 have f1:=sub_AttributeError
 have f3:=F.slot_tuple_getattribute.lookup
 have f4:=F.slot_tuple_getattribute.bind (.ref a)
 have f5:=am_tuple_getattr_none
 have hmiss : typeLookup (.type "tuple") "keys" = pure none:=am_miss_of_fast (by decide +kernel)
 unfold getAttr? getAttrBy? getAttrBy
 repeat (any_goals (first | assumption | exact hT _ | ((with_reducible show wpAny _ _ (call (Value.builtin "tuple.__getattribute__") _ _) _ _ _); refine call_meets F.slot_tuple_getattribute (hT _) am_entry_tuple_getattribute (F.args_tuple_getattribute_2 _ _) (meets_getattribute_miss_tuple a items k sl "keys" _ hmiss (by decide +kernel) (by decide +kernel)) ⟨hx,hA,fun h' tk' e hx'=>?_⟩) | wp_step))
 obtain ⟨t',u',he⟩:=hx'.there
 show wpAny _ _ (getattributeRaised _ _ _ _ _ _ _) _ _ _
 unfold getattributeRaised
 repeat (any_goals (first | assumption | wp_step))
 exact h _ _ hx'.keeps
theorem entry_dul : entryFor table "dict.update.loop" = some Builtin.«dict.update.loop» := entryFor_of_fast (by kernel_rfl)
theorem plain_dul : plainId "dict.update.loop" = true:=by decide +kernel
section
variable {X : Cx}
def foldP (ps : List (Str × V)) (m : List (Key × V)) : List (Key × V):=ps.foldl (fun m p=>putK m (Sum.inr p.1) p.2) m
theorem dict_loop (hc : X.calm = true) {A : Around} (hA : A.handled = none) {pins : List (Addr × Obj)} {σ : St} {H0 : Hp} {Q : VK} {a d it : Addr} {vs : List V} (hda : d ≠ a) (hit : it ≠ a) (hdi : d ≠ it) :
  ∀ (n i : Nat) (s : Shared) (m : List (Key × V)) (ps : List (Str × V)) (j : Int) (tk : Tok),n = vs.length - i→Inv X pins σ (upd H0 d (.dK m)) s→s.heap.IsTupleIter it a i→FpOk X pins (upd H0 d (.dK m)) it→SqT X.K (upd H0 d (.dK m)) a vs →
   Paired (fun v (p : Str × V)=>∃ t,v = .ref t∧t ≠ d∧SqT X.K H0 t [.str p.1,p.2]) (vs.drop i) ps→m.length + ps.length ≤ 1000→H0 it = none →
   Q (.ref d) (upd H0 d (.dK (foldP ps m)))→codeAny (model X.prog X.w) A (.builtin "dict.update.loop" ⟨[.ref d,.ref it,.int j tk,.none],[]⟩) (wants (fun u s'=>u = .none∧∃ H',Inv X pins σ H' s'∧Q (.ref d) H') (fun _ _=>False)) s:=by
 intro n
 induction n with
 | zero =>
  intro i s m ps j tk hn I st fp hsq hp hlen hn0 q
  have hd : vs.drop i = []:=List.drop_eq_nil_of_le (by omega)
  rw [hd] at hp
  cases hp
  obtain ⟨its,rv,pt,hz⟩:=I.tuple hsq
  have hl:=rv.length
  obtain ⟨f0,f1,f2,f3,f4,f5⟩:=fp
  refine codeAny_builtin entry_dul ?_
  rw [Around.under_plainId plain_dul _]
  show wpAny _ A.in1 (pyNext (.ref it) >>= _) _ _ s
  refine wpAny_bind (wpAny_pyNext_tuple_end (A:=A.in1) hA st (show s.heap.IsTuple a its.toArray from pt) (by simp; omega) fun h' eb=>?_)
  have I' : Inv X pins σ (upd H0 d (.dK m)) { s with heap:=h' }:=I.turned (t':=s.toks) (fun b o hb e=>eb b o hb e) f0 f1 f3 f4 f5
  show wpAny _ _ (Builtin.Dict.addKeywords d [] >>= _) _ _ _
  exact wpAny_bind (wpAny_pure (wpAny_pure ⟨rfl,_,I',q⟩))
 | succ n ih =>
  intro i s m ps j tk hn I st fp hsq hp hlen hn0 q
  have hi : i < vs.length:=by omega
  have hdr : vs.drop i = vs[i] :: vs.drop (i + 1):=List.drop_eq_getElem_cons hi
  rw [hdr] at hp
  cases hp with
  | @cons _ p _ ps' h1 hrest =>
  obtain ⟨t,e,htd,ht⟩:=h1
  obtain ⟨its,rv,pt,hz⟩:=I.tuple hsq
  have hl:=rv.length
  have hx : vs[i]? = some (V.ref t):=by simp [hi,e]
  obtain ⟨u,hu,ru⟩:=rv.get hx
  cases ru
  obtain ⟨f0,f1,f2,f3,f4,f5⟩:=id fp
  refine codeAny_builtin entry_dul ?_
  rw [Around.under_plainId plain_dul _]
  show wpAny _ A.in1 (pyNext (.ref it) >>= _) _ _ s
  refine wpAny_bind (wpAny_pyNext_tuple_item (A:=A.in1) st (show s.heap.IsTuple a its.toArray from pt) (x:=.ref t) (by simpa using hu) fun h' st' sb=>?_)
  have I' : Inv X pins σ (upd H0 d (.dK m)) { s with heap:=h' }:=I.turned (t':=s.toks) (fun b o hb e=>(sb.2 b hb).trans e) f0 f1 f3 f4 f5
  have ht' : SqT X.K (upd H0 d (.dK m)) t [.str p.1,p.2]:=by
   rcases ht with (ht | ⟨o,ht⟩) | ht
   ·exact .inl (.inl (by rw [upd_ne htd]; exact ht))
   ·exact .inl (.inr ⟨o,by rw [upd_ne htd]; exact ht⟩)
   ·exact .inr ht
  obtain ⟨kv,rkv,ptt,_⟩:=I'.tuple ht'
  cases rkv with
  | @cons _ ku _ _ rk rr =>
  cases rr with
  | @cons _ vu _ _ rvv rr =>
  cases rr
  obtain ⟨tk2,rfl⟩:=rk
  have hTy : (⟨h',s.gens,s.drawn,s.toks,s.os⟩ : Shared).TypeIs (.ref t) "tuple" := by obtain ⟨o,ho,hcl,_⟩:=ptt; exact ⟨o,ho,hcl⟩
  dsimp only
  obtain ⟨ot,hot,hoc,kt,hodat⟩:=ptt
  obtain ⟨z,hsm,ws,rel,dd⟩:=dk_of I'.hok (upd_same (H:=H0) (a:=d) (o:=.dK m))
  have hz2 : ws.length ≤ sizeLine:=by rw [← rel.length]; exact z
  refine wpAny_bind (wpAny_holding (wpAny_bind (wpAny_tryCatch ?_)))
  unfold Builtin.Dict.pairItems
  refine wpAny_bind (wpAny_typeOf hTy ?_)
  rw [if_pos (by decide)]
  refine wpAny_bind (wpAny_seqItems hot hodat (wpAny_pure ?_))
  show wpAny _ _ (holding [Value.str p.1 tk2,vu] (dictSet d (Value.str p.1 tk2) vu)) _ _ _
  refine wpAny_holding (wpAny_dictSet_pairs (knd:=mixKind X.prog X.w) (k:=Sum.inr p.1) (mixKind_str X.prog X.w p.1 tk2) dd (fun h2 dd2 sb2=>?_) hz2)
  have hl2 : (putK m (Sum.inr p.1) p.2).length ≤ sizeLine:=by
   have h3:=length_putK m (Sum.inr p.1) p.2
   have : sizeLine = 16777216:=sizeLine_eq
   simp only [List.length_cons] at hlen
   omega
  have he : ∃ q,h2.get? d = some q:=let ⟨q,_,_,hq,_⟩:=dd2; ⟨q,hq⟩
  have I2 : Inv X pins σ (upd (upd H0 d (.dK m)) d (.dK (putK m (Sum.inr p.1) p.2))) { heap:=h2,gens:=s.gens,drawn:=s.drawn,toks:=s.toks + 1,os:=s.os } :=
   d_write (s:={ heap:=h',gens:=s.gens,drawn:=s.drawn,toks:=s.toks,os:=s.os }) (t':=s.toks + 1) I' (by rw [upd_same]; exact True.intro) sb2 he (dk_new hl2 hsm (rel.put _ rvv) dd2)
  rw [upd_upd] at I2
  refine wpAny_pure ⟨plainId_quiet plain_dul _,?_⟩
  have hsq2 : SqT X.K (upd H0 d (.dK (putK m (Sum.inr p.1) p.2))) a vs:=by
   rcases hsq with (h | ⟨o,h⟩) | h
   ·rw [upd_ne hda.symm] at h; exact .inl (.inl (by rw [upd_ne hda.symm]; exact h))
   ·rw [upd_ne hda.symm] at h; exact .inl (.inr ⟨o,by rw [upd_ne hda.symm]; exact h⟩)
   ·exact .inr h
  refine ih (i + 1) _ (putK m (Sum.inr p.1) p.2) ps' (j + 1) _ (by omega) I2 ?_ ⟨by rw [upd_ne hdi.symm]; exact hn0,f1,f2,f3,f4,f5⟩ hsq2 hrest ?_ hn0 q
  ·obtain ⟨oi,hoi,r⟩:=st'
   exact ⟨oi,(sb2.2 it hdi.symm).trans hoi,r⟩
  ·have h3:=length_putK m (Sum.inr p.1) p.2
   simp only [List.length_cons] at hlen
   omega
theorem call_dictT (hc : X.calm = true) : CallR X (.type "dict") (fun xs H Q=>∃ (a : Addr) (o : Obj) (vs : List V) (ps : List (Str × V)),xs = [.ref a]∧H a = some (.frz o (.tup vs))∧o.dict = none∧Paired (fun v (p : Str × V)=>∃ t,v = .ref t∧SqT X.K H t [.str p.1,p.2]) vs ps∧ps.length ≤ 1000 ∧
  ∀ d,H d = none→Q (.ref d) (upd H d (.dK (foldP ps [])))):=by
 intro pins s σ H xs us Q I r h
 obtain ⟨a,o,vs,ps,rfl,ha,hod,hp,hlen,q⟩:=h
 obtain ⟨u,rfl,ru⟩:=vals1 r
 cases ru
 have hsq : SqT X.K H a vs:=.inl (.inr ⟨o,ha⟩)
 obtain ⟨its,rv,pt,hz⟩:=I.tuple hsq
 have hobj : s.heap.get? a = some o:=(I.hok a _ ha).1
 have hfr : H s.heap.objs.size = none:=I.hok.fresh (Nat.le_refl _)
 refine callType_codes (Q₁:=fun obj s₁=>obj = .ref s.heap.objs.size∧s₁ = { s with heap:=s.heap.push { cls:=.type "dict",data:=.dict #[] } }) F.kt_called_dict (F.kt_typeCall_dict_1 _) F.entry_dict_init (kt_code_dict_new _ ⟨rfl,rfl⟩) ?_
 rintro obj s₁ ⟨rfl,rfl⟩
 have I1 : Inv X pins σ (upd H s.heap.objs.size (.dK [])) { s with heap:=s.heap.push { cls:=.type "dict",data:=.dict #[] } } :=
  I.laid (a:=s.heap.objs.size) (o:=.dK []) (t':=s.toks) (fun _ _ q=>Heap.get?_push_of_some _ q) (Nat.le_refl _) (dk_empty s.heap I.big)
 have hnew : (s.heap.push { cls:=.type "dict",data:=.dict #[] }).DictOf (mixKind X.prog X.w) s.heap.objs.size []:=Heap.DictOf.new s.heap
 refine ⟨hnew.typeIs,F.args_dict_init_2 _ _,?_⟩
 unfold Builtin.«dict.__init__»
 refine wpAny_bind ?_
 unfold Builtin.Dict.selfAndRest
 refine wpAny_bind (wpAny_notOrdered_dict hnew.typeIs ?_)
 show wpAny _ _ (pure (s.heap.objs.size,[Value.ref a])) _ _ _
 refine wpAny_pure ?_
 show wpAny _ _ (Builtin.Dict.updateFrom "dict.__init__" s.heap.objs.size (.ref a) [] .none) _ _ _
 have had : s.heap.objs.size ≠ a:=Ne.symm (ne_of_none ha hfr)
 have hobj1 : (s.heap.push { cls:=.type "dict",data:=.dict #[] }).get? a = some o:=Heap.get?_push_of_some _ hobj
 have htp : (s.heap.push { cls:=.type "dict",data:=.dict #[] }).IsTuple a its.toArray:=by
  obtain ⟨o2,h1,h2⟩:=pt
  exact ⟨o2,Heap.get?_push_of_some _ h1,h2⟩
 unfold Builtin.Dict.updateFrom
 refine wpAny_bind (wpAny_typeOf (s:={ s with heap:=s.heap.push { cls:=.type "dict",data:=.dict #[] } }) (T := "tuple") (by obtain ⟨o2,h1,h2,_⟩:=htp; exact ⟨o2,h1,h2⟩) ?_)
 rw [if_pos (by decide)]
 refine wpAny_bind (keys_miss htp (fun o2 h2=>by rw [hobj1] at h2; cases h2; exact hod) (I.ok.hd hc) fun h' tk hk=>?_)
 rw [if_pos (show (none : Option Value).isNone = true from rfl)]
 refine wpAny_bind (wpAny_rule ?_)
 have I2 : Inv X pins σ (upd H s.heap.objs.size (.dK [])) { s with heap:=h',toks:=tk }:=I1.kept hk
 have htp2 : h'.IsTuple a its.toArray:=by
  obtain ⟨o2,h1,h2⟩:=htp
  exact ⟨o2,hk _ _ h1,h2⟩
 refine wpAny_bind (wpAny_pyIter_tuple (s:={ s with heap:=h',toks:=tk }) htp2 ?_)
 refine wpAny_pure ⟨plainId_quiet plain_dul _,?_⟩
 have I3:=I2.kept (h':=h'.push { cls:=.type "tuple_iterator",data:=.fields #[.ref a,.int 0 0] }) (t':=tk) fun b ob e=>Heap.get?_push_of_some _ e
 have hfi : upd H s.heap.objs.size (.dK []) h'.objs.size = none:=I2.hok.fresh (Nat.le_refl _)
 have hdi : s.heap.objs.size ≠ h'.objs.size:=by
  intro z
  rw [← z,upd_same] at hfi
  cases hfi
 have hfi0 : H h'.objs.size = none:=by rw [upd_ne hdi.symm] at hfi; exact hfi
 have hia : h'.objs.size ≠ a:=fun z=>by
  rw [z,ha] at hfi0
  cases hfi0
 have hsq1 : SqT X.K (upd H s.heap.objs.size (.dK [])) a vs:=.inl (.inr ⟨o,by rw [upd_ne had.symm]; exact ha⟩)
 have L:=dict_loop (X:=X) hc (A:=X.A.in1) (I.ok.hd hc) (pins:=pins) (σ:=σ) (H0:=H) (Q:=Q) (a:=a) (d:=s.heap.objs.size) (it:=h'.objs.size) (vs:=vs) had hia hdi vs.length 0 _ [] ps 0 0 (by omega) I3 ⟨_,Heap.get?_push_size _ rfl,rfl,rfl⟩ (I2.fpOk (Nat.le_refl _) hfi) hsq1
  (Paired.mapP hp fun v p ⟨t,e,ht⟩=>⟨t,e,fun z=>?_,ht⟩) (by simpa using hlen) hfi0 (q _ hfr)
 ·refine codeAny_mono L fun r s' hr=>?_
  cases r with
  | error e=>exact False.elim hr
  | ok f =>
   cases f with
   | ret v =>
    obtain ⟨e,H',I',q'⟩:=hr
    exact ⟨e,.ref s.heap.objs.size,H',I',rfl,q'⟩
   | next=>exact False.elim hr
   | brk=>exact False.elim hr
   | cont=>exact False.elim hr
 ·obtain ⟨its2,_,⟨o2,h2,_⟩,_⟩:=I.tuple ht
  rw [z] at h2
  exact absurd (Heap.lt_size h2) (Nat.lt_irrefl _)
end
end L2
set_option Elab.async false
set_option linter.all false
set_option maxRecDepth 100000
set_option maxHeartbeats 16000000
namespace L2
open PySem PySem.Spec PyProof.Rows PySem.W
section
variable {prog : Program} {w : World} {A : Around} {E : Value→Shared→Prop} {s : Shared} {T : String} {r d : Addr} {n : Nat} {P : Nat→Value→Prop} {OK : Heap→Prop}
end
section
variable {X : Cx}
end
end L2
set_option Elab.async false
set_option linter.all false
set_option maxRecDepth 100000
set_option maxHeartbeats 16000000
namespace L2
open PySem PySem.Spec PyProof.Rows
def kindS : Rw→Str
 | .bring _ _ => "bring"
 | .give _ _ => "give"
 | .set _ _ => "set"
 | .take _ => "take"
 | .say _ _ => "say"
 | .need _ => "need"
 | .ask _ _ => "ask"
 | .part _ => "part"
 | .doo _ => "do"
def addN (l : List Str) (x : Str) : List Str:=if x ∈ l then l else l ++ [x]
theorem addN_len (l : List Str) (x : Str) : (addN l x).length ≤ l.length + 1:=by
 unfold addN; split <;> simp
def setD (l : List Str) : List (Key × V):=l.map fun x=>(Sum.inr x,.bl true)
theorem setD_len (l : List Str) : (setD l).length = l.length:=List.length_map _
theorem setD_any (l : List Str) (x : Str) : ((setD l).any fun kv=>decide (kv.1 = Sum.inr x)) = decide (x ∈ l):=by
 induction l with
 | nil=>simp [setD]
 | cons a r ih =>
  have : setD (a :: r) = (Sum.inr a,.bl true) :: setD r:=rfl
  rw [this,List.any_cons,ih]
  by_cases e : a = x
  ·subst e; simp
  ·have h1 : ¬ (Sum.inr a : Key) = Sum.inr x:=fun z=>e (Sum.inr.inj z)
   have h2 : ¬ x = a:=fun z=>e z.symm
   simp [e,h2]
theorem setD_put (l : List Str) (x : Str) : putK (setD l) (Sum.inr x) (.bl true) = setD (addN l x):=by
 unfold putK
 rw [setD_any]
 unfold addN
 by_cases e : x ∈ l
 ·rw [if_pos (by simpa using e),if_pos e]
  unfold setD
  rw [List.map_map]
  refine List.map_congr_left fun a _=>?_
  show (if (Sum.inr a : Key) = Sum.inr x then ((Sum.inr a : Key),V.bl true) else (Sum.inr a,V.bl true)) = _
  split <;> rfl
 ·rw [if_neg (by simpa using e),if_neg e]
  unfold setD
  rw [List.map_append]
  rfl
def PartsF (H : Hp) (a : Addr) (ps : List Pt) : Prop:=∃ o vs,H a = some (.frz o (.tup vs))∧o.dict = none∧Paired (PartAt H) vs ps
theorem Same.partsF {H H' : Hp} (s : Same H H') {a : Addr} {ps : List Pt} (h : PartsF H a ps) : PartsF H' a ps:=by
 obtain ⟨o,vs,h1,h2,h3⟩:=h
 exact ⟨o,vs,s _ _ h1,h2,Paired.mapP h3 fun _ _ q=>q.mono s.tups⟩
theorem foldP_get : ∀ (ps : List (Str × V)) (m : List (Key × V)) (n : Str) (v : V),(ps.map (·.1)).Nodup→((n,v) ∈ ps∨((∀ p ∈ ps,p.1 ≠ n)∧valV m (Sum.inr n) = some v))→valV (foldP ps m) (Sum.inr n) = some v
 | [],m,n,v,_,h=>by
  rcases h with h | h
  ·simp at h
  ·exact h.2
 | p :: ps,m,n,v,hn,h=>by
  rw [List.map_cons,List.nodup_cons] at hn
  show valV (foldP ps (putK m (Sum.inr p.1) p.2)) _ = _
  refine foldP_get ps _ n v hn.2 ?_
  rcases h with h | ⟨h1,h2⟩
  ·rcases List.mem_cons.mp h with e | e
   ·refine .inr ⟨fun q hq z=>hn.1 ?_,?_⟩
    ·rw [← e]; show n ∈ _; rw [← z]; exact List.mem_map_of_mem hq
    ·rw [← e]
     show valV (putK m (Sum.inr n) v) (Sum.inr n) = _
     rw [valV_put,if_pos rfl]
   ·exact .inl e
  ·refine .inr ⟨fun q hq=>h1 q (List.mem_cons_of_mem _ hq),?_⟩
   rw [valV_put,if_neg (fun z=>h1 p List.mem_cons_self (Sum.inr.inj z).symm)]
   exact h2
theorem RowAt.kind {H : Hp} {r : Addr} {rw : Rw} (h : RowAt H r rw) : ∃ x rest,H r = some (.tup (.str (kindS rw) :: x :: rest)):=by
 cases rw with
 | bring p ps=>obtain ⟨t,h1,h2⟩:=h; exact ⟨_,_,h1⟩
 | give o g=>exact ⟨_,_,h⟩
 | set o ts=>obtain ⟨t,h1,h2⟩:=h; exact ⟨_,_,h1⟩
 | take o=>exact ⟨_,_,h⟩
 | say ts w=>obtain ⟨t,h1,h2⟩:=h; exact ⟨_,_,h1⟩
 | need ts=>obtain ⟨t,h1,h2⟩:=h; exact ⟨_,_,h1⟩
 | ask p w=>exact ⟨_,_,h⟩
 | part p=>exact ⟨_,_,h⟩
 | doo p=>exact ⟨_,_,h⟩
end L2
set_option Elab.async false
set_option linter.all false
set_option maxRecDepth 100000
set_option maxHeartbeats 16000000
namespace L2
open PySem PySem.Spec PyProof.Rows
section
variable {X : Cx}
theorem rep_fold (c : Nat) : ∀ (n : Nat) (acc : List Nat),(List.replicate n #[c]).foldl (· ++ ·) acc.toArray = (acc ++ List.replicate n c).toArray
 | 0,acc=>by simp
 | n + 1,acc=>by
  rw [List.replicate_succ,List.foldl_cons,List.replicate_succ]
  have : acc.toArray ++ #[c] = (acc ++ [c]).toArray:=by simp
  rw [this,rep_fold c n (acc ++ [c])]
  simp
theorem op_rep1 : OpR X (binaryOp .Mult) (fun x y H Q=>∃ (c : Nat) (k : Int),x = .str ⟨#[c]⟩∧y = .int k∧1 ≤ k∧k ≤ 1000∧Q (.str ⟨(List.replicate k.toNat c).toArray⟩) H):=by
 intro pins s σ H x y v u Q I rx ry h
 obtain ⟨c,k,rfl,rfl,h1,h2,q⟩:=h
 obtain ⟨t,rfl⟩:=rx
 obtain ⟨t',rfl⟩:=ry
 have hl : (⟨#[c]⟩ : Str).length = 1:=rfl
 refine PySem.P.mul_str (by rw [decide_eq_false (by omega),decide_eq_false (by omega)]; rfl) (fun _ _=>?_) (fun _ _=>?_) ?_
 ·rw [hl]
  have : (2 ^ 63 - 1) / k ≥ 1:=by
   rw [ge_iff_le,Int.le_ediv_iff_mul_le (by omega)]; omega
  omega
 ·rw [hl,Nat.one_mul]
  unfold Builtin.Str.tooLong
  have : sizeLine = 16777216:=sizeLine_eq
  simp; omega
 ·rw [if_neg (by omega)]
  by_cases e : k = 1
  ·subst e
   rw [if_pos (by simp)]
   exact ⟨.str ⟨(List.replicate (1 : Int).toNat c).toArray⟩,H,I,⟨t,rfl⟩,q⟩
  ·rw [if_neg (by rw [hl]; simp [e])]
   have hr:=rep_fold c k.toNat []
   rw [List.nil_append] at hr
   rw [show (List.replicate k.toNat (⟨#[c]⟩ : Str).cps).foldl (· ++ ·) #[] = (List.replicate k.toNat c).toArray from hr]
   exact ⟨by show (List.replicate k.toNat c).toArray.size ≤ _; simp; have : sizeLine = 16777216:=sizeLine_eq; omega,.str ⟨(List.replicate k.toNat c).toArray⟩,H,I.tok _,⟨_,rfl⟩,q⟩
end
def lets : Str := "abcdefghijklmnopqrstuvwxyz"
def letAt (i : Int) : Nat:=lets.cps.toList.getD i.toNat 0
def sgAt (i : Int) : Nat:=("abcdefghijklmnopqrstuvwxyz0123456789" : Str).cps.toList.getD i.toNat 0
theorem lets_let : ∀ i : Nat,i < 26→isLet (lets.cps.toList.getD i 0) = true:=by decide +kernel
theorem lets_inj : ∀ i : Nat,i < 26→∀ j : Nat,j < 26→lets.cps.toList.getD i 0 = lets.cps.toList.getD j 0→i = j:=by decide +kernel
theorem lets_len : lets.cps.toList.length = 26:=by decide +kernel
theorem letAt_inj {i j : Int} (hi : 0 ≤ i) (hi2 : i < 26) (hj : 0 ≤ j) (hj2 : j < 26) (h : letAt i = letAt j) : i = j:=by
 have:=lets_inj i.toNat (by omega) j.toNat (by omega) h
 omega
def turnK (b k : Int) : Int:=(k * ([1,5,7,11,13,23].getD (b % 6).toNat 0) + b / 6) % 24
def nm3 (b k z : Int) : Nat→List Nat
 | 0=>[]
 | j + 1=>nm3 b k z j ++ [if (j : Int) = b / 32 % z then letAt ((b / (256 + 11 * j * j) + k) % 26) else if (j : Int) = 0 then letAt (b / (256 + 11 * j * j) % 26) else sgAt (b / (256 + 11 * j * j) % 36)]
def nameM (b k : Int) : Str :=
 let k':=turnK b k
 let b':=b / 144
 if b' % 4 = 0 then ⟨(List.replicate (1 + k' % 8).toNat (letAt ((b' / 4 + k' / 8) % 26))).toArray⟩
 else if b' % 4 = 1 then ⟨(List.replicate (1 + b' / 104 % 6).toNat (letAt (b' / 4 % 26))).toArray⟩ ++ Str.ofString (toString k')
 else ⟨(nm3 b' k' (1 + b' / 4 % 8) (1 + b' / 4 % 8).toNat).toArray⟩
theorem turnK_rng (b k : Int) : 0 ≤ turnK b k∧turnK b k < 24:=by unfold turnK; omega
theorem turnK_inj {b k l : Int} (hb : 0 ≤ b) (hk : 0 ≤ k) (hk2 : k < 24) (hl : 0 ≤ l) (hl2 : l < 24) (h : turnK b k = turnK b l) : k = l:=by
 unfold turnK at h
 have h6 : 0 ≤ b % 6:=by omega
 have h7 : b % 6 < 6:=by omega
 have : (b % 6).toNat = 0∨(b % 6).toNat = 1∨(b % 6).toNat = 2∨(b % 6).toNat = 3∨(b % 6).toNat = 4∨(b % 6).toNat = 5:=by omega
 rcases this with e | e | e | e | e | e <;> rw [e] at h <;> simp only [List.getD_cons_zero,List.getD_cons_succ] at h <;> omega
theorem nm3_len (b k z : Int) : ∀ n,(nm3 b k z n).length = n
 | 0=>rfl
 | n + 1=>by
  show (nm3 b k z n ++ [_]).length = _
  rw [List.length_append,nm3_len b k z n]; rfl
theorem nm3_get (b k z : Int) : ∀ (n j : Nat),j < n→(nm3 b k z n)[j]? = some (if (j : Int) = b / 32 % z then letAt ((b / (256 + 11 * j * j) + k) % 26) else if (j : Int) = 0 then letAt (b / (256 + 11 * j * j) % 26) else sgAt (b / (256 + 11 * j * j) % 36))
 | 0,j,h=>by omega
 | n + 1,j,h=>by
  show (nm3 b k z n ++ [_])[j]? = _
  by_cases e : j < n
  ·rw [List.getElem?_append_left (by rw [nm3_len]; exact e)]
   exact nm3_get b k z n j e
  ·have : j = n:=by omega
   subst this
   rw [List.getElem?_append_right (by rw [nm3_len]; exact Nat.le_refl _),nm3_len]
   simp
theorem num24_inj : ∀ i : Nat,i < 24→∀ j : Nat,j < 24→Str.ofString (toString (i : Int)) = Str.ofString (toString (j : Int))→i = j:=by decide +kernel
theorem str_app_cancel {a x y : Str} (h : a ++ x = a ++ y) : x = y:=by
 have h2 : (a ++ x).cps.toList = (a ++ y).cps.toList:=by rw [h]
 rw [cps_app,cps_app] at h2
 have h3:=List.append_cancel_left h2
 cases x; cases y
 congr
 exact Array.toList_inj.mp h3
theorem nameM_inj {b k l : Int} (hb : 0 ≤ b) (hk : 0 ≤ k) (hk2 : k < 24) (hl : 0 ≤ l) (hl2 : l < 24) (h : nameM b k = nameM b l) : k = l:=by
 refine turnK_inj hb hk hk2 hl hl2 ?_
 obtain ⟨r1,r2⟩:=turnK_rng b k
 obtain ⟨r3,r4⟩:=turnK_rng b l
 unfold nameM at h
 generalize turnK b k = k' at *
 generalize turnK b l = l' at *
 have hb' : 0 ≤ b / 144:=by omega
 generalize b / 144 = b' at *
 simp only at h
 split at h
 ·have h2 : List.replicate (1 + k' % 8).toNat (letAt ((b' / 4 + k' / 8) % 26)) = List.replicate (1 + l' % 8).toNat (letAt ((b' / 4 + l' / 8) % 26)):=by
   injection h with h
   exact congrArg Array.toList h
  have h3:=congrArg List.length h2
  simp only [List.length_replicate] at h3
  have h4:=congrArg List.head? h2
  rw [show (1 + k' % 8).toNat = (k' % 8).toNat + 1 by omega,show (1 + l' % 8).toNat = (l' % 8).toNat + 1 by omega,List.replicate_succ,List.replicate_succ] at h4
  simp only [List.head?_cons,Option.some.injEq] at h4
  have h5:=letAt_inj (by omega) (by omega) (by omega) (by omega) h4
  omega
 ·split at h
  ·have h2:=str_app_cancel h
   have e1 : ((k'.toNat : Nat) : Int) = k':=by omega
   have e2 : ((l'.toNat : Nat) : Int) = l':=by omega
   rw [← e1,← e2] at h2
   have:=num24_inj k'.toNat (by omega) l'.toNat (by omega) h2
   omega
  ·have h2 : nm3 b' k' (1 + b' / 4 % 8) (1 + b' / 4 % 8).toNat = nm3 b' l' (1 + b' / 4 % 8) (1 + b' / 4 % 8).toNat:=by
    injection h with h
    exact congrArg Array.toList h
   have hz : 0 < 1 + b' / 4 % 8:=by omega
   generalize 1 + b' / 4 % 8 = z at *
   have hj1 : 0 ≤ b' / 32 % z:=Int.emod_nonneg _ (by omega)
   have hj2 : b' / 32 % z < z:=Int.emod_lt_of_pos _ hz
   have e1 : (((b' / 32 % z).toNat : Nat) : Int) = b' / 32 % z:=by omega
   have g1:=nm3_get b' k' z z.toNat (b' / 32 % z).toNat (by omega)
   have g2:=nm3_get b' l' z z.toNat (b' / 32 % z).toNat (by omega)
   rw [e1,if_pos rfl] at g1 g2
   rw [h2,g2] at g1
   injection g1 with g1
   have h5:=letAt_inj (by omega) (by omega) (by omega) (by omega) g1
   generalize b' / (256 + 11 * (b' / 32 % z) * (b' / 32 % z)) = q at *
   omega
end L2
set_option Elab.async false
set_option linter.all false
set_option maxRecDepth 100000
set_option maxHeartbeats 16000000
namespace L2
open PySem PySem.Spec PyProof.Rows
section
variable {X : Cx}
theorem vals_ins {xs : List V} {its : List Value} (r : Vals xs its) {y : V} {u : Value} (ru : RelV y u) (k : Nat) : Vals (xs.take k ++ y :: xs.drop k) (its.take k ++ u :: its.drop k) :=
 (r.take k).append (.cons ru (r.drop k))
def rInsert : V→List V→Hp→VK→Prop:=fun x vs H Q=>∃ (l : Addr) (xs : List V) (i : Int) (y : V),x = .ref l∧vs = [.int i,y]∧H l = some (.lst xs)∧0 ≤ i∧i ≤ xs.length∧xs.length < sizeLine∧Q .non (upd H l (.lst (xs.take i.toNat ++ y :: xs.drop i.toNat)))
theorem mt_insert : MtM X "list.insert" rInsert:=by
 intro pins s σ H x vs v us Q I rx rv h
 obtain ⟨l,xs,i,y,rfl,rfl,hH,h0,h1,hz,q⟩:=h
 cases rx
 cases rv with
 | @cons _ u1 _ _ r1 rv =>
 cases rv with
 | @cons _ u2 _ _ r2 rv =>
 cases rv
 obtain ⟨t,rfl⟩:=r1
 obtain ⟨z,its,n,r,hl,e⟩:=I.lstM hH
 have hs : sizeLine = 16777216:=sizeLine_eq
 have hfit : ¬ (!Builtin.List.listFitsIndex i) = true:=by
  rw [fitsIndex_both (by omega) (by omega)]
  exact Bool.false_ne_true
 refine call_meets F.slot_list_insert ⟨_,e,rfl⟩ F.entry_list_insert (F.args_list_insert_3 _ _ _) (PySem.AutoSeq1.list_insert_list_int_val_1 l its.toArray n i t u2 hfit (by rw [List.size_toArray]; omega)) ⟨e,?_⟩
 refine ⟨.non,_,I.lset (its':=its.take i.toNat ++ u2 :: its.drop i.toNat) hH e ?_ (vals_ins r r2 i.toNat) ?_,rfl,q⟩
 ·show (have k:=if i < 0 then (i + ((its.toArray.size : Nat) : Int)).toNat else min i.toNat its.toArray.size; (its.toArray.extract 0 k).push u2 ++ its.toArray.extract k) = _
  have hk : min i.toNat its.toArray.size = i.toNat:=by rw [List.size_toArray]; omega
  simp only [if_neg (show ¬ i < 0 by omega),hk]
  apply Array.toList_inj.mp
  simp
  exact List.take_of_length_le (by rw [List.length_drop]; exact Nat.le_refl _)
 ·rw [List.length_append,List.length_cons,List.length_take,List.length_drop]; omega
theorem op_neL_nil (hu : X.A.units < cLine) : OpR X (compareOp .NotEq) (fun x y H Q=>∃ a b xs,x = .ref a∧y = .ref b∧SqL X.K H a xs∧SqL X.K H b []∧Q (.bl (!xs.isEmpty)) H):=by
 intro pins s σ H x y v u Q I rx ry h
 obtain ⟨a,b,xs,rfl,rfl,ha,hb,q⟩:=h
 cases rx
 cases ry
 obtain ⟨its,r1,p1,_⟩:=I.list ha
 obtain ⟨its2,r2,p2,_⟩:=I.list hb
 cases r2
 cases xs with
 | nil =>
  cases r1
  exact SeqAt.RcNeAt.lists (e:=fun _=>true) p1.isList p2.isList rfl hu (fun j h1 _=>absurd h1 (by simp)) _ _ _ _ ⟨.bl false,H,I,rfl,q⟩
 | cons c r =>
  have hl1:=r1.length
  exact SeqAt.RcNeAt.lists_lengths p1.isList p2.isList (by rw [bne_iff_ne]; intro z; simp only [List.size_toArray,List.length_nil,List.length_cons] at z hl1; omega) hu _ _ _ _ ⟨.bl true,H,I,rfl,q⟩
end
end L2
set_option Elab.async false
set_option linter.all false
set_option maxRecDepth 100000
set_option maxHeartbeats 16000000
namespace L2
open PySem PySem.Spec PyProof.Rows
def ItZl (K : PySem.W.Frag) (a b : Addr) : It :=
 ⟨fun i H=>∃ xs ys x y,SqL K H a xs∧SqL K H b ys∧xs[i]? = some x∧ys[i]? = some y,
   fun i H x H'=>∃ p u v,(∀ xs,SqL K H a xs→xs[i]? = some u)∧(∀ ys,SqL K H b ys→ys[i]? = some v)∧H p = none∧x = .ref p∧H' = upd H p (.tup [u,v]),
   fun i H=>∃ xs ys,SqL K H a xs∧SqL K H b ys∧xs.length = i∧ys.length = i⟩
def ZipSt (n a b : Addr) (i : Nat) (h : Heap) : Prop:=IsZip h (n + 4) (n + 2) (n + 3) .none∧IsPair h (n + 2) (.ref n) (.ref (n + 1))∧(∃ x y,IsPair h (n + 3) x y)∧h.IsListIter n a i∧h.IsListIter (n + 1) b i
def zipFp (n : Addr) : List Addr:=[n + 4,n + 2,n + 3,n,n + 1]
theorem ZipSt.obj {n a b : Addr} {i : Nat} {h : Heap} (st : ZipSt n a b i h) : ∀ c ∈ zipFp n,∃ o,h.get? c = some o∧∀ v,o.data ≠ .cell v:=by
 obtain ⟨h1,h2,⟨x,y,h3⟩,⟨o4,e4,c4,d4⟩,⟨o5,e5,c5,d5⟩⟩:=st
 intro c hc
 simp only [zipFp,List.mem_cons,List.not_mem_nil,or_false] at hc
 rcases hc with rfl | rfl | rfl | rfl | rfl
 ·exact ⟨_,h1,fun v z=>nomatch z⟩
 ·exact ⟨_,h2,fun v z=>nomatch z⟩
 ·exact ⟨_,h3,fun v z=>nomatch z⟩
 ·exact ⟨o4,e4,fun v z=>by rw [d4] at z; cases z⟩
 ·exact ⟨o5,e5,fun v z=>by rw [d5] at z; cases z⟩
theorem ZipSt.keep {n a b : Addr} {i : Nat} {h h' : Heap} (st : ZipSt n a b i h) (kk : ∀ c ∈ zipFp n,∀ o,h.get? c = some o→h'.get? c = some o) : ZipSt n a b i h':=by
 obtain ⟨h1,h2,⟨x,y,h3⟩,⟨o4,e4,r4⟩,⟨o5,e5,r5⟩⟩:=st
 exact ⟨kk _ (by simp [zipFp]) _ h1,kk _ (by simp [zipFp]) _ h2,⟨x,y,kk _ (by simp [zipFp]) _ h3⟩,⟨o4,kk _ (by simp [zipFp]) _ e4,r4⟩,⟨o5,kk _ (by simp [zipFp]) _ e5,r5⟩⟩
theorem turn_zipL {P : Program} {w : World} {K : PySem.W.Frag} {elts : List Expr} {k : Nat} {pos : Pos} (n a b : Addr) (ha : a < n) (hb : b < n) :
  Turn P w K (.Tuple elts k pos) (ItZl K a b) (zipFp n) (n + 4) (ZipSt n a b) where
 mem:=by simp [zipFp]
 obj:=fun i h st=>st.obj
 keep:=fun i h h' st kk=>st.keep kk
 item:=by
  intro X hP hw hK hc i pins s σ H E I hf st hg
  subst hP hw hK
  obtain ⟨xs,ys,x,y,hq1,hq2,hx,hy⟩:=hg
  obtain ⟨its1,rv1,p1,hz1⟩:=I.list hq1
  obtain ⟨its2,rv2,p2,hz2⟩:=I.list hq2
  obtain ⟨u1,hu1,ru1⟩:=rv1.get hx
  obtain ⟨u2,hu2,ru2⟩:=rv2.get hy
  have W:=WalksT.zip2 (prog:=X.prog) (w:=X.w) (A:=X.A) (I.ok.hd hc) (n + 4) (n + 2) (n + 3) n (n + 1) a b (PySem.W.ktu_apart n a b ha hb) its1.toArray its2.toArray
  have g1:=(List.getElem?_eq_some_iff.mp hu1).1
  have g2:=(List.getElem?_eq_some_iff.mp hu2).1
  have hsub : ∀ c,c ∈ [n + 4,n + 3,n,n + 1]→c ∈ zipFp n:=fun c hc=>by
   simp only [zipFp,List.mem_cons,List.not_mem_nil,or_false] at hc ⊢
   rcases hc with z | z | z | z <;> simp [z]
  have hfw : ∀ c ∈ [n + 4,n + 3,n,n + 1],FpOk X pins H c:=fun c hc=>hf c (hsub c hc)
  refine W.item i s _ _ (by simp only [List.size_toArray]; omega) ⟨st.1,st.2.1,st.2.2.1,st.2.2.2.1,st.2.2.2.2,p1.isList,p2.isList⟩ fun T vals h' tk hPt hT hTup hM hk=>?_
  obtain ⟨w1,w2,hw1,hw2,rfl⟩:=hPt
  have e1 : w1 = u1:=by
   have : its1[i]? = some w1:=by simpa using hw1
   rw [hu1] at this
   exact (Option.some.inj this).symm
  have e2 : w2 = u2:=by
   have : its2[i]? = some w2:=by simpa using hw2
   rw [hu2] at this
   exact (Option.some.inj this).symm
  subst e1 e2
  have I1 : Inv X pins σ H { s with heap:=h',toks:=tk }:=I.turnedL hk hfw
  have hHT : H T = none:=I.hok.fresh hT
  have fT : FpOk X pins H T:=I.fpOk hT hHT
  refine ⟨_,rfl,W.go elts k pos i T { s with heap:=h',toks:=tk } _ _ hM fun h2 st2 hk2=>?_⟩
  have I2':=I1.turnedL (h':=h2) (t':=tk) hk2 hfw
  have I2 : Inv X pins σ H { s with heap:=h2,toks:=tk }:=I2'
  have hT2 : h2.IsTuple T #[w1,w2]:=by
   obtain ⟨o,ho,r⟩:=hTup
   exact ⟨o,hk2 T o (W.apart i T h' hM) ho,r⟩
  have I3 : Inv X pins σ (upd H T (.tup [x,y])) { s with heap:=h2,toks:=tk } :=
   I2.track fT ⟨by show 2 ≤ sizeLine; decide,[w1,w2],.cons ru1 (.cons ru2 .nil),hT2⟩
  refine ⟨.ref T,_,I3,rfl,⟨T,x,y,fun zs hz'=>by rw [I.list_inj hz' hq1]; exact hx,fun zs hz'=>by rw [I.list_inj hz' hq2]; exact hy,hHT,rfl,rfl⟩,⟨st2.1,st2.2.1,st2.2.2.1,st2.2.2.2.1,st2.2.2.2.2.1⟩,fun c hc'=>?_⟩
  obtain ⟨o,ho,_⟩:=st.obj c hc'
  have hlt:=Heap.lt_size ho
  rw [upd_ne (fun z=>by rw [z] at hlt; exact absurd hlt (Nat.not_lt.mpr hT))]
  exact (hf c hc').1
 done:=by
  intro X hP hw hK hc i pins s σ H E I hf st hg
  subst hP hw hK
  obtain ⟨xs,ys,hq1,hq2,hx,hy⟩:=hg
  obtain ⟨its1,rv1,p1,hz1⟩:=I.list hq1
  obtain ⟨its2,rv2,p2,hz2⟩:=I.list hq2
  have W:=WalksT.zip2 (prog:=X.prog) (w:=X.w) (A:=X.A) (I.ok.hd hc) (n + 4) (n + 2) (n + 3) n (n + 1) a b (PySem.W.ktu_apart n a b ha hb) its1.toArray its2.toArray
  have l1:=rv1.length
  have l2:=rv2.length
  have hmin : min its1.toArray.size its2.toArray.size = i:=by simp only [List.size_toArray]; omega
  rw [hmin] at W
  have hsub : ∀ c,c ∈ [n + 4,n + 3,n,n + 1]→c ∈ zipFp n:=fun c hc=>by
   simp only [zipFp,List.mem_cons,List.not_mem_nil,or_false] at hc ⊢
   rcases hc with z | z | z | z <;> simp [z]
  refine W.done s _ _ ⟨st.1,st.2.1,st.2.2.1,st.2.2.2.1,st.2.2.2.2,p1.isList,p2.isList⟩ fun h' tk hk=>⟨rfl,?_⟩
  exact I.turnedL hk fun c hc=>hf c (hsub c hc)
 self:=fun _ _ _ _ _ st h=>wpAny_pyIter_zip st.1 h
section
variable {X : Cx} {elts : List Expr} {k : Nat} {tpos : Pos}
def iZipL (K : PySem.W.Frag) (ta : TA) : TI:=fun σ H R=>ta σ H fun vs H1=>∃ a b,vs = [.ref a,.ref b]∧(∃ xs,SqL K H1 a xs)∧(∃ ys,SqL K H1 b ys)∧R (ItZl K a b) H1
theorem pi_zipL {e1 e2 : Expr} {ta : TA} {p pos : Pos} (hg : Gl X "zip") (hm : X.mg "zip" = none) (ha : PA X [e1,e2] ta) (hs : starEach [e1,e2] X.env = (false,eval e1 X.env) :: starEach [e2] X.env:=by rfl) (hs2 : ∀ pos,(backTo pos (starEach [e2] X.env)).any (·.1) = false:=by intro _; rfl) :
  PI X (.Tuple elts k tpos) (.Call (.Name "zip" p) [e1,e2] [] pos) (iZipL X.K ta):=by
 intro pins s σ H R I h
 refine Call_ (ld_blt I hg hm boot_zip (PyProof.Rows.callWith_type1 (thn (ha pos pins s σ H _ I h) fun us s1 ⟨vs,H1,I1,r1,q1⟩=>?_) hs (hs2 _)))
 obtain ⟨a,b,e,⟨xs,hq1⟩,⟨ys,hq2⟩,q⟩:=q1
 subst e
 cases r1 with
 | cons ra rr =>
 cases rr with
 | cons rb rr =>
  cases rr
  cases ra
  cases rb
  obtain ⟨its1,rv1,p1,hz1⟩:=I1.list hq1
  obtain ⟨its2,rv2,p2,hz2⟩:=I1.list hq2
  have la : a < s1.heap.objs.size:=by obtain ⟨o,ho,_⟩:=p1.isList; exact Heap.lt_size ho
  have lb : b < s1.heap.objs.size:=by obtain ⟨o,ho,_⟩:=p2.isList; exact Heap.lt_size ho
  refine call_zip_2 p1.isList p2.isList fun h' z1 z2 z3 z4 z5 z6 hk=>?_
  have I2 : Inv X pins σ H1 { s1 with heap:=h' }:=I1.kept (t':=s1.toks) hk
  refine wpAny_pyIter_zip z1 ⟨s1.heap.objs.size + 4,zipFp s1.heap.objs.size,_,_,H1,rfl,I2,turn_zipL s1.heap.objs.size a b la lb,⟨z1,z2,⟨_,_,z3⟩,z4,z5⟩,fun c hc=>?_,q⟩
  have hc' : s1.heap.objs.size ≤ c:=by
   simp only [zipFp,List.mem_cons,List.not_mem_nil,or_false] at hc
   rcases hc with z | z | z | z | z <;> rw [z] <;> first | exact Nat.le_refl _ | exact Nat.le_add_right _ _
  exact I1.fpOk hc' (I1.hok.fresh hc')
end
theorem for_zipL {K : PySem.W.Frag} {a b : Addr} {xs ys : List V} {g : TG} {tb : TS} {D : Ends} {σ : St} {H : Hp} (Pv : Nat→St→Hp→Prop) (hlen : xs.length = ys.length) (h0 : Pv 0 σ H) (hl : ∀ i σ H,i ≤ xs.length→Pv i σ H→SqL K H a xs∧SqL K H b ys)
  (hs : ∀ i x y p σ H,xs[i]? = some x→ys[i]? = some y→Pv i σ H→H p = none→g (.ref p) σ (upd H p (.tup [x,y])) fun σ2 H2=>tb { D with nx:=Pv (i + 1),ct:=Pv (i + 1),bk:=D.nx } σ2 H2) (hd : ∀ σ H,Pv xs.length σ H→D.nx σ H) :
  ∃ W : Nat→Nat→St→Hp→Prop,(∃ m,W 0 m σ H)∧∀ i m σ H,W i m σ H →
   ((ItZl K a b).stop i H∧D.nx σ H)∨((ItZl K a b).go i H∧∃ N : St→Hp→Prop,(∀ σ' H',N σ' H'→∃ m',m' < m∧W (i + 1) m' σ' H')∧∀ x H',(ItZl K a b).yld i H x H'→g x σ H' fun σ2 H2=>tb { D with nx:=N,ct:=N,bk:=D.nx } σ2 H2):=by
 refine ⟨fun i m σ H=>m = xs.length - i∧i ≤ xs.length∧Pv i σ H,⟨xs.length,by simp,Nat.zero_le _,h0⟩,?_⟩
 rintro i m σ H ⟨rfl,hi,p⟩
 have q:=hl i σ H hi p
 by_cases hlt : i < xs.length
 ·have hlt2 : i < ys.length:=by omega
  refine .inr ⟨⟨xs,ys,xs[i],ys[i],q.1,q.2,by simp [hlt],by simp [hlt2]⟩,Pv (i + 1),fun σ' H' p'=>⟨xs.length - (i + 1),by omega,rfl,hlt,p'⟩,fun x H' y=>?_⟩
  obtain ⟨pp,u,v,y1,y2,hn,e1,e2⟩:=y
  subst e1 e2
  exact hs i u v pp σ _ (y1 xs q.1) (y2 ys q.2) p hn
 ·have e : i = xs.length:=by omega
  subst e
  exact .inl ⟨⟨xs,ys,q.1,q.2,rfl,hlen.symm⟩,hd σ H p⟩
end L2
set_option Elab.async false
set_option linter.all false
set_option maxRecDepth 100000
set_option maxHeartbeats 16000000
namespace L2
open PySem PySem.Spec PyProof.Rows
inductive Pr where
 | own (k n : Str) (xs : List Int)
 | bring (j : Nat) (ps : List (Str × Str)) (xs : List Int)
 | give (o g : Str) (xs : List Int)
 | ask (j : Nat) (xs : List Int)
 | sum (k : Str) (xs : List Int)
structure Pp where
 rows : List Pr
 owns : List Str
 gives : List Str
 sh : Int
def XsAt (H : Hp) (F : Addr→Prop) (x : Addr) (xs : List Int) : Prop:=H x = some (.lst (xs.map V.int))∧¬ F x
def PrAt (H : Hp) (F : Addr→Prop) (v : V) : Pr→Prop
 | .own k n xs=>∃ t x,v = .ref t∧H t = some (.tup [.str k,.str n,.ref x])∧XsAt H F x xs
 | .bring j ps xs=>∃ t u q x,v = .ref t∧H t = some (.tup [.str "bring",.ref u,.ref x])∧H u = some (.tup [.int j,.ref q])∧PairsAt H q ps∧XsAt H F x xs
 | .give o g xs=>∃ t u x,v = .ref t∧H t = some (.tup [.str "give",.ref u,.ref x])∧H u = some (.tup [.str o,.str g])∧XsAt H F x xs
 | .ask j xs=>∃ t x,v = .ref t∧H t = some (.tup [.str "ask",.int j,.ref x])∧XsAt H F x xs
 | .sum k xs=>∃ t x,v = .ref t∧H t = some (.tup [.str k,.non,.ref x])∧XsAt H F x xs
theorem PrAt.keep {H H' : Hp} {F F' : Addr→Prop} (ht : Tups H H') (hk : ∀ x xs,¬ F x→H x = some (.lst xs)→H' x = some (.lst xs)∧¬ F' x) {v : V} {pr : Pr} (h : PrAt H F v pr) : PrAt H' F' v pr:=by
 have X : ∀ {x xs},XsAt H F x xs→XsAt H' F' x xs:=fun {x xs} z=>hk x _ z.2 z.1
 cases pr with
 | own k n xs=>obtain ⟨t,x,e,h1,h2⟩:=h; exact ⟨t,x,e,ht _ _ h1,X h2⟩
 | bring j ps xs=>obtain ⟨t,u,q,x,e,h1,h2,h3,h4⟩:=h; exact ⟨t,u,q,x,e,ht _ _ h1,ht _ _ h2,h3.mono ht,X h4⟩
 | give o g xs=>obtain ⟨t,u,x,e,h1,h2,h3⟩:=h; exact ⟨t,u,x,e,ht _ _ h1,ht _ _ h2,X h3⟩
 | ask j xs=>obtain ⟨t,x,e,h1,h2⟩:=h; exact ⟨t,x,e,ht _ _ h1,X h2⟩
 | sum k xs=>obtain ⟨t,x,e,h1,h2⟩:=h; exact ⟨t,x,e,ht _ _ h1,X h2⟩
structure Q4 where
 p : Addr
 r : Addr
 o : Addr
 g : Addr
def Q4.nth (q : Q4) : Nat→Addr
 | 0=>q.p
 | 1=>q.r
 | 2=>q.o
 | _=>q.g
def inH (l : Addr) (A : List Q4) (ex : List Addr) (a : Addr) : Prop:=a = l∨a ∈ ex∨∃ (i : Nat) (q : Q4) (x : Nat),A[i]? = some q∧x < 4∧q.nth x = a
structure PpAt (H : Hp) (F : Addr→Prop) (q : Q4) (pp : Pp) : Prop where
 p : H q.p = some (.lst [.ref q.r,.ref q.o,.ref q.g,.int pp.sh])
 r : ∃ vs,H q.r = some (.lst vs)∧Paired (PrAt H F) vs pp.rows
 o : H q.o = some (.lst (pp.owns.map V.str))
 g : H q.g = some (.lst (pp.gives.map V.str))
structure HouseAt (H : Hp) (l : Addr) (A : List Q4) (ex : List Addr) (hs : List Pp) : Prop where
 ll : H l = some (.lst (A.map fun q=>V.ref q.p))
 len : A.length = hs.length
 pt : ∀ (i : Nat) (q : Q4) (pp : Pp),A[i]? = some q→hs[i]? = some pp→PpAt H (inH l A ex) q pp
 nl : ∀ (i : Nat) (q : Q4) (x : Nat),A[i]? = some q→x < 4→q.nth x ≠ l
 xl : ∀ d ∈ ex,d ≠ l∧∀ (i : Nat) (q : Q4) (x : Nat),A[i]? = some q→x < 4→q.nth x ≠ d
 ap : ∀ (i j : Nat) (q u : Q4) (x y : Nat),A[i]? = some q→A[j]? = some u→x < 4→y < 4→q.nth x = u.nth y→i = j∧x = y
theorem PpAt.keep {H H' : Hp} {F : Addr→Prop} {q : Q4} {pp : Pp} (ht : Tups H H') (hk : ∀ x xs,¬ F x→H x = some (.lst xs)→H' x = some (.lst xs)) (h4 : ∀ x,x < 4→H' (q.nth x) = H (q.nth x)) (h : PpAt H F q pp) : PpAt H' F q pp where
 p:=(h4 0 (by omega)).trans h.p
 r:=by
  obtain ⟨vs,h1,h2⟩:=h.r
  exact ⟨vs,(h4 1 (by omega)).trans h1,Paired.mapP h2 fun _ _ z=>z.keep ht fun x xs hx hv=>⟨hk x xs hx hv,hx⟩⟩
 o:=(h4 2 (by omega)).trans h.o
 g:=(h4 3 (by omega)).trans h.g
theorem HouseAt.same {H H' : Hp} {l : Addr} {A : List Q4} {ex : List Addr} {hs : List Pp} (h : HouseAt H l A ex hs) (s : Same H H') : HouseAt H' l A ex hs where
 ll:=s _ _ h.ll
 len:=h.len
 pt:=fun i q pp e1 e2=>by
  have z:=h.pt i q pp e1 e2
  obtain ⟨vs,h1,h2⟩:=z.r
  exact ⟨s _ _ z.p,⟨vs,s _ _ h1,Paired.mapP h2 fun _ _ y=>y.keep s.tups fun x xs hx hv=>⟨s _ _ hv,hx⟩⟩,s _ _ z.o,s _ _ z.g⟩
 nl:=h.nl
 xl:=h.xl
 ap:=h.ap
theorem HouseAt.put {H : Hp} {l : Addr} {A : List Q4} {ex : List Addr} {hs : List Pp} (h : HouseAt H l A ex hs) {i : Nat} {q : Q4} {pp pp' : Pp} {x : Nat} {vs' : List V} (e1 : A[i]? = some q) (e2 : hs[i]? = some pp) (hx : x < 4)
  (hn : ∀ H',H' = upd H (q.nth x) (.lst vs')→Tups H H'→(∀ y ys,¬ inH l A ex y→H y = some (.lst ys)→H' y = some (.lst ys))→(∀ y,y < 4→y ≠ x→H' (q.nth y) = H (q.nth y))→PpAt H' (inH l A ex) q pp') (hl : ∃ xs,H (q.nth x) = some (.lst xs)) :
  HouseAt (upd H (q.nth x) (.lst vs')) l A ex (hs.set i pp'):=by
 obtain ⟨xs,hl⟩:=hl
 have T : Tups H (upd H (q.nth x) (.lst vs')):=Tups.lst hl
 have K : ∀ y ys,¬ inH l A ex y→H y = some (.lst ys)→upd H (q.nth x) (.lst vs') y = some (.lst ys):=fun y ys hy hv=>by
  rw [upd_ne (fun z=>hy (Or.inr (Or.inr ⟨i,q,x,e1,hx,z.symm⟩)))]
  exact hv
 refine ⟨?_,by rw [List.length_set]; exact h.len,fun j u up f1 f2=>?_,h.nl,h.xl,h.ap⟩
 ·rw [upd_ne (h.nl i q x e1 hx).symm]
  exact h.ll
 ·by_cases hij : i = j
  ·subst hij
   rw [e1] at f1
   cases f1
   rw [List.getElem?_set_self ((List.getElem?_eq_some_iff.mp e2).1)] at f2
   cases f2
   refine hn _ rfl T K fun y hy hne=>?_
   rw [upd_ne (fun z=>hne (h.ap i i q q y x e1 e1 hy hx z).2)]
  ·rw [List.getElem?_set_ne hij] at f2
   refine (h.pt j u up f1 f2).keep T K fun y hy=>?_
   rw [upd_ne (fun z=>hij (h.ap j i u q y x f1 e1 hy hx z).1.symm)]
theorem HouseAt.add {H H4 : Hp} {l : Addr} {A : List Q4} {hs : List Pp} (h : HouseAt H l A [] hs) {q : Q4} {c : Int} (s : Same H H4) (hnew : ∀ x,x < 4→H (q.nth x) = none) (hdis : ∀ x y,x < 4→y < 4→q.nth x = q.nth y→x = y)
  (hp : H4 q.p = some (.lst [.ref q.r,.ref q.o,.ref q.g,.int c])) (hr : H4 q.r = some (.lst [])) (ho : H4 q.o = some (.lst [])) (hg : H4 q.g = some (.lst [])) :
  HouseAt (upd H4 l (.lst ((A.map fun q=>V.ref q.p) ++ [.ref q.p]))) l (A ++ [q]) [] (hs ++ [⟨[],[],[],c⟩]):=by
 have hql : ∀ x,x < 4→q.nth x ≠ l:=fun x hx z=>by
  have:=hnew x hx
  rw [z,h.ll] at this
  cases this
 have hqa : ∀ (i : Nat) (u : Q4) (x y : Nat),A[i]? = some u→x < 4→y < 4→u.nth y ≠ q.nth x:=fun i u x y e hx hy z=>by
  have h1:=hnew x hx
  rw [← z] at h1
  have hi:=(List.getElem?_eq_some_iff.mp e).1
  have hi2 : i < hs.length:=by rw [← h.len]; exact hi
  have e2 : hs[i]? = some hs[i]:=by simp [hi2]
  have P:=h.pt i u _ e e2
  obtain ⟨vs,r1,_⟩:=P.r
  have : y = 0∨y = 1∨y = 2∨y = 3:=by omega
  rcases this with rfl | rfl | rfl | rfl
  ·rw [show H (u.nth 0) = _ from P.p] at h1; cases h1
  ·rw [show H (u.nth 1) = _ from r1] at h1; cases h1
  ·rw [show H (u.nth 2) = _ from P.o] at h1; cases h1
  ·rw [show H (u.nth 3) = _ from P.g] at h1; cases h1
 have T : Tups H (upd H4 l (.lst ((A.map fun q=>V.ref q.p) ++ [.ref q.p]))):=s.tups.trans (Tups.lst (s _ _ h.ll))
 have hget : ∀ (i : Nat) (u : Q4),(A ++ [q])[i]? = some u→(A[i]? = some u)∨(i = A.length∧u = q):=fun i u e=>by
  by_cases hi : i < A.length
  ·rw [List.getElem?_append_left hi] at e
   exact .inl e
  ·rw [List.getElem?_append_right (by omega)] at e
   have h0 : i - A.length = 0:=by
    have:=(List.getElem?_eq_some_iff.mp e).1
    simp only [List.length_singleton] at this
    omega
   rw [h0] at e
   simp only [List.getElem?_cons_zero,Option.some.injEq] at e
   exact .inr ⟨by omega,e.symm⟩
 refine ⟨?_,by rw [List.length_append,List.length_append,h.len]; rfl,fun i u pp e1 e2=>?_,fun i u x e hx=>?_,fun d hd=>by simp at hd,fun i j u v x y e1 e2 hx hy z=>?_⟩
 ·rw [upd_same,List.map_append]; rfl
 ·rcases hget i u e1 with f1 | ⟨f1,rfl⟩
  ·have hi:=(List.getElem?_eq_some_iff.mp f1).1
   rw [List.getElem?_append_left (by rw [← h.len]; exact hi)] at e2
   have P:=h.pt i u pp f1 e2
   have hne : ∀ x,x < 4→upd H4 l (.lst ((A.map fun q=>V.ref q.p) ++ [.ref q.p])) (u.nth x) = H4 (u.nth x):=fun x hx=>upd_ne (h.nl i u x f1 hx)
   obtain ⟨vs,r1,r2⟩:=P.r
   refine ⟨(hne 0 (by omega)).trans (s _ _ P.p),⟨vs,(hne 1 (by omega)).trans (s _ _ r1),Paired.mapP r2 fun _ _ y=>y.keep T fun x xs hx hv=>⟨?_,?_⟩⟩,(hne 2 (by omega)).trans (s _ _ P.o),(hne 3 (by omega)).trans (s _ _ P.g)⟩
   ·rw [upd_ne (fun z=>hx (Or.inl z))]
    exact s _ _ hv
   ·rintro (z | z | ⟨j,v,y,g1,g2,g3⟩)
    ·exact hx (Or.inl z)
    ·simp at z
    ·rcases hget j v g1 with g1 | ⟨g1,rfl⟩
     ·exact hx (Or.inr (Or.inr ⟨j,v,y,g1,g2,g3⟩))
     ·have:=hnew y g2
      rw [g3,hv] at this
      cases this
  ·rw [f1,h.len,List.getElem?_append_right (Nat.le_refl _),Nat.sub_self] at e2
   simp only [List.getElem?_cons_zero,Option.some.injEq] at e2
   subst e2
   have hne : ∀ x,x < 4→upd H4 l (.lst ((A.map fun q=>V.ref q.p) ++ [.ref u.p])) (u.nth x) = H4 (u.nth x):=fun x hx=>upd_ne (hql x hx)
   exact ⟨(hne 0 (by omega)).trans hp,⟨[],(hne 1 (by omega)).trans hr,.nil⟩,(hne 2 (by omega)).trans ho,(hne 3 (by omega)).trans hg⟩
 ·rcases hget i u e with f1 | ⟨f1,rfl⟩
  ·exact h.nl i u x f1 hx
  ·exact hql x hx
 ·rcases hget i u e1 with f1 | ⟨f1,rfl⟩
  ·rcases hget j v e2 with g1 | ⟨g1,rfl⟩
   ·exact h.ap i j u v x y f1 g1 hx hy z
   ·exact absurd z (hqa i u y x f1 hy hx)
  ·rcases hget j v e2 with g1 | ⟨g1,rfl⟩
   ·exact absurd z.symm (hqa j v x y g1 hx hy)
   ·exact ⟨by omega,hdis x y hx hy z⟩
theorem HouseAt.there {H : Hp} {l : Addr} {A : List Q4} {ex : List Addr} {hs : List Pp} (h : HouseAt H l A ex hs) {i : Nat} {q : Q4} {x : Nat} (e : A[i]? = some q) (hx : x < 4) : ∃ xs,H (q.nth x) = some (.lst xs):=by
 have hi:=(List.getElem?_eq_some_iff.mp e).1
 have hi2 : i < hs.length:=by rw [← h.len]; exact hi
 have P:=h.pt i q hs[i] e (by simp [hi2])
 obtain ⟨vs,r1,_⟩:=P.r
 have : x = 0∨x = 1∨x = 2∨x = 3:=by omega
 rcases this with rfl | rfl | rfl | rfl
 ·exact ⟨_,P.p⟩
 ·exact ⟨_,r1⟩
 ·exact ⟨_,P.o⟩
 ·exact ⟨_,P.g⟩
theorem HouseAt.aside {H : Hp} {l d : Addr} {A : List Q4} {ex : List Addr} {hs : List Pp} (h : HouseAt H l A ex hs) (hd : H d = none) : HouseAt H l A (d :: ex) hs where
 ll:=h.ll
 len:=h.len
 pt:=fun i q pp e1 e2=>by
  have P:=h.pt i q pp e1 e2
  obtain ⟨vs,r1,r2⟩:=P.r
  refine ⟨P.p,⟨vs,r1,Paired.mapP r2 fun _ _ y=>y.keep (Tups.refl H) fun x xs hx hv=>⟨hv,?_⟩⟩,P.o,P.g⟩
  rintro (z | z | z)
  ·exact hx (Or.inl z)
  ·rcases List.mem_cons.mp z with z | z
   ·rw [z,hd] at hv; cases hv
   ·exact hx (Or.inr (Or.inl z))
  ·exact hx (Or.inr (Or.inr z))
 nl:=h.nl
 xl:=fun c hc=>by
  rcases List.mem_cons.mp hc with z | z
  ·rw [z]
   refine ⟨fun y=>?_,fun i q x e hx y=>?_⟩
   ·rw [y,h.ll] at hd; cases hd
   ·obtain ⟨xs,hxs⟩:=h.there e hx
    rw [y,hd] at hxs; cases hxs
  ·exact h.xl c z
 ap:=h.ap
theorem HouseAt.back {H : Hp} {l d : Addr} {A : List Q4} {ex : List Addr} {hs : List Pp} (h : HouseAt H l A (d :: ex) hs) : HouseAt H l A ex hs where
 ll:=h.ll
 len:=h.len
 pt:=fun i q pp e1 e2=>by
  have P:=h.pt i q pp e1 e2
  obtain ⟨vs,r1,r2⟩:=P.r
  refine ⟨P.p,⟨vs,r1,Paired.mapP r2 fun _ _ y=>y.keep (Tups.refl H) fun x xs hx hv=>⟨hv,?_⟩⟩,P.o,P.g⟩
  rintro (z | z | z)
  ·exact hx (Or.inl z)
  ·exact hx (Or.inr (Or.inl (List.mem_cons_of_mem _ z)))
  ·exact hx (Or.inr (Or.inr z))
 nl:=h.nl
 xl:=fun c hc=>h.xl c (List.mem_cons_of_mem _ hc)
 ap:=h.ap
theorem HouseAt.other {H : Hp} {l d : Addr} {A : List Q4} {ex : List Addr} {hs : List Pp} {xs ys : List V} (h : HouseAt H l A ex hs) (hd : d ∈ ex) (hx : H d = some (.lst xs)) : HouseAt (upd H d (.lst ys)) l A ex hs where
 ll:=by rw [upd_ne (h.xl d hd).1.symm]; exact h.ll
 len:=h.len
 pt:=fun i q pp e1 e2=>(h.pt i q pp e1 e2).keep (Tups.lst hx) (fun x zs hn hv=>by rw [upd_ne (fun z=>hn (Or.inr (Or.inl (by rw [z]; exact hd))))]; exact hv) fun x hx=>upd_ne ((h.xl d hd).2 i q x e1 hx)
 nl:=h.nl
 xl:=h.xl
 ap:=h.ap
end L2
set_option Elab.async false
set_option linter.all false
set_option maxRecDepth 100000
set_option maxHeartbeats 16000000
namespace L2
open PySem PySem.Spec PyProof.Rows
theorem sg_all : ∀ i : Nat,i < 36→isSg (("abcdefghijklmnopqrstuvwxyz0123456789" : Str).cps.toList.getD i 0) = true:=by decide +kernel
theorem letAt_let {i : Int} (h0 : 0 ≤ i) (h1 : i < 26) : isLet (letAt i) = true:=lets_let i.toNat (by omega)
theorem sgAt_sg {i : Int} (h0 : 0 ≤ i) (h1 : i < 36) : isSg (sgAt i) = true:=sg_all i.toNat (by omega)
theorem let_sg {c : Nat} (h : isLet c = true) : isSg c = true:=by unfold isSg; rw [h]; rfl
theorem nameOk_of {l : List Nat} {c : Nat} {r : List Nat} (e : l = c :: r) (hc : isLet c = true) (hr : ∀ x ∈ r,isSg x = true) (hl : r.length ≤ 7) : NameOk ⟨l.toArray⟩:=by
 subst e
 show (isLet c && r.all isSg && decide (r.length ≤ 7)) = true
 rw [hc,List.all_eq_true.mpr hr,decide_eq_true hl]
 rfl
theorem num24_sg : ∀ i : Nat,i < 24→(∀ c ∈ (Str.ofString (toString (i : Int))).cps.toList,isSg c = true)∧(Str.ofString (toString (i : Int))).cps.toList.length ≤ 2:=by decide +kernel
theorem nm3_sg (b k z : Int) (hb : 0 ≤ b) (hk : 0 ≤ k) : ∀ n,∀ c ∈ nm3 b k z n,isSg c = true
 | 0,c,hc=>by simp [nm3] at hc
 | n + 1,c,hc=>by
  rcases List.mem_append.mp (show c ∈ nm3 b k z n ++ [_] from hc) with h | h
  ·exact nm3_sg b k z hb hk n c h
  ·rw [List.mem_singleton.mp h]
   split
   ·exact let_sg (letAt_let (by omega) (by omega))
   ·split
    ·exact let_sg (letAt_let (by omega) (by omega))
    ·exact sgAt_sg (by omega) (by omega)
theorem nameM_ok {b k : Int} (hb : 0 ≤ b) : NameOk (nameM b k):=by
 obtain ⟨r1,r2⟩:=turnK_rng b k
 unfold nameM
 generalize turnK b k = k' at *
 have hb' : 0 ≤ b / 144:=by omega
 generalize b / 144 = b' at *
 simp only
 split
 ·refine nameOk_of (r:=List.replicate (k' % 8).toNat (letAt ((b' / 4 + k' / 8) % 26))) (c:=letAt ((b' / 4 + k' / 8) % 26)) ?_ (letAt_let (by omega) (by omega)) (fun x hx=>?_) ?_
  ·rw [show (1 + k' % 8).toNat = (k' % 8).toNat + 1 by omega,List.replicate_succ]
  ·rw [(List.mem_replicate.mp hx).2]
   exact let_sg (letAt_let (by omega) (by omega))
  ·rw [List.length_replicate]; omega
 ·split
  ·obtain ⟨d1,d2⟩:=num24_sg k'.toNat (by omega)
   rw [show ((k'.toNat : Nat) : Int) = k' by omega] at d1 d2
   have e : (⟨(List.replicate (1 + b' / 104 % 6).toNat (letAt (b' / 4 % 26))).toArray⟩ : Str) ++ Str.ofString (toString k') = ⟨(List.replicate (1 + b' / 104 % 6).toNat (letAt (b' / 4 % 26)) ++ (Str.ofString (toString k')).cps.toList).toArray⟩:=by
    show (⟨(List.replicate (1 + b' / 104 % 6).toNat (letAt (b' / 4 % 26))).toArray ++ (Str.ofString (toString k')).cps⟩ : Str) = _
    congr 1
    apply Array.toList_inj.mp
    simp
   rw [e]
   refine nameOk_of (c:=letAt (b' / 4 % 26)) (r:=List.replicate (b' / 104 % 6).toNat (letAt (b' / 4 % 26)) ++ (Str.ofString (toString k')).cps.toList) ?_ (letAt_let (by omega) (by omega)) (fun x hx=>?_) ?_
   ·rw [show (1 + b' / 104 % 6).toNat = (b' / 104 % 6).toNat + 1 by omega,List.replicate_succ]; rfl
   ·rcases List.mem_append.mp hx with h | h
    ·rw [(List.mem_replicate.mp h).2]
     exact let_sg (letAt_let (by omega) (by omega))
    ·exact d1 x h
   ·rw [List.length_append,List.length_replicate]; omega
  ·have hz : 0 < 1 + b' / 4 % 8:=by omega
   have hz8 : 1 + b' / 4 % 8 ≤ 8:=by omega
   generalize 1 + b' / 4 % 8 = z at *
   have hl:=nm3_len b' k' z z.toNat
   have hs:=nm3_sg b' k' z hb' r1 z.toNat
   have h0:=nm3_get b' k' z z.toNat 0 (by omega)
   cases e : nm3 b' k' z z.toNat with
   | nil=>rw [e] at hl; simp at hl; omega
   | cons c r =>
    rw [e] at hl hs h0
    refine nameOk_of rfl ?_ (fun x hx=>hs x (List.mem_cons_of_mem _ hx)) (by simp only [List.length_cons] at hl; omega)
    simp only [List.getElem?_cons_zero,Option.some.injEq] at h0
    rw [h0]
    split
    ·exact letAt_let (by omega) (by omega)
    ·rw [if_pos (by rfl)]
     exact letAt_let (by omega) (by omega)
def drawnN (b sh : Int) (n : Nat) : List Str:=(List.range n).map fun (j : Nat)=>nameM b (((j : Int) + sh) % 24)
theorem drawnN_len (b sh : Int) (n : Nat) : (drawnN b sh n).length = n:=by unfold drawnN; simp
theorem drawnN_succ (b sh : Int) (n : Nat) : drawnN b sh (n + 1) = drawnN b sh n ++ [nameM b (((n : Int) + sh) % 24)]:=by
 unfold drawnN; rw [List.range_succ,List.map_append]; rfl
theorem drawnN_ok {b sh : Int} {n : Nat} (hb : 0 ≤ b) : ∀ x ∈ drawnN b sh n,NameOk x:=fun x hx=>by
 obtain ⟨j,_,rfl⟩:=List.mem_map.mp hx
 exact nameM_ok hb
end L2
set_option Elab.async false
set_option linter.all false
set_option maxRecDepth 100000
set_option maxHeartbeats 16000000
namespace L2
open PySem PySem.Spec PyProof.Rows
structure Stp (P : Program) (w : World) (it src : Addr) (xs : Array Value) (I : Nat→Heap→Prop) (S : Heap→Prop) : Prop where
 item : ∀ {A : Around} {E : Value→Shared→Prop} {s : Shared} {Q : Value→Shared→Prop} {k : Nat} {x : Value},I k s.heap→S s.heap→xs[k]? = some x→(∀ h',I (k + 1) h'→Heap.SameBut it s.heap h'→Q x { s with heap:=h' })→wpAny (model P w) A (Builtin.SmallTypes.nextOf (.ref it)) Q E s
 stop : ∀ {A : Around} {E : Value→Shared→Prop} {s : Shared} {Q : Value→Shared→Prop} {k : Nat},A.handled = none→I k s.heap→S s.heap→xs[k]? = none→(∀ h' e,Heap.ExtBut it s.heap h'→(∃ o,h'.get? e = some o∧o.cls = .type "StopIteration")→E (.ref e) { s with heap:=h' })→wpAny (model P w) A (Builtin.SmallTypes.nextOf (.ref it)) Q E s
 moveI : ∀ {k : Nat} {h h' : Heap},I k h→(∀ o,h.get? it = some o→h'.get? it = some o)→I k h'
 moveS : ∀ {h h' : Heap},S h→(∀ o,h.get? src = some o→h'.get? src = some o)→S h'
 lt : ∀ {k : Nat} {h : Heap},I k h→it < h.objs.size
theorem tupIter_item {P : Program} {w : World} {A : Around} {E : Value→Shared→Prop} {s : Shared} {it t : Addr} {k : Nat} {xs : Array Value} {v : Value} {Q : Value→Shared→Prop} (hi : s.heap.IsTupleIter it t k) (hs : s.heap.IsTuple t xs) (hv : xs[k]? = some v)
  (q : ∀ h',h'.IsTupleIter it t (k + 1)→Heap.SameBut it s.heap h'→Q v { s with heap:=h' }) : wpAny (model P w) A (Builtin.SmallTypes.nextOf (.ref it)) Q E s:=by
 obtain ⟨ob,eb,cb,db⟩:=id hi
 obtain ⟨os,es,_,ns,ds⟩:=hs
 unfold Builtin.SmallTypes.nextOf
 refine wpAny_bind (wpAny_callSpecial?_slot (name:=Str.ofString "__next__") hi.typeIs F.slot_tuple_iterator_next (wpAny_call_entry F.slot_tuple_iterator_next hi.typeIs F.entry_tuple_iterator_next ?_ (F.args_tuple_iterator_next_1 _)))
 show wpAny _ _ (field (Value.ref it) 0 >>= _) _ _ s
 refine wpAny_bind (wpAny_field eb db (x:=Value.ref t) rfl ?_)
 show wpAny _ _ (ite ((Value.ref t == Value.none) = true) _ _) _ _ s
 rw [if_neg (by exact Bool.false_ne_true)]
 show wpAny _ _ (field (Value.ref it) 1 >>= _) _ _ s
 refine wpAny_bind (wpAny_field eb db (x:=Value.int k 0) rfl ?_)
 show wpAny _ _ (seqItems? (Value.ref t) >>= _) _ _ s
 refine wpAny_bind (wpAny_seqItems es ds ?_)
 simp only [hv,Int.toNat_natCast]
 refine wpAny_bind (wpAny_setField eb db (by simp) (wpAny_pure ⟨v,rfl,wpAny_pure (q _ ⟨_,Heap.get?_update_self _ eb (Obj.isFreed_of_fields (Obj.data_mapFields db _)),(Obj.cls_mapFields ..).trans cb,?_⟩ (Heap.SameBut.update ..))⟩))
 rw [Obj.data_mapFields db]
 simp [rawInt]
theorem tupIter_stop {P : Program} {w : World} {A : Around} {E : Value→Shared→Prop} {s : Shared} {it t : Addr} {k : Nat} {xs : Array Value} {Q : Value→Shared→Prop} (hA : A.handled = none) (hi : s.heap.IsTupleIter it t k) (hs : s.heap.IsTuple t xs) (hv : xs[k]? = none)
  (q : ∀ h' e,Heap.ExtBut it s.heap h'→(∃ o,h'.get? e = some o∧o.cls = .type "StopIteration")→E (.ref e) { s with heap:=h' }) : wpAny (model P w) A (Builtin.SmallTypes.nextOf (.ref it)) Q E s:=by
 obtain ⟨ob,eb,cb,db⟩:=id hi
 obtain ⟨os,es,_,ns,ds⟩:=hs
 unfold Builtin.SmallTypes.nextOf
 refine wpAny_bind (wpAny_callSpecial?_slot (name:=Str.ofString "__next__") hi.typeIs F.slot_tuple_iterator_next (wpAny_call_entry F.slot_tuple_iterator_next hi.typeIs F.entry_tuple_iterator_next ?_ (F.args_tuple_iterator_next_1 _)))
 show wpAny _ _ (field (Value.ref it) 0 >>= _) _ _ s
 refine wpAny_bind (wpAny_field eb db (x:=Value.ref t) rfl ?_)
 show wpAny _ _ (ite ((Value.ref t == Value.none) = true) _ _) _ _ s
 rw [if_neg (by exact Bool.false_ne_true)]
 show wpAny _ _ (field (Value.ref it) 1 >>= _) _ _ s
 refine wpAny_bind (wpAny_field eb db (x:=Value.int k 0) rfl ?_)
 show wpAny _ _ (seqItems? (Value.ref t) >>= _) _ _ s
 refine wpAny_bind (wpAny_seqItems es ds ?_)
 simp only [hv,Int.toNat_natCast]
 refine wpAny_bind (wpAny_rule (wpAny_bind (wpAny_setField eb db (by simp) ?_)))
 show wpAny _ _ (newExc (Value.type "StopIteration") [] >>= _) _ _ _
 refine wpAny_bind ?_
 simp only [newTuple,newExc]
 refine wpAny_bind (wpAny_newObj_type (wpAny_bind (m:=firstArgMember _ _) (wpAny_of_eq (a:=Value.none) (by first | rfl | (simp only [firstArgMember]; rfl)) (wpAny_newObj_type ?_ (by size_fits)))) (by size_fits))
 simp only [raiseNew]
 refine wpAny_bind (wpAny_handled ?_)
 first | rw [show A.in1.handled = none from hA] | rw [hA]
 exact wpAny_bind (wpAny_pure (wpAny_throw (q _ _ (((Heap.SameBut.update ..).extBut.push _).push _) ⟨_,Heap.get?_push_size _ rfl,rfl⟩)))
theorem stp_tup {P : Program} {w : World} (it t : Addr) (xs : Array Value) : Stp P w it t xs (fun k h=>h.IsTupleIter it t k) (fun h=>h.IsTuple t xs) where
 item:=fun hi hs hx q=>tupIter_item hi hs hx q
 stop:=fun hh hi hs hx q=>tupIter_stop hh hi hs hx q
 moveI:=fun hi e=>hi.at e
 moveS:=fun hs e=>hs.at e
 lt:=fun ⟨_,e,_⟩=>Heap.lt_size e
section
variable {P : Program} {w : World} {A : Around} {E : Value→Shared→Prop} {s : Shared} {z TI TO i1 i2 l1 l2 : Addr} {xs ys : Array Value} {I1 I2 : Nat→Heap→Prop} {S1 S2 : Heap→Prop}
theorem zipG_item {j k : Nat} {x y a b : Value} {Q : Value→Shared→Prop} (D : ZipApart z TI TO i1 i2 l1 l2) (F1 : Stp P w i1 l1 xs I1 S1) (F2 : Stp P w i2 l2 ys I2 S2)
  (hz : IsZip s.heap z TI TO .none) (hi : IsPair s.heap TI (.ref i1) (.ref i2)) (ho : IsPair s.heap TO a b) (a1 : I1 j s.heap) (a2 : I2 k s.heap) (g1 : S1 s.heap) (g2 : S2 s.heap) (ex : xs[j]? = some x) (ey : ys[k]? = some y)
  (q : ∀ h',IsZip h' z TI TO (rawInt s.heap.objs.size)→IsPair h' TO x y→I1 (j + 1) h'→I2 (k + 1) h'→IsPair h' s.heap.objs.size x y→(∀ c o,c ≠ z→c ≠ TO→c ≠ i1→c ≠ i2→s.heap.get? c = some o→h'.get? c = some o)→Q (.ref s.heap.objs.size) { s with heap:=h' }) :
  wpAny (model P w) A (Builtin.«zip.__next__» ⟨[.ref z],[]⟩) (fun fin s'=>∃ v,fin = .done (.ret v)∧Q v s') E s:=by
 show wpAny _ _ (field (Value.ref z) 2 >>= _) _ _ _
 refine wpAny_bind (wpAny_field hz rfl (x:=Value.bool false) rfl ?_)
 show wpAny _ _ (field (Value.ref z) 3 >>= _) _ _ _
 refine wpAny_bind (wpAny_field hz rfl (x:=Value.ref TI) rfl (wpAny_bind (wpAny_seqItems hi rfl ?_)))
 show wpAny _ _ (Builtin.SmallTypes.ownedTupleIsFree (Value.ref z) >>= _) _ _ _
 unfold Builtin.SmallTypes.ownedTupleIsFree
 refine wpAny_bind (wpAny_bind (wpAny_field hz rfl (x:=Value.none) rfl (wpAny_pure ?_)))
 simp only [if_true]
 refine wpAny_bind (wpAny_rule (wpAny_bind (wpAny_field hz rfl (x:=Value.ref TO) rfl (wpAny_bind (wpAny_setField_rec hz (by simp) fun u1 y1 e1=>?_)))))
 replace y1 : IsZip u1 z TI TO .ellipsis:=y1
 refine wpAny_bind ?_
 simp only [List.forIn_cons,List.forIn_nil,List.zipIdx_cons,List.zipIdx_nil]
 refine wpAny_bind (wpAny_bind (wpAny_onRaise ?_))
 show wpAny _ _ (Builtin.SmallTypes.nextOf (Value.ref i1) >>= _) _ _ _
 refine wpAny_bind (F1.item (F1.moveI a1 fun o e=>e1.extBut _ _ D.i1z e) (F1.moveS g1 fun o e=>e1.extBut _ _ D.l1z e) ex fun u2 b1 e2=>wpAny_pure ?_)
 have o2 : IsPair u2 TO a b:=e2.extBut _ _ D.TOi1 (e1.extBut _ _ D.TOz ho)
 refine wpAny_bind (wpAny_seqItems o2 rfl (wpAny_bind (wpAny_updateSeq_pair o2 fun u3 o3 e3=>wpAny_bind (wpAny_letGo (wpAny_pure ?_)))))
 replace o3 : IsPair u3 TO x b:=o3
 refine wpAny_bind (wpAny_bind (wpAny_onRaise ?_))
 show wpAny _ _ (Builtin.SmallTypes.nextOf (Value.ref i2) >>= _) _ _ _
 refine wpAny_bind (F2.item (F2.moveI a2 fun o e=>e3.extBut _ _ D.TOi2.symm (e2.extBut _ _ D.i12.symm (e1.extBut _ _ D.i2z e))) (F2.moveS g2 fun o e=>e3.extBut _ _ D.l2TO (e2.extBut _ _ D.l2i1 (e1.extBut _ _ D.l2z e))) ey fun u4 b2 e4=>wpAny_pure ?_)
 have o4 : IsPair u4 TO x b:=e4.extBut _ _ D.TOi2 o3
 refine wpAny_bind (wpAny_seqItems o4 rfl (wpAny_bind (wpAny_updateSeq_pair o4 fun u5 o5 e5=>wpAny_bind (wpAny_letGo (wpAny_pure (wpAny_pure ?_))))))
 replace o5 : IsPair u5 TO x y:=o5
 refine wpAny_bind (wpAny_seqItems o5 rfl (wpAny_bind (wpAny_newTuple ?_)))
 have n5 : u5.objs.size = s.heap.objs.size:=by rw [e5.1,e4.1,e3.1,e2.1,e1.1]
 have y5 : IsZip u5 z TI TO .ellipsis:=e5.extBut _ _ D.TOz.symm (e4.extBut _ _ D.i2z.symm (e3.extBut _ _ D.TOz.symm (e2.extBut _ _ D.i1z.symm y1)))
 have k5 : ∀ c o,c ≠ z→c ≠ TO→c ≠ i1→c ≠ i2→s.heap.get? c = some o→u5.get? c = some o:=fun c o d1 d2 d3 d4 e=>e5.extBut _ _ d2 (e4.extBut _ _ d4 (e3.extBut _ _ d2 (e2.extBut _ _ d3 (e1.extBut _ _ d1 e))))
 have j5 : I1 (j + 1) u5:=F1.moveI b1 fun o e=>e5.extBut _ _ D.TOi1.symm (e4.extBut _ _ D.i12 (e3.extBut _ _ D.TOi1.symm e))
 have m5 : I2 (k + 1) u5:=F2.moveI b2 fun o e=>e5.extBut _ _ D.TOi2.symm e
 have zlt : z < u5.objs.size:=Heap.lt_size y5
 show wpAny _ _ (Builtin.SmallTypes.ownedTupleHandOut (Value.ref z) (Value.ref u5.objs.size) >>= _) _ _ _
 unfold Builtin.SmallTypes.ownedTupleHandOut
 have y6 : IsZip (u5.push { cls:=.type "tuple",data:=.seq #[x,y] }) z TI TO .ellipsis:=Heap.get?_push_of_some _ y5
 refine wpAny_bind (wpAny_bind (wpAny_setField_rec y6 (by simp) fun u7 y7 e7=>?_))
 replace y7 : IsZip u7 z TI TO (rawInt u5.objs.size):=y7
 refine wpAny_setField_rec y7 (by simp) fun u8 y8 e8=>?_
 replace y8 : IsZip u8 z TI TO (rawInt u5.objs.size):=y8
 have k8 : ∀ c o,c ≠ z→u5.get? c = some o→u8.get? c = some o:=fun c o d1 e=>e8.extBut _ _ d1 (e7.extBut _ _ d1 (Heap.get?_push_of_some _ e))
 have t8 : IsPair u8 u5.objs.size x y:=e8.extBut _ _ (Nat.ne_of_gt zlt) (e7.extBut _ _ (Nat.ne_of_gt zlt) (Heap.get?_push_size _ rfl))
 rw [n5] at y8 t8
 refine wpAny_pure ⟨_,rfl,?_⟩
 show Q (Value.ref u5.objs.size) _
 rw [n5]
 exact q u8 y8 (k8 _ _ D.TOz o5) (F1.moveI j5 fun o e=>k8 _ o D.i1z e) (F2.moveI m5 fun o e=>k8 _ o D.i2z e) t8 fun c o d1 d2 d3 d4 e=>k8 c o d1 (k5 c o d1 d2 d3 d4 e)
theorem zipG_stop {j k : Nat} {a b : Value} {Q : Fin→Shared→Prop} (hA : A.handled = none) (D : ZipApart z TI TO i1 i2 l1 l2) (F1 : Stp P w i1 l1 xs I1 S1) (F2 : Stp P w i2 l2 ys I2 S2)
  (hz : IsZip s.heap z TI TO .none) (hi : IsPair s.heap TI (.ref i1) (.ref i2)) (ho : IsPair s.heap TO a b) (a1 : I1 j s.heap) (a2 : I2 k s.heap) (g1 : S1 s.heap) (g2 : S2 s.heap) (en : xs[j]? = none)
  (q : ∀ h' e,(∀ c o,c ≠ z→c ≠ TO→c ≠ i1→c ≠ i2→s.heap.get? c = some o→h'.get? c = some o)→(∃ o,h'.get? e = some o∧o.cls = .type "StopIteration")→E (.ref e) { s with heap:=h' }) :
  wpAny (model P w) A (Builtin.«zip.__next__» ⟨[.ref z],[]⟩) Q E s:=by
 show wpAny _ _ (field (Value.ref z) 2 >>= _) _ _ _
 refine wpAny_bind (wpAny_field hz rfl (x:=Value.bool false) rfl ?_)
 show wpAny _ _ (field (Value.ref z) 3 >>= _) _ _ _
 refine wpAny_bind (wpAny_field hz rfl (x:=Value.ref TI) rfl (wpAny_bind (wpAny_seqItems hi rfl ?_)))
 show wpAny _ _ (Builtin.SmallTypes.ownedTupleIsFree (Value.ref z) >>= _) _ _ _
 unfold Builtin.SmallTypes.ownedTupleIsFree
 refine wpAny_bind (wpAny_bind (wpAny_field hz rfl (x:=Value.none) rfl (wpAny_pure ?_)))
 simp only [if_true]
 refine wpAny_bind (wpAny_rule (wpAny_bind (wpAny_field hz rfl (x:=Value.ref TO) rfl (wpAny_bind (wpAny_setField_rec hz (by simp) fun u1 y1 e1=>?_)))))
 replace y1 : IsZip u1 z TI TO .ellipsis:=y1
 refine wpAny_bind ?_
 simp only [List.forIn_cons,List.forIn_nil,List.zipIdx_cons,List.zipIdx_nil]
 refine wpAny_bind (wpAny_bind (wpAny_onRaise ?_))
 show wpAny _ _ (Builtin.SmallTypes.nextOf (Value.ref i1) >>= _) _ _ _
 refine wpAny_bind (F1.stop hA (F1.moveI a1 fun o e=>e1.extBut _ _ D.i1z e) (F1.moveS g1 fun o e=>e1.extBut _ _ D.l1z e) en fun u2 ev e2 hev=>?_)
 obtain ⟨oe,hoe,hce⟩:=hev
 have y2 : IsZip u2 z TI TO .ellipsis:=e2 _ _ D.i1z.symm y1
 have nez : ev ≠ z:=fun c=>by
  subst c
  rw [y2] at hoe
  cases hoe
  simp at hce
 exact wpAny_setField_rec y2 (by simp) fun u3 _ e3=>q u3 ev (fun c o d1 _ d3 _ e=>e3.extBut _ _ d1 (e2 _ _ d3 (e1.extBut _ _ d1 e))) ⟨oe,e3.extBut _ _ nez hoe,hce⟩
theorem nextZ_item {j k : Nat} {x y a b : Value} {Q : Option Value→Shared→Prop} (D : ZipApart z TI TO i1 i2 l1 l2) (F1 : Stp P w i1 l1 xs I1 S1) (F2 : Stp P w i2 l2 ys I2 S2)
  (hz : IsZip s.heap z TI TO .none) (hi : IsPair s.heap TI (.ref i1) (.ref i2)) (ho : IsPair s.heap TO a b) (a1 : I1 j s.heap) (a2 : I2 k s.heap) (g1 : S1 s.heap) (g2 : S2 s.heap) (ex : xs[j]? = some x) (ey : ys[k]? = some y)
  (q : ∀ h',IsZip h' z TI TO (rawInt s.heap.objs.size)→IsPair h' TO x y→I1 (j + 1) h'→I2 (k + 1) h'→IsPair h' s.heap.objs.size x y→(∀ c o,c ≠ z→c ≠ TO→c ≠ i1→c ≠ i2→s.heap.get? c = some o→h'.get? c = some o)→Q (some (.ref s.heap.objs.size)) { s with heap:=h' }) :
  wpAny (model P w) A (pyNext (.ref z)) Q E s:=by
 have ty : s.TypeIs (.ref z) "zip" := ⟨_,hz,rfl⟩
 unfold pyNext
 exact wpAny_bind (wpAny_attempt (wpAny_callSpecial?_slot (name:=Str.ofString "__next__") ty F.slot_zip_next (wpAny_call_entry F.slot_zip_next ty F.entry_zip_next (zipG_item D F1 F2 hz hi ho a1 a2 g1 g2 ex ey fun h' c1 c2 c3 c4 c5 c6=>wpAny_pure (q h' c1 c2 c3 c4 c5 c6)) (F.args_zip_next_1 _))))
theorem nextZ_stop {j k : Nat} {a b : Value} {Q : Option Value→Shared→Prop} (hA : A.handled = none) (D : ZipApart z TI TO i1 i2 l1 l2) (F1 : Stp P w i1 l1 xs I1 S1) (F2 : Stp P w i2 l2 ys I2 S2)
  (hz : IsZip s.heap z TI TO .none) (hi : IsPair s.heap TI (.ref i1) (.ref i2)) (ho : IsPair s.heap TO a b) (a1 : I1 j s.heap) (a2 : I2 k s.heap) (g1 : S1 s.heap) (g2 : S2 s.heap) (en : xs[j]? = none)
  (q : ∀ h',(∀ c o,c ≠ z→c ≠ TO→c ≠ i1→c ≠ i2→s.heap.get? c = some o→h'.get? c = some o)→Q none { s with heap:=h' }) : wpAny (model P w) A (pyNext (.ref z)) Q E s:=by
 have ty : s.TypeIs (.ref z) "zip" := ⟨_,hz,rfl⟩
 unfold pyNext
 refine wpAny_bind (wpAny_attempt (wpAny_callSpecial?_slot (name:=Str.ofString "__next__") ty F.slot_zip_next (wpAny_call_entry F.slot_zip_next ty F.entry_zip_next (zipG_stop hA D F1 F2 hz hi ho a1 a2 g1 g2 en fun h' ev hk hev=>?_) (F.args_zip_next_1 _))))
 obtain ⟨oe,hoe,hce⟩:=hev
 exact wpAny_bind (wpAny_isInstance (T := "StopIteration") (b:=true) ⟨oe,hoe,hce⟩ isSubtype_stop (wpAny_pure (q _ hk)))
end
theorem wr_sub {n c : Addr} (hc : c ∈ [n + 4,n + 3,n,n + 1]) : c ∈ zipFp n:=by
 simp only [zipFp,List.mem_cons,List.not_mem_nil,or_false] at hc ⊢
 rcases hc with z | z | z | z <;> simp [z]
theorem wr_not {n c : Addr} (hc : c ∉ [n + 4,n + 3,n,n + 1]) : c ≠ n + 4∧c ≠ n + 3∧c ≠ n∧c ≠ n + 1:=by
 simp only [List.mem_cons,List.not_mem_nil,or_false,not_or] at hc
 exact hc
section
variable {X : Cx} {elts : List Expr} {k : Nat} {tpos : Pos}
end
end L2
set_option Elab.async false
set_option linter.all false
set_option maxRecDepth 100000
set_option maxHeartbeats 16000000
namespace L2
open PySem PySem.Spec PyProof.Rows PySem.W
def RawAt (h : Heap) (d : Addr) (es : Array DictEntry) (ep : Nat) : Prop:=∃ o,h.get? d = some o∧o.ExactDict∧o.data = .dict es ep
theorem RawAt.move {h h' : Heap} {d : Addr} {es : Array DictEntry} {ep : Nat} (r : RawAt h d es ep) (k : ∀ o,h.get? d = some o→h'.get? d = some o) : RawAt h' d es ep:=by
 obtain ⟨ob,e,c⟩:=r
 exact ⟨ob,k ob e,c⟩
theorem RawAt.lt {h : Heap} {d : Addr} {es : Array DictEntry} {ep : Nat} (r : RawAt h d es ep) : d < h.objs.size:=by
 obtain ⟨ob,e,_⟩:=r
 exact Heap.lt_size e
section
variable {P : Program} {w : World} {A : Around} {E : Value→Shared→Prop} {s : Shared} {d : Addr} {es : Array DictEntry} {ep : Nat}
theorem RawAt.ty (r : RawAt s.heap d es ep) : s.TypeIs (.ref d) "dict" := by
 obtain ⟨ob,e,c,_⟩:=r
 exact ⟨ob,e,c.1⟩
theorem raw_iter {Q : Value→Shared→Prop} (lo : (d == sysModules) = false) (r : RawAt s.heap d es ep)
  (q : Q (.ref s.heap.objs.size) { s with heap:=s.heap.push { cls:=.type "dict_keyiterator",data:=.fields #[.ref d,.int 0 0,.int es.size 0,.int ep 0] } }) : wpAny (model P w) A (pyIter (.ref d)) Q E s:=by
 have ty:=r.ty
 obtain ⟨ob,eb,cb,db⟩:=r
 refine wpAny_pyIter_slot ty F.slot_dict_iter (wpAny_call_entry F.slot_dict_iter ty F.entry_dict_iter ?_ (F.args_dict_iter_1 _))
 unfold Builtin.«dict.__iter__» Builtin.Dict.dictSlotNone
 refine wpAny_bind (wpAny_bind (wpAny_notOrdered_dict ty ?_))
 show wpAny _ _ (pure (Value.ref d)) _ _ s
 refine wpAny_pure ?_
 show wpAny _ _ (Builtin.Dict.showsAll d >>= _) _ _ s
 unfold Builtin.Dict.showsAll
 rw [if_neg (fun z=>by rw [lo] at z; exact Bool.false_ne_true z)]
 refine wpAny_bind (wpAny_pure (wpAny_bind (wpAny_dictEntries eb db (wpAny_bind (wpAny_dictEpoch eb db ?_)))))
 refine wpAny_bind (wpAny_newObj_type (wpAny_pure ⟨_,rfl, "dict_keyiterator",_,⟨_,Heap.get?_push_size _ rfl,rfl⟩,F.slot_dict_keyiterator_next.lookup,?_⟩))
 simpa [rawInt] using q
theorem raw_item {it : Addr} {i : Nat} {e : DictEntry} {Q : Option Value→Shared→Prop} (hi : s.heap.IsKeyIter it d i es.size ep) (r : RawAt s.heap d es ep) (he : es[i]? = some e)
  (q : ∀ h',h'.IsKeyIter it d (i + 1) es.size ep→Heap.SameBut it s.heap h'→Q (some e.key) { s with heap:=h' }) : wpAny (model P w) A (pyNext (.ref it)) Q E s:=by
 obtain ⟨oi,ei,ci,di⟩:=id hi
 obtain ⟨ob,eb,cb,db⟩:=r
 unfold pyNext
 refine wpAny_bind (wpAny_attempt (wpAny_callSpecial?_slot (name:=Str.ofString "__next__") hi.typeIs F.slot_dict_keyiterator_next (wpAny_call_entry F.slot_dict_keyiterator_next hi.typeIs F.entry_dict_keyiterator_next ?_ (F.args_dict_keyiterator_next_1 _))))
 refine wpAny_bind (wpAny_pure (wpAny_bind (wpAny_bind ?_)))
 first | refine wpAny_bind (wpAny_typeNameOfWhole_keyiter hi.typeIs (wpAny_pure (wpAny_bind (wpAny_fieldsOf ei di ?_)))) | refine wpAny_bind (wpAny_typeNameOf_keyiter hi.typeIs (wpAny_pure (wpAny_bind (wpAny_fieldsOf ei di ?_))))
 simp only [show Builtin.Dict_items.ownsTuple "dict_keyiterator" = false by decide,Bool.false_eq_true,if_false]
 show wpAny _ _ (ite ((Value.ref d == Value.none) = true) _ _) _ _ s
 rw [if_neg (by exact Bool.false_ne_true)]
 refine wpAny_bind (wpAny_pure (wpAny_bind (wpAny_dictEntries eb db ?_)))
 rw [if_neg (by simp)]
 refine wpAny_bind (wpAny_pure (wpAny_bind (wpAny_dictEpoch eb db ?_)))
 rw [if_neg (by simp)]
 refine wpAny_pure ?_
 simp only [show ¬ ((i : Int) < 0) from by omega,if_false,Int.toNat_natCast,he]
 refine wpAny_bind ?_
 first | refine wpAny_bind (wpAny_typeNameOfWhole_keyiter hi.typeIs (wpAny_pure (wpAny_bind (wpAny_isOneOf_keyiter hi.typeIs ?_)))) | refine wpAny_bind (wpAny_typeNameOf_keyiter hi.typeIs (wpAny_pure (wpAny_bind (wpAny_isOneOf_keyiter hi.typeIs ?_))))
 show wpAny _ _ (setField (Value.ref it) 1 (rawInt ((i : Int) + 1)) >>= _) _ _ s
 refine wpAny_bind (wpAny_setField ei di (by simp) ?_)
 have hi2 : (s.heap.update it (Obj.mapFields (·.setIfInBounds 1 (rawInt ((i : Int) + 1))))).IsKeyIter it d (i + 1) es.size ep:=⟨_,Heap.get?_update_self _ ei (Obj.isFreed_of_fields (Obj.data_mapFields di _)),(Obj.cls_mapFields ..).trans ci,by
  rw [Obj.data_mapFields di]
  simp [rawInt]⟩
 refine wpAny_bind (wpAny_holding (wpAny_bind (wpAny_isOneOf_keyiter (s:={ s with heap:=s.heap.update it (Obj.mapFields (·.setIfInBounds 1 (rawInt ((i : Int) + 1)))) }) hi2.typeIs ?_)))
 show wpAny _ _ (pure e.key) _ _ _
 exact wpAny_pure (wpAny_pure ⟨_,rfl,wpAny_pure (q _ hi2 (Heap.SameBut.update ..))⟩)
theorem raw_stop {it : Addr} {i : Nat} {Q : Option Value→Shared→Prop} (hA : A.handled = none) (hi : s.heap.IsKeyIter it d i es.size ep) (r : RawAt s.heap d es ep) (he : es[i]? = none)
  (q : ∀ h',Heap.ExtBut it s.heap h'→Q none { s with heap:=h' }) : wpAny (model P w) A (pyNext (.ref it)) Q E s:=by
 obtain ⟨oi,ei,ci,di⟩:=id hi
 obtain ⟨ob,eb,cb,db⟩:=r
 unfold pyNext
 refine wpAny_bind (wpAny_attempt (wpAny_callSpecial?_slot (name:=Str.ofString "__next__") hi.typeIs F.slot_dict_keyiterator_next (wpAny_call_entry F.slot_dict_keyiterator_next hi.typeIs F.entry_dict_keyiterator_next ?_ (F.args_dict_keyiterator_next_1 _))))
 refine wpAny_bind (wpAny_pure (wpAny_bind (wpAny_bind ?_)))
 first | refine wpAny_bind (wpAny_typeNameOfWhole_keyiter hi.typeIs (wpAny_pure (wpAny_bind (wpAny_fieldsOf ei di ?_)))) | refine wpAny_bind (wpAny_typeNameOf_keyiter hi.typeIs (wpAny_pure (wpAny_bind (wpAny_fieldsOf ei di ?_))))
 simp only [show Builtin.Dict_items.ownsTuple "dict_keyiterator" = false by decide,Bool.false_eq_true,if_false]
 show wpAny _ _ (ite ((Value.ref d == Value.none) = true) _ _) _ _ s
 rw [if_neg (by exact Bool.false_ne_true)]
 refine wpAny_bind (wpAny_pure (wpAny_bind (wpAny_dictEntries eb db ?_)))
 rw [if_neg (by simp)]
 refine wpAny_bind (wpAny_pure (wpAny_bind (wpAny_dictEpoch eb db ?_)))
 rw [if_neg (by simp)]
 refine wpAny_pure ?_
 simp only [show ¬ ((i : Int) < 0) from by omega,if_false,Int.toNat_natCast,he]
 refine wpAny_bind ?_
 first | refine wpAny_bind (wpAny_typeNameOfWhole_keyiter hi.typeIs (wpAny_pure ?_)) | refine wpAny_bind (wpAny_typeNameOf_keyiter hi.typeIs (wpAny_pure ?_))
 show wpAny _ _ (setField (Value.ref it) 0 .none >>= _) _ _ s
 refine wpAny_bind (wpAny_setField ei di (by simp) ?_)
 show wpAny _ _ (newExc (Value.type "StopIteration") [] >>= _) _ _ _
 refine wpAny_bind ?_
 simp only [newTuple,newExc]
 refine wpAny_bind (wpAny_newObj_type (wpAny_bind (m:=firstArgMember _ _) (wpAny_of_eq (a:=Value.none) (by first | rfl | (simp only [firstArgMember]; rfl)) (wpAny_newObj_type ?_ (by size_fits)))) (by size_fits))
 simp only [raiseNew]
 refine wpAny_bind (wpAny_handled ?_)
 rw [show A.in1.handled = none from hA]
 refine wpAny_bind (wpAny_pure (wpAny_throw ?_))
 exact wpAny_bind (wpAny_isInstance (T := "StopIteration") (b:=true) ⟨_,Heap.get?_push_size _ rfl,rfl⟩ isSubtype_stop (wpAny_pure (q _ (((Heap.SameBut.update ..).extBut.push _).push _))))
theorem walks_raw (hA : A.handled = none) (I : Addr) (hne : d ≠ I) : Walks P w A I [I,d] [I] es.size (fun i v=>∃ e,es[i]? = some e∧v = e.key) (fun i h=>h.IsKeyIter I d i es.size ep∧RawAt h d es ep) where
 sub:=fun b hb=>by
  have e : b = I:=by simpa using hb
  simp [e]
 frame:=fun _ _ _ st k=>⟨st.1.at fun o e=>k I (by simp) o e,st.2.move fun o e=>k d (by simp) o e⟩
 item:=fun i s Q E hlt st q=>by
  refine raw_item st.1 st.2 (e:=es[i]) (by simp [hlt]) fun h' k1 k2=>?_
  exact q _ h' s.toks ⟨es[i],by simp [hlt],rfl⟩ ⟨k1,st.2.move fun o e=>k2.extBut _ o hne e⟩ fun b o hb e=>k2.extBut b o (fun z=>hb (by simp [z])) e
 done:=fun s Q E st q=>raw_stop hA st.1 st.2 (by simp) fun h' k=>q h' s.toks fun b o hb e=>k b o (fun z=>hb (by simp [z])) e
 self:=fun _ _ _ _ st q=>wpAny_pyIter_keyiter st.1 q
theorem src_raw (lo : (d == sysModules) = false) : KdlSrc P w "dict" d d es.size (fun i v=>∃ e,es[i]? = some e∧v = e.key) (fun h=>RawAt h d es ep) where
 type:=fun s r=>r.ty
 there:=fun _ r=>⟨r.lt,r.lt⟩
 keep:=fun _ _ r k=>r.move fun o e=>k d (.inl rfl) o e
 notList:=by decide
 notTuple:=by decide
 hint:=fun _ _ s _ r q=>kdl_hint_dict r.ty q
 iter:=fun _ s hA r=>⟨_,_,(fun _ _ q=>raw_iter lo r q),walks_raw hA _ (Nat.ne_of_lt r.lt),⟨⟨_,Heap.get?_push_size _ rfl,rfl,rfl⟩,r.move fun o e=>Heap.get?_push_of_some _ e⟩⟩
end
def KeyAt (H : Hp) (v : V) (kv : List Key × V) : Prop:=∃ b,v = .ref b∧H b = some (.tup (kv.1.map kV))
theorem vals_raw {P : Program} {w : World} {H : Hp} {knd : HeapKind P w (List Key)} : ∀ {kvs : List (List Key × V)} {xs : List (List Key × Addr × Value)} {us : List Value},KT H kvs xs→us.length = xs.length→(∀ (j : Nat) (u : Value),us[j]? = some u→∃ e,(xs.map (entryOfKey knd))[j]? = some e∧u = e.key)→∃ vs,Vals vs us∧Paired (KeyAt H) vs kvs
 | _,_,[],.nil,_,_=>⟨[],.nil,.nil⟩
 | _,_,_ :: _,.nil,hl,_=>by simp at hl
 | _,_,[],.cons _ _,hl,_=>by simp at hl
 | _,_,u :: us,.cons (a:=p) (b:=q) h hr,hl,hv=>by
  obtain ⟨e,he,hu⟩:=hv 0 u rfl
  simp only [List.map_cons,List.getElem?_cons_zero,Option.some.injEq] at he
  obtain ⟨vs,h1,h2⟩:=vals_raw (knd:=knd) hr (by simpa using hl) fun j v hj=>by simpa using hv (j + 1) v (by simpa using hj)
  refine ⟨.ref q.2.1 :: vs,.cons ?_ h1,.cons ⟨q.2.1,rfl,h.2.1⟩ h2⟩
  rw [hu,← he]
  rfl
section
variable {X : Cx}
theorem call_listT (hc : X.calm = true) : CallR X (.type "list") (fun xs H Q=>∃ a kvs,xs = [.ref a]∧Rd H a (.dT kvs)∧∀ l vs,H l = none→Paired (KeyAt H) vs kvs→Q (.ref l) (upd H l (.lst vs))):=by
 intro pins s σ H xs us Q I r h
 obtain ⟨a,kvs,rfl,ha,q⟩:=h
 obtain ⟨u,rfl,ru⟩:=vals1 r
 cases ru
 obtain ⟨z,lo,ts,rel,o,es,ep,h1,h2,h3,h4,_⟩:=dt_rd I.hok ha
 have hl : kvs.length = ts.length:=Paired.length rel
 have hes : es.size = ts.length:=by rw [← Array.length_toList,h4,List.length_map]
 refine kdl_call (src_raw (es:=es) (ep:=ep) lo) (I.ok.hd hc) ⟨o,h1,h2,h3⟩ (by omega) fun h' tk acc c hk hS hacc=>?_
 obtain ⟨vs,v1,v2⟩:=vals_raw (us:=acc.toList) rel (by rw [Array.length_toList,hacc.1,hes]) fun j u e=>by
  obtain ⟨e',he',hu⟩:=hacc.2 j u (by rw [← Array.getElem?_toList]; exact e)
  refine ⟨e',?_,hu⟩
  rw [← h4,Array.getElem?_toList]
  exact he'
 exact ⟨.ref s.heap.objs.size,_,I.laid (t':=tk) hk (Nat.le_refl _) (show ObjOk X.prog X.w _ h' _ (.lst vs) from ⟨by rw [v1.length,Array.length_toList,hacc.1]; omega,acc.toList,c,v1,by simpa using hS⟩),rfl,q _ vs (I.hok.fresh (Nat.le_refl _)) v2⟩
end
end L2
set_option Elab.async false
set_option linter.all false
set_option maxRecDepth 100000
set_option maxHeartbeats 16000000
namespace L2
open PySem PySem.Spec PyProof.Rows
section
variable {X : Cx}
end
end L2
set_option Elab.async false
set_option linter.all false
set_option maxRecDepth 100000
set_option maxHeartbeats 16000000
namespace L2
open PySem PySem.Spec PyProof.Rows PySem.W
section
variable {X : Cx} {pins : List (Addr × Obj)} {σ : List (Option V)} {H : Hp} {s : Shared}
theorem Inv.freeze {d : Addr} {o : Obj} {u : HO} (I : Inv X pins σ H s) (h : H d = some u) (n1 : ∀ xs,u ≠ .tup xs) (n2 : ∀ o' u',u ≠ .frz o' u') (n3 : ∀ ps,u ≠ .tbl ps) (n4 : ∀ a,u ≠ .own a) (ho : s.heap.get? d = some o) : Inv X pins σ (upd H d (.frz o u)) s:=by
 have ne : ∀ {b : Addr} {v : HO},H b = some v→v ≠ u→b ≠ d:=fun {b v} e hv z=>by
  rw [z,h] at e
  exact hv (Option.some.inj e).symm
 have kt : ∀ (b : Addr) (xs : List V),H b = some (.tup xs)→upd H d (.frz o u) b = some (.tup xs):=fun b xs e=>by
  rw [upd_ne (ne e fun z=>n1 xs z.symm)]
  exact e
 have ko : ∀ (a b : Addr),H b = some (.own a)→upd H d (.frz o u) b = some (.own a):=fun a b e=>by
  rw [upd_ne (ne e fun z=>n4 a z.symm)]
  exact e
 refine I.step (h':=s.heap) (g':=s.gens) (d':=s.drawn) (t':=s.toks) (ch:=[]) (fun _ z=>nomatch z) (fun b ob _ _ _ e _=>e) (fun b ob _ _ _ e _=>⟨ob.slots,e⟩)
  (fun b ob _ _ n=>by rw [upd_ne (fun z=>by rw [z,h] at n; cases n)]; exact n) (fun b ob _ e=>⟨ob,e⟩) kt
  (fun b ob v e=>by rw [upd_ne (ne e fun z=>n2 ob v z.symm)]; exact e) (fun b ps e=>⟨#[],by rw [upd_ne (ne e fun z=>n3 ps z.symm),e]; simp⟩) (fun m hm=>hm) (fun b v e=>?_) I.bare
 by_cases hb : b = d
 ·subst hb
  rw [upd_same] at e
  cases e
  exact ⟨ho,(I.hok b u h).stay (fun c w _ q=>q) (fun c q=>ko b c q) kt⟩
 ·rw [upd_ne hb] at e
  exact (I.hok b v e).stay (fun c w _ q=>q) (fun c q=>ko b c q) kt
end
def ItD (d : Addr) (o : Obj) (u : HO) (ks : List V) : It:=⟨fun i H=>H d = some (.frz o u)∧i < ks.length,fun i H x H'=>H' = H∧ks[i]? = some x,fun i H=>H d = some (.frz o u)∧ks.length ≤ i⟩
theorem turn_dict {P : Program} {w : World} {K : PySem.W.Frag} {tg : Expr} {d it : Addr} {o : Obj} {u : HO} {ks : List V} {es : Array DictEntry} {ep : Nat} (hx : o.ExactDict) (hd : o.data = .dict es ep) (hl : ks.length = es.size) (hk : ∀ (i : Nat) (k : V),ks[i]? = some k→∃ e : DictEntry,es[i]? = some e∧RelV k e.key) :
  Turn P w K tg (ItD d o u ks) [it] it (fun i h=>h.IsKeyIter it d i es.size ep) where
 mem:=by simp
 obj:=fun i h st b hb=>by
  have z : b = it:=by simpa using hb
  subst z
  obtain ⟨oi,ei,ci,di⟩:=st
  exact ⟨oi,ei,fun v y=>by rw [di] at y; cases y⟩
 keep:=fun i h h' st kp=>st.at fun ob e=>kp it (by simp) ob e
 item:=by
  intro X hP hw hK hc i pins s σ H E I hf st hg
  subst hP hw hK
  obtain ⟨hfz,hi⟩:=hg
  have hod : s.heap.get? d = some o:=(show ObjOk X.prog X.w H s.heap d (.frz o u) from I.hok d _ hfz).1
  obtain ⟨k,hki⟩ : ∃ k,ks[i]? = some k:=⟨ks[i],by simp [hi]⟩
  obtain ⟨e,he,hr⟩:=hk i k hki
  obtain ⟨f0,f1,f2,f3,f4,f5⟩:=hf it (by simp)
  refine raw_item st ⟨o,hod,hx,hd⟩ he fun h' st' sb=>?_
  have I1 : Inv X pins σ H { s with heap:=h' }:=I.turned (t':=s.toks) (fun b ob hb e=>(sb.2 b hb).trans e) f0 f1 f3 f4 f5
  obtain ⟨oi,ei,ci,di⟩:=id st'
  exact ⟨e.key,rfl,go_of (s:={ s with heap:=h' }) ei ci di (by decide) ⟨k,H,I1,hr,⟨rfl,hki⟩,st',fun b hb=>(hf b hb).1⟩⟩
 done:=by
  intro X hP hw hK hc i pins s σ H E I hf st hg
  subst hP hw hK
  obtain ⟨hfz,hi⟩:=hg
  have hod : s.heap.get? d = some o:=(show ObjOk X.prog X.w H s.heap d (.frz o u) from I.hok d _ hfz).1
  obtain ⟨f0,f1,f2,f3,f4,f5⟩:=hf it (by simp)
  exact raw_stop (I.ok.hd hc) st ⟨o,hod,hx,hd⟩ (by simp; omega) fun h' eb=>⟨rfl,I.turned (t':=s.toks) (fun b ob hb e=>eb b ob hb e) f0 f1 f3 f4 f5⟩
 self:=fun _ _ _ _ _ st h=>wpAny_pyIter_keyiter st h
section
variable {X : Cx} {tg : Expr}
theorem keys_rawT {H : Hp} {h : Heap} {d : Addr} {kvs : List (List Key × V)} (ok : ObjOk X.prog X.w H h d (.dT kvs)) : ∃ (o : Obj) (es : Array DictEntry) (ep : Nat) (vs : List V),h.get? d = some o∧o.ExactDict∧o.data = .dict es ep∧(d == sysModules) = false∧Paired (KeyAt H) vs kvs∧vs.length = es.size∧∀ (i : Nat) (k : V),vs[i]? = some k→∃ e : DictEntry,es[i]? = some e∧RelV k e.key:=by
 obtain ⟨z,lo,xs,rel,o,es,ep,h1,h2,h3,h4,h5⟩:=ok
 have rel' : KT H kvs xs:=rel
 have l1 : kvs.length = xs.length:=Paired.length rel
 have l2 : es.size = xs.length:=by rw [← Array.length_toList,h4,List.length_map]
 have hget : ∀ i,es[i]? = (xs[i]?).map (entryOfKey (tupleKind (mixKind X.prog X.w))):=fun i=>by
  rw [← Array.getElem?_toList,h4,List.getElem?_map]
 refine ⟨o,es,ep,xs.map fun x=>V.ref x.2.1,h1,h2,h3,lo,?_,by rw [List.length_map,l2],fun i k e=>?_⟩
 ·have : ∀ {kvs : List (List Key × V)} {xs : List (List Key × Addr × Value)},KT H kvs xs→Paired (KeyAt H) (xs.map fun x=>V.ref x.2.1) kvs:=by
   intro kvs xs r
   induction r with
   | nil=>exact .nil
   | cons a _ ih=>exact .cons ⟨_,rfl,a.2.1⟩ ih
  exact this rel'
 ·rw [List.getElem?_map] at e
  cases hx : xs[i]? with
  | none=>rw [hx] at e; cases e
  | some x =>
   rw [hx] at e
   have ek : V.ref x.2.1 = k:=Option.some.inj e
   refine ⟨entryOfKey (tupleKind (mixKind X.prog X.w)) x,by rw [hget,hx]; rfl,?_⟩
   rw [← ek]
   rfl
def iDictT (te : TE) : TI:=fun σ H R=>te σ H fun x H1=>∃ d kvs,x = .ref d∧H1 d = some (.dT kvs)∧∀ o vs,Paired (KeyAt H1) vs kvs→R (ItD d o (.dT kvs) vs) (upd H1 d (.frz o (.dT kvs)))
theorem pi_dictT {l : Expr} {tl : TE} (hl : PE X l tl) : PI X tg l (iDictT tl):=by
 intro pins s σ H R I h
 refine thn (hl pins s σ H _ I h) fun v s1 ⟨x,H1,I1,r1,q1⟩=>?_
 obtain ⟨d,kvs,e,hd,q⟩:=q1
 subst e
 cases r1
 obtain ⟨o,es,ep,vs,h1,h2,h3,lo,hp,hlen,hks⟩:=keys_rawT (X:=X) (I1.hok d _ hd)
 have I2:=I1.freeze hd (fun _ z=>nomatch z) (fun _ _ z=>nomatch z) (fun _ z=>nomatch z) (fun _ z=>nomatch z) h1
 refine raw_iter lo ⟨o,h1,h2,h3⟩ ?_
 refine ⟨s1.heap.objs.size,[s1.heap.objs.size],_,_,_,rfl,I2.kept (t':=s1.toks) fun b ob e=>Heap.get?_push_of_some _ e,turn_dict h2 h3 hlen hks,⟨_,Heap.get?_push_size _ rfl,rfl,rfl⟩,fun b hb=>?_,q o vs hp⟩
 have z : b = s1.heap.objs.size:=by simpa using hb
 subst z
 exact I2.fpOk (Nat.le_refl _) (I2.hok.fresh (Nat.le_refl _))
end
theorem for_dict {d : Addr} {o : Obj} {u : HO} {ks : List V} {g : TG} {tb : TS} {D : Ends} {σ : St} {H : Hp} (Pv : Nat→St→Hp→Prop) (h0 : Pv 0 σ H) (hl : ∀ i σ H,i ≤ ks.length→Pv i σ H→H d = some (.frz o u)) (hs : ∀ (i : Nat) (k : V) σ H,ks[i]? = some k→Pv i σ H→g k σ H fun σ2 H2=>tb { D with nx:=Pv (i + 1),ct:=Pv (i + 1),bk:=D.nx } σ2 H2) (hd : ∀ σ H,Pv ks.length σ H→D.nx σ H) :
  ∃ W : Nat→Nat→St→Hp→Prop,(∃ m,W 0 m σ H)∧∀ i m σ H,W i m σ H →
   ((ItD d o u ks).stop i H∧D.nx σ H)∨((ItD d o u ks).go i H∧∃ N : St→Hp→Prop,(∀ σ' H',N σ' H'→∃ m',m' < m∧W (i + 1) m' σ' H')∧∀ y H',(ItD d o u ks).yld i H y H'→g y σ H' fun σ2 H2=>tb { D with nx:=N,ct:=N,bk:=D.nx } σ2 H2):=by
 refine ⟨fun i m σ H=>m = ks.length - i∧i ≤ ks.length∧Pv i σ H,⟨_,rfl,Nat.zero_le _,h0⟩,?_⟩
 rintro i m σ H ⟨rfl,hi,p⟩
 have q:=hl i σ H hi p
 by_cases hlt : i < ks.length
 ·refine .inr ⟨⟨q,hlt⟩,Pv (i + 1),fun σ' H' p'=>⟨ks.length - (i + 1),by omega,rfl,hlt,p'⟩,?_⟩
  rintro y H' ⟨rfl,hy⟩
  exact hs i y σ _ hy p
 ·have e : i = ks.length:=by omega
  subst e
  exact .inl ⟨⟨q,Nat.le_refl _⟩,hd σ H p⟩
end L2
set_option Elab.async false
set_option linter.all false
set_option maxRecDepth 100000
set_option maxHeartbeats 16000000
namespace L2
open PySem PySem.Spec PyProof.Rows PySem.W
section
variable {prog : Program} {w : World} {KT : Type} [DecidableEq KT] {knd : KeyKind prog w KT} {A : Around} {E : Value→Shared→Prop} {s : Shared} {r d : Addr} {kvs : List (KT × Value)} {ep : Nat}
end
section
variable {X : Cx} {o : Expr} {to : TE} {apos cpos : Pos}
end
end L2
set_option Elab.async false
set_option linter.all false
set_option maxRecDepth 100000
set_option maxHeartbeats 16000000
namespace L2
open PySem PySem.Spec PyProof.Rows PySem.W
section
variable {X : Cx} {o : Expr} {to : TE} {apos cpos : Pos} {elts : List Expr} {k : Nat} {tpos : Pos}
end
section
variable {X : Cx} {o e f : Expr} {apos cpos : Pos} {td ty tx : TE}
end
end L2
set_option Elab.async false
set_option linter.all false
set_option maxRecDepth 100000
set_option maxHeartbeats 16000000
namespace L2
open PySem PySem.Spec PyProof.Rows PySem.W
section
variable {P : Program} {w : World} {A : Around} {E : Value→Shared→Prop} {s : Shared} {d : Addr} {es : Array DictEntry} {ep : Nat}
theorem rawi_meets (hd : (d == sysModules) = false) : MeetsIn P w (Builtin.«dict.items» ⟨[.ref d],[]⟩) (fun _ R s=>RawAt s.heap d es ep∧R (.ok (.ret (.ref s.heap.objs.size))) { s with heap:=s.heap.push { cls:=.type "dict_items",data:=.fields #[.ref d] } }) :=
 .of_wp fun A R s ⟨r,q⟩=>by
  unfold Builtin.«dict.items» Builtin.Dict.noArgs
  refine wpAny_bind (wpAny_bind (wpAny_notOrdered_dict r.ty ?_))
  show wpAny _ _ (pure d) _ _ s
  refine wpAny_pure ?_
  show wpAny _ _ (Builtin.Dict.showsAll d >>= _) _ _ s
  unfold Builtin.Dict.showsAll
  rw [if_neg (fun z=>by rw [hd] at z; exact Bool.false_ne_true z)]
  exact wpAny_bind (wpAny_pure (wpAny_bind (wpAny_newObj_type (wpAny_pure ⟨_,rfl,q⟩))))
theorem rawi_iter {v : Addr} {Q : Value→Shared→Prop} (hv : s.heap.IsItemsView v d) (r : RawAt s.heap d es ep)
  (q : Q (.ref s.heap.objs.size) { s with heap:=s.heap.push { cls:=.type "dict_itemiterator",data:=.fields #[.none,.bool false,.ref d,.int 0 0,.int es.size 0,.int ep 0,.none,.none] } }) : wpAny (model P w) A (pyIter (.ref v)) Q E s:=by
 have ty:=hv.typeIs (s:=s)
 obtain ⟨ov,ev,cv,dv⟩:=hv
 obtain ⟨ob,eb,cb,db⟩:=r
 refine wpAny_pyIter_slot ty F.slot_dict_items_iter (wpAny_call_entry F.slot_dict_items_iter ty F.entry_dict_items_iter ?_ (F.args_dict_items_iter_1 _))
 unfold Builtin.«dict_items.__iter__»
 refine wpAny_bind (wpAny_pure (wpAny_bind ?_))
 unfold Builtin.Dict_items.dictOf
 refine wpAny_bind (wpAny_field ev dv (x:=.ref d) rfl (wpAny_pure (wpAny_bind ?_)))
 unfold Builtin.Dict_items.newIterator
 refine wpAny_bind (wpAny_dictEntries eb db (wpAny_bind (wpAny_dictEpoch eb db ?_)))
 simp only [show Builtin.Dict_items.ownsTuple "dict_itemiterator" = true by decide,if_true]
 refine wpAny_newObj_type (wpAny_pure ⟨_,rfl, "dict_itemiterator",_,⟨_,Heap.get?_push_size _ rfl,rfl⟩,F.slot_dict_itemiterator_next.lookup,?_⟩) (by simp only [sizeOk,Builtin.Dict_items.ownedTupleFields,List.size_toArray,List.length_append,List.length_cons,List.length_nil,sizeLine_eq]; omega)
 simpa [rawInt,Builtin.Dict_items.ownedTupleFields] using q
theorem rawi_item {it : Addr} {i : Nat} {e : DictEntry} {ok ov : Value} {Q : Option Value→Shared→Prop} (hi : IsItemIter s.heap it d i es.size ep ok ov) (r : RawAt s.heap d es ep) (he : es[i]? = some e)
  (q : ∀ h',IsItemIterOut h' it d (i + 1) es.size ep e.key e.val s.heap.objs.size→h'.get? s.heap.objs.size = some { cls:=.type "tuple",data:=.seq #[e.key,e.val] }→(∀ b o,b ≠ it→s.heap.get? b = some o→h'.get? b = some o)→Q (some (.ref s.heap.objs.size)) { s with heap:=h' }) : wpAny (model P w) A (pyNext (.ref it)) Q E s:=by
 obtain ⟨hp,g,dr,tk,os⟩:=s
 obtain ⟨ob,eb,cb,db⟩:=r
 have ty : Shared.TypeIs ⟨hp,g,dr,tk,os⟩ (.ref it) "dict_itemiterator" := ⟨_,hi,rfl⟩
 unfold pyNext
 refine wpAny_bind (wpAny_attempt (wpAny_callSpecial?_slot (name:=Str.ofString "__next__") ty F.slot_dict_itemiterator_next (wpAny_call_entry F.slot_dict_itemiterator_next ty F.entry_dict_itemiterator_next ?_ (F.args_dict_itemiterator_next_1 _))))
 refine wpAny_bind (wpAny_pure (wpAny_bind (wpAny_bind ?_)))
 first | refine wpAny_bind (wpAny_typeNameOfWhole_itemiter ty (wpAny_pure (wpAny_bind (wpAny_fieldsOf hi rfl ?_)))) | refine wpAny_bind (wpAny_typeNameOf_itemiter ty (wpAny_pure (wpAny_bind (wpAny_fieldsOf hi rfl ?_))))
 simp only [show Builtin.Dict_items.ownsTuple "dict_itemiterator" = true by decide,if_true]
 show wpAny _ _ (ite ((Value.ref d == Value.none) = true) _ _) _ _ _
 rw [if_neg (by exact Bool.false_ne_true)]
 refine wpAny_bind (wpAny_pure (wpAny_bind (wpAny_dictEntries eb db ?_)))
 rw [if_neg (by simp)]
 refine wpAny_bind (wpAny_pure (wpAny_bind (wpAny_dictEpoch eb db ?_)))
 rw [if_neg (by simp)]
 refine wpAny_pure ?_
 simp only [show ¬ ((i : Int) < 0) from by omega,if_false,Int.toNat_natCast,he]
 refine wpAny_bind ?_
 first | refine wpAny_bind (wpAny_typeNameOfWhole_itemiter ty (wpAny_pure (wpAny_bind (wpAny_isOneOf_itemiter ty ?_)))) | refine wpAny_bind (wpAny_typeNameOf_itemiter ty (wpAny_pure (wpAny_bind (wpAny_isOneOf_itemiter ty ?_))))
 show wpAny _ _ (setField (Value.ref it) 3 (rawInt ((i : Int) + 1)) >>= _) _ _ ⟨hp,g,dr,tk,os⟩
 refine wpAny_bind (wpAny_setField_rec hi (by simp) fun h1 e1 s1=>?_)
 have x1 : IsItemIter h1 it d (i + 1) es.size ep ok ov:=by
  unfold IsItemIter
  rw [show ((i + 1 : Nat) : Int) = (i : Int) + 1 by omega]
  simpa [rawInt] using e1
 have k1 : Heap.SameBut it hp h1:=s1
 have t1 : Shared.TypeIs ⟨h1,g,dr,tk,os⟩ (.ref it) "dict_itemiterator" := ⟨_,x1,rfl⟩
 refine wpAny_bind (wpAny_holding (wpAny_bind (wpAny_isOneOf_itemiter t1 (wpAny_bind (wpAny_isOneOf_itemiter t1 ?_)))))
 show wpAny _ _ (Builtin.Dict_items.pairFromOwner (Value.ref it) 6 e.key e.val) _ _ ⟨h1,g,dr,tk,os⟩
 unfold Builtin.Dict_items.pairFromOwner
 refine wpAny_bind (wpAny_newTuple ?_)
 have hz : h1.objs.size = hp.objs.size:=k1.1
 obtain ⟨h2,d2⟩ : ∃ h2,h2 = h1.push { cls:=.type "tuple",data:=.seq #[e.key,e.val] }:=⟨_,rfl⟩
 have x2 : IsItemIter h2 it d (i + 1) es.size ep ok ov:=by
  rw [d2]
  exact Heap.get?_push_of_some _ x1
 have tp : h2.get? hp.objs.size = some { cls:=.type "tuple",data:=.seq #[e.key,e.val] }:=by
  rw [d2,← hz]
  exact Heap.get?_push_size _ rfl
 have kp : ∀ b o,b ≠ it→hp.get? b = some o→h2.get? b = some o:=fun b o hb z=>by
  rw [d2]
  exact Heap.get?_push_of_some _ (k1.extBut b o hb z)
 have nt : hp.objs.size ≠ it:=Nat.ne_of_gt (Heap.lt_size hi)
 show wpAny _ _ (Builtin.Dict_items.ownedTupleIsFree (.ref it) >>= _) _ _ ⟨h1.push { cls:=.type "tuple",data:=.seq #[e.key,e.val] },g,dr,tk,os⟩
 rw [← d2,hz]
 refine wpAny_bind ?_
 unfold Builtin.Dict_items.ownedTupleIsFree
 refine wpAny_bind (wpAny_field x2 rfl (x:=.none) rfl (wpAny_pure ?_))
 simp only [if_true]
 refine wpAny_bind (wpAny_field x2 rfl (x:=ok) rfl (wpAny_bind (wpAny_field x2 rfl (x:=ov) rfl (wpAny_bind (wpAny_setField_rec x2 (by simp) fun h3 e3 s3=>?_)))))
 have x3 : IsItemIter h3 it d (i + 1) es.size ep e.key ov:=e3
 refine wpAny_bind (wpAny_setField_rec x3 (by simp) fun h4 e4 s4=>?_)
 have x4 : IsItemIter h4 it d (i + 1) es.size ep e.key e.val:=e4
 refine wpAny_bind (wpAny_setField_rec x4 (by simp) fun h5 e5 s5=>?_)
 have x5 : IsItemIterOut h5 it d (i + 1) es.size ep e.key e.val hp.objs.size:=e5
 refine wpAny_bind (wpAny_setField_rec x5 (by simp) fun h6 e6 s6=>?_)
 have x6 : IsItemIterOut h6 it d (i + 1) es.size ep e.key e.val hp.objs.size:=e6
 have k6 : ∀ b o,b ≠ it→h2.get? b = some o→h6.get? b = some o:=fun b o hb z=>s6.extBut b o hb (s5.extBut b o hb (s4.extBut b o hb (s3.extBut b o hb z)))
 exact wpAny_bind (wpAny_letGo (wpAny_pure (wpAny_pure ⟨_,rfl,wpAny_pure (q h6 x6 (k6 _ _ nt tp) fun b o hb z=>k6 b o hb (kp b o hb z))⟩)))
theorem rawi_stop {it : Addr} {i : Nat} {ok ov : Value} {Q : Option Value→Shared→Prop} (hA : A.handled = none) (hi : IsItemIter s.heap it d i es.size ep ok ov) (r : RawAt s.heap d es ep) (he : es[i]? = none)
  (q : ∀ h',Heap.ExtBut it s.heap h'→Q none { s with heap:=h' }) : wpAny (model P w) A (pyNext (.ref it)) Q E s:=by
 have ty : s.TypeIs (.ref it) "dict_itemiterator" := ⟨_,hi,rfl⟩
 obtain ⟨ob,eb,cb,db⟩:=r
 unfold pyNext
 refine wpAny_bind (wpAny_attempt (wpAny_callSpecial?_slot (name:=Str.ofString "__next__") ty F.slot_dict_itemiterator_next (wpAny_call_entry F.slot_dict_itemiterator_next ty F.entry_dict_itemiterator_next ?_ (F.args_dict_itemiterator_next_1 _))))
 refine wpAny_bind (wpAny_pure (wpAny_bind (wpAny_bind ?_)))
 first | refine wpAny_bind (wpAny_typeNameOfWhole_itemiter ty (wpAny_pure (wpAny_bind (wpAny_fieldsOf hi rfl ?_)))) | refine wpAny_bind (wpAny_typeNameOf_itemiter ty (wpAny_pure (wpAny_bind (wpAny_fieldsOf hi rfl ?_))))
 simp only [show Builtin.Dict_items.ownsTuple "dict_itemiterator" = true by decide,if_true]
 show wpAny _ _ (ite ((Value.ref d == Value.none) = true) _ _) _ _ s
 rw [if_neg (by exact Bool.false_ne_true)]
 refine wpAny_bind (wpAny_pure (wpAny_bind (wpAny_dictEntries eb db ?_)))
 rw [if_neg (by simp)]
 refine wpAny_bind (wpAny_pure (wpAny_bind (wpAny_dictEpoch eb db ?_)))
 rw [if_neg (by simp)]
 refine wpAny_pure ?_
 simp only [show ¬ ((i : Int) < 0) from by omega,if_false,Int.toNat_natCast,he]
 refine wpAny_bind ?_
 first | refine wpAny_bind (wpAny_typeNameOfWhole_itemiter ty (wpAny_pure ?_)) | refine wpAny_bind (wpAny_typeNameOf_itemiter ty (wpAny_pure ?_))
 show wpAny _ _ (setField (Value.ref it) 2 .none >>= _) _ _ s
 refine wpAny_bind (wpAny_setField hi rfl (by simp) ?_)
 show wpAny _ _ (newExc (Value.type "StopIteration") [] >>= _) _ _ _
 refine wpAny_bind ?_
 simp only [newTuple,newExc]
 refine wpAny_bind (wpAny_newObj_type (wpAny_bind (m:=firstArgMember _ _) (wpAny_of_eq (a:=Value.none) (by first | rfl | (simp only [firstArgMember]; rfl)) (wpAny_newObj_type ?_ (by size_fits)))) (by size_fits))
 simp only [raiseNew]
 refine wpAny_bind (wpAny_handled ?_)
 rw [show A.in1.handled = none from hA]
 refine wpAny_bind (wpAny_pure (wpAny_throw ?_))
 exact wpAny_bind (wpAny_isInstance (T := "StopIteration") (b:=true) ⟨_,Heap.get?_push_size _ rfl,rfl⟩ isSubtype_stop (wpAny_pure (q _ (((Heap.SameBut.update ..).extBut.push _).push _))))
end
def KvAt (H : Hp) (p : V × V) (kv : List Key × V) : Prop:=KeyAt H p.1 kv∧p.2 = kv.2
def ItT (d : Addr) (o : Obj) (u : HO) (ps : List (V × V)) : It :=
 ⟨fun i H=>H d = some (.frz o u)∧i < ps.length,fun i H x H'=>∃ p kv,ps[i]? = some kv∧H p = none∧x = .ref p∧H' = upd H p (.tup [kv.1,kv.2]),fun i H=>H d = some (.frz o u)∧ps.length ≤ i⟩
theorem turn_itemsT {P : Program} {w : World} {K : PySem.W.Frag} {elts : List Expr} {k : Nat} {pos : Pos} {d it : Addr} {o : Obj} {u : HO} {ps : List (V × V)} {es : Array DictEntry} {ep : Nat} (hx : o.ExactDict) (hd : o.data = .dict es ep) (hl : ps.length = es.size) (hk : ∀ (i : Nat) (p : V × V),ps[i]? = some p→∃ e : DictEntry,es[i]? = some e∧RelV p.1 e.key∧RelV p.2 e.val) :
  Turn P w K (.Tuple elts k pos) (ItT d o u ps) [it] it (fun i h=>∃ ok ov,IsItemIter h it d i es.size ep ok ov) where
 mem:=by simp
 obj:=fun i h st b hb=>by
  have z : b = it:=by simpa using hb
  subst z
  obtain ⟨ok,ov,he⟩:=st
  exact ⟨_,he,fun v z=>by
   have z' : Data.fields _ = Data.cell v:=z
   cases z'⟩
 keep:=fun i h h' st kk=>by
  obtain ⟨ok,ov,he⟩:=st
  exact ⟨ok,ov,kk it (by simp) _ he⟩
 item:=by
  intro X hP hw hK hc i pins s σ H E I hf st hg
  subst hP hw hK
  obtain ⟨hfz,hi⟩:=hg
  obtain ⟨ok,ov,he⟩:=st
  have hod : s.heap.get? d = some o:=(show ObjOk X.prog X.w H s.heap d (.frz o u) from I.hok d _ hfz).1
  obtain ⟨p,hp⟩ : ∃ p,ps[i]? = some p:=⟨ps[i],by simp [hi]⟩
  obtain ⟨e,hee,r1,r2⟩:=hk i p hp
  obtain ⟨f0,f1,f2,f3,f4,f5⟩:=hf it (by simp)
  refine rawi_item he ⟨o,hod,hx,hd⟩ hee fun h' ho hT hkk=>?_
  have I1 : Inv X pins σ H { s with heap:=h' }:=I.turned (t':=s.toks) (fun b ob hb e=>hkk b ob hb e) f0 f1 f3 f4 f5
  have hHT : H s.heap.objs.size = none:=I.hok.fresh (Nat.le_refl _)
  have fT : FpOk X pins H s.heap.objs.size:=I.fpOk (Nat.le_refl _) hHT
  have hTI : s.heap.objs.size ≠ it:=Nat.ne_of_gt (Heap.lt_size he)
  refine ⟨_,rfl,wpAny_letOwnedTupleGo_items (s:={ s with heap:=h' }) ho fun h2 he2 hs2=>?_⟩
  have I2 : Inv X pins σ H { s with heap:=h2 }:=I1.turned (t':=s.toks) (fun b ob hb e=>hs2.extBut b ob hb e) f0 f1 f3 f4 f5
  have hT2:=hs2.extBut _ _ hTI hT
  have I3 : Inv X pins σ (upd H s.heap.objs.size (.tup [p.1,p.2])) { s with heap:=h2 } :=
   I2.track fT ⟨by show 2 ≤ sizeLine; decide,[e.key,e.val],.cons r1 (.cons r2 .nil),⟨_,hT2,rfl,0,rfl⟩⟩
  refine ⟨.ref s.heap.objs.size,_,I3,rfl,⟨s.heap.objs.size,p,hp,hHT,rfl,rfl⟩,⟨_,_,he2⟩,fun b hb=>?_⟩
  have z : b = it:=by simpa using hb
  rw [z,upd_ne hTI.symm]
  exact (hf it (by simp)).1
 done:=by
  intro X hP hw hK hc i pins s σ H E I hf st hg
  subst hP hw hK
  obtain ⟨hfz,hi⟩:=hg
  obtain ⟨ok,ov,he⟩:=st
  have hod : s.heap.get? d = some o:=(show ObjOk X.prog X.w H s.heap d (.frz o u) from I.hok d _ hfz).1
  obtain ⟨f0,f1,f2,f3,f4,f5⟩:=hf it (by simp)
  exact rawi_stop (I.ok.hd hc) he ⟨o,hod,hx,hd⟩ (by simp; omega) fun h' eb=>⟨rfl,I.turned (t':=s.toks) (fun b ob hb e=>eb b ob hb e) f0 f1 f3 f4 f5⟩
 self:=fun _ _ _ _ _ st h=>by
  obtain ⟨ok,ov,he⟩:=st
  exact kcp_self he h
section
variable {X : Cx} {o : Expr} {to : TE} {apos cpos : Pos} {elts : List Expr} {k : Nat} {tpos : Pos}
theorem items_rawT {H : Hp} {h : Heap} {d : Addr} {kvs : List (List Key × V)} (ok : ObjOk X.prog X.w H h d (.dT kvs)) : ∃ (o : Obj) (es : Array DictEntry) (ep : Nat) (ps : List (V × V)),h.get? d = some o∧o.ExactDict∧o.data = .dict es ep∧(d == sysModules) = false∧Paired (KvAt H) ps kvs∧ps.length = es.size∧∀ (i : Nat) (p : V × V),ps[i]? = some p→∃ e : DictEntry,es[i]? = some e∧RelV p.1 e.key∧RelV p.2 e.val:=by
 obtain ⟨z,lo,xs,rel,o,es,ep,h1,h2,h3,h4,h5⟩:=ok
 have rel' : KT H kvs xs:=rel
 have l2 : es.size = xs.length:=by rw [← Array.length_toList,h4,List.length_map]
 have hget : ∀ i,es[i]? = (xs[i]?).map (entryOfKey (tupleKind (mixKind X.prog X.w))):=fun i=>by
  rw [← Array.getElem?_toList,h4,List.getElem?_map]
 have mk : ∀ {kvs : List (List Key × V)} {xs : List (List Key × Addr × Value)},KT H kvs xs→∃ ps : List (V × V),Paired (KvAt H) ps kvs∧ps.length = xs.length∧∀ (i : Nat) (p : V × V),ps[i]? = some p→∃ x,xs[i]? = some x∧p.1 = V.ref x.2.1∧RelV p.2 x.2.2:=by
  intro kvs xs r
  induction r with
  | nil=>exact ⟨[],.nil,rfl,fun i p e=>by cases i <;> cases e⟩
  | @cons kv x kvs' xs' a _ ih =>
   obtain ⟨ps,q1,q2,q3⟩:=ih
   refine ⟨(V.ref x.2.1,kv.2) :: ps,.cons ⟨⟨_,rfl,a.2.1⟩,rfl⟩ q1,by rw [List.length_cons,List.length_cons,q2],fun i p e=>?_⟩
   cases i with
   | zero=>cases e; exact ⟨x,rfl,rfl,a.2.2⟩
   | succ i=>exact q3 i p e
 obtain ⟨ps,q1,q2,q3⟩:=mk rel'
 refine ⟨o,es,ep,ps,h1,h2,h3,lo,q1,by omega,fun i p e=>?_⟩
 obtain ⟨x,hx,e1,e2⟩:=q3 i p e
 refine ⟨entryOfKey (tupleKind (mixKind X.prog X.w)) x,by rw [hget,hx]; rfl,?_,e2⟩
 rw [e1]
 rfl
def iItemsT (te : TE) : TI:=fun σ H R=>te σ H fun x H1=>∃ d kvs,x = .ref d∧H1 d = some (.dT kvs)∧∀ ob ps,Paired (KvAt H1) ps kvs→R (ItT d ob (.dT kvs) ps) (upd H1 d (.frz ob (.dT kvs)))
theorem pi_itemsT (ho : PE X o to) (hbase : attributeBase o "items" X.env (eval o X.env) = eval o X.env:=by rfl) (hline : (apos.endLine == cpos.line) = true:=by rfl) : PI X (.Tuple elts k tpos) (.Call (.Attribute o "items" apos) [] [] cpos) (iItemsT to):=by
 intro pins s σ H R I h
 refine wpAny_Call_method0_late hbase hline (thn (ho pins s σ H _ I h) fun v s1 ⟨x,H1,I1,r1,d,kvs,ex,hD,q1⟩=>?_)
 subst ex
 obtain rfl : v = Value.ref d:=r1
 obtain ⟨ob,es,ep,ps,h1,h2,h3,lo,hp,hlen,hps⟩:=items_rawT (X:=X) (I1.hok d _ hD)
 have rw1 : RawAt s1.heap d es ep:=⟨ob,h1,h2,h3⟩
 refine ⟨"dict", "dict.items",PySem.F.plainAttrs_dict,PySem.F.slot_dict_items,PySem.F.type_dict_items,rw1.ty,fun b e=>?_,Calls.callWith_builtin rfl (PySem.evalArgs_none ?_)⟩
 ·injection e with e
  subst e
  exact ⟨ob,h1,h2.2.1⟩
 refine call_meetsIn PySem.F.slot_dict_items rw1.ty PySem.F.entry_dict_items (PySem.F.args_dict_items_1 _) (rawi_meets (es:=es) (ep:=ep) lo) ⟨rw1,?_⟩
 have hv : (s1.heap.push { cls:=.type "dict_items",data:=.fields #[.ref d] }).IsItemsView s1.heap.objs.size d:=⟨_,Heap.get?_push_size _ rfl,rfl,rfl⟩
 have I2:=I1.freeze hD (fun _ z=>nomatch z) (fun _ _ z=>nomatch z) (fun _ z=>nomatch z) (fun _ z=>nomatch z) h1
 have I3 : Inv X pins σ (upd H1 d (.frz ob (.dT kvs))) { s1 with heap:=s1.heap.push { cls:=.type "dict_items",data:=.fields #[.ref d] } }:=I2.kept (t':=s1.toks) fun b w e=>Heap.get?_push_of_some _ e
 refine rawi_iter (s:={ s1 with heap:=s1.heap.push { cls:=.type "dict_items",data:=.fields #[.ref d] } }) hv (rw1.move fun o e=>Heap.get?_push_of_some _ e) ?_
 refine ⟨_,[_],_,_,_,rfl,I3.kept (t':=s1.toks) fun b w e=>Heap.get?_push_of_some _ e,turn_itemsT (o:=ob) h2 h3 hlen hps,⟨_,_,Heap.get?_push_size _ rfl⟩,fun b hb=>?_,q1 ob ps hp⟩
 have z : b = (s1.heap.push { cls:=.type "dict_items",data:=.fields #[.ref d] }).objs.size:=by simpa using hb
 subst z
 exact I3.fpOk (Nat.le_refl _) (I3.hok.fresh (Nat.le_refl _))
end
theorem for_itemsT {d : Addr} {o : Obj} {u : HO} {ps : List (V × V)} {g : TG} {tb : TS} {D : Ends} {σ : St} {H : Hp} (Pv : Nat→St→Hp→Prop) (h0 : Pv 0 σ H) (hl : ∀ i σ H,i ≤ ps.length→Pv i σ H→H d = some (.frz o u))
  (hs : ∀ (i : Nat) (kv : V × V) p σ H,ps[i]? = some kv→Pv i σ H→H p = none→g (.ref p) σ (upd H p (.tup [kv.1,kv.2])) fun σ2 H2=>tb { D with nx:=Pv (i + 1),ct:=Pv (i + 1),bk:=D.nx } σ2 H2) (hd : ∀ σ H,Pv ps.length σ H→D.nx σ H) :
  ∃ W : Nat→Nat→St→Hp→Prop,(∃ m,W 0 m σ H)∧∀ i m σ H,W i m σ H →
   ((ItT d o u ps).stop i H∧D.nx σ H)∨((ItT d o u ps).go i H∧∃ N : St→Hp→Prop,(∀ σ' H',N σ' H'→∃ m',m' < m∧W (i + 1) m' σ' H')∧∀ y H',(ItT d o u ps).yld i H y H'→g y σ H' fun σ2 H2=>tb { D with nx:=N,ct:=N,bk:=D.nx } σ2 H2):=by
 refine ⟨fun i m σ H=>m = ps.length - i∧i ≤ ps.length∧Pv i σ H,⟨_,rfl,Nat.zero_le _,h0⟩,?_⟩
 rintro i m σ H ⟨rfl,hi,p⟩
 have q:=hl i σ H hi p
 by_cases hlt : i < ps.length
 ·refine .inr ⟨⟨q,hlt⟩,Pv (i + 1),fun σ' H' p'=>⟨ps.length - (i + 1),by omega,rfl,hlt,p'⟩,?_⟩
  rintro y H' ⟨a,kv,hy,ha,rfl,rfl⟩
  exact hs i kv a σ _ hy p ha
 ·have e : i = ps.length:=by omega
  subst e
  exact .inl ⟨⟨q,Nat.le_refl _⟩,hd σ H p⟩
end L2
set_option Elab.async false
set_option linter.all false
set_option maxRecDepth 100000
set_option maxHeartbeats 16000000
namespace L2
open PySem PySem.Spec PyProof.Rows PySem.W
theorem vals_pick {xs : List V} {us : List Value} (r : Vals xs us) : ∀ (js : List Nat),∃ ys,Vals ys (js.filterMap fun j=>us[j]?)∧ys = js.filterMap fun j=>xs[j]?
 | []=>⟨[],.nil,rfl⟩
 | j :: js=>by
  obtain ⟨ys,h1,h2⟩:=vals_pick r js
  have hl:=r.length
  cases e : us[j]? with
  | none =>
   have e' : xs[j]? = none:=List.getElem?_eq_none (by rw [hl]; exact List.getElem?_eq_none_iff.mp e)
   exact ⟨ys,by rw [List.filterMap_cons,e]; exact h1,by rw [List.filterMap_cons,e',h2]⟩
  | some u =>
   have hj:=(List.getElem?_eq_some_iff.mp e).1
   obtain ⟨x,hx⟩ : ∃ x,xs[j]? = some x:=⟨xs[j]'(by rw [hl]; exact hj),by simp [hl,hj]⟩
   obtain ⟨u',hu',rr⟩:=Paired.get? r hx
   rw [e] at hu'
   cases hu'
   exact ⟨x :: ys,by rw [List.filterMap_cons,e]; exact .cons rr h1,by rw [List.filterMap_cons,hx,h2]⟩
section
variable {X : Cx} {e : Expr} {te : TE} {lo hi : Option Expr} {st : Expr} {tl th tk : TO} {pos p2 : Pos}
def tSlS (K : PySem.W.Frag) (te : TE) (tl th tk : TO) : TE:=fun σ H Q=>te σ H fun x H1=>tl σ H1 fun _ H2=>th σ H2 fun _ H3=>tk σ H3 fun k H4=>∃ a xs,x = .ref a∧SqL K H4 a xs∧k ≠ some 0∧∀ p ys,H4 p = none→(∀ y ∈ ys,y ∈ xs)→ys.length ≤ xs.length→Q (.ref p) (upd H4 p (.lst ys))
theorem pe_slstep (he : PE X e te) (hl : PO X lo tl) (hu : PO X hi th) (hk : PO X (some st) tk) : PE X (.Subscript e (.Slice lo hi (some st) p2) pos) (tSlS X.K te tl th tk):=by
 intro pins s σ H Q I h
 refine Subscript_ (thn (he pins s σ H _ I h) fun v s1 ⟨x,H1,I1,r1,q1⟩=>?_)
 refine wpAny_Slice (thn (hl pins s1 σ H1 _ I1 q1) fun vl s2 ⟨l,H2,I2,pl,q2⟩=>thn (hu pins s2 σ H2 _ I2 q2) fun vu s3 ⟨u,H3,I3,pu,q3⟩=>thn (hk pins s3 σ H3 _ I3 q3) fun vk s4 ⟨k,H4,I4,pk,a,xs,ex,hx,h0,q⟩=>?_)
 subst ex
 obtain rfl : v = Value.ref a:=r1
 have I5 : Inv X pins σ H4 { s4 with heap:=s4.heap.push { cls:=.type "slice",data:=.fields #[vl,vu,vk] } }:=I4.kept (t':=s4.toks) fun b ob q=>Heap.get?_push_of_some _ q
 obtain ⟨its,r,ht,hz⟩:=I5.list hx
 have hlen:=r.length
 show wpAny (model X.prog X.w) X.A (subscriptTail e (.Slice lo hi (some st) p2) (.ref a) (.ref s4.heap.objs.size)) (EP X pins σ Q) X.xe { s4 with heap:=s4.heap.push { cls:=.type "slice",data:=.fields #[vl,vu,vk] } }
 refine tail_any (ops:=[.ref a,.ref s4.heap.objs.size]) ht.isList.typeIs slot_list_getitem.lookup ?_ (by with_unfolding_all rfl)
 refine wpAny_getItem_list_slice ht.isList (Heap.IsSliceOf.new ..) pl pu pk h0 ?_ (by rw [List.size_toArray] <;> omega)
 have hle:=slicePick_size_le its.toArray l u k
 have hp : (slicePick its.toArray l u k).toList = (sliceRange (sliceBounds l u k its.length).1 (sliceBounds l u k its.length).2.1 (sliceBounds l u k its.length).2.2).filterMap (its[·]?):=by simp [slicePick]
 obtain ⟨ys,h1,h2⟩:=vals_pick r (sliceRange (sliceBounds l u k its.length).1 (sliceBounds l u k its.length).2.1 (sliceBounds l u k its.length).2.2)
 rw [← hp] at h1
 have hyl : ys.length ≤ xs.length:=by
  have h3:=h1.length
  have h4 : its.toArray.size = its.length:=List.size_toArray ..
  have h5 : (slicePick its.toArray l u k).toList.length = (slicePick its.toArray l u k).size:=Array.length_toList
  rw [h4] at hle
  omega
 refine ⟨.ref _,_,I5.laid (t':=s4.toks) (o:=.lst ys) (fun b ob q=>Heap.get?_push_of_some _ q) (Nat.le_refl _) ?_,rfl,q _ ys (I5.hok.fresh (Nat.le_refl _)) (fun y hy=>?_) hyl⟩
 ·refine ⟨Nat.le_trans hyl hz,_,0,h1,?_⟩
  exact Heap.get?_push_size _ rfl
 ·rw [h2] at hy
  obtain ⟨j,_,hj⟩:=List.mem_filterMap.mp hy
  exact List.mem_of_getElem? hj
end
end L2
set_option Elab.async false
set_option linter.all false
set_option maxRecDepth 100000
set_option maxHeartbeats 16000000
namespace L2
open PySem PySem.Spec PyProof.Rows
section
variable {X : Cx}
end
end L2
set_option Elab.async false
set_option linter.all false
set_option maxRecDepth 100000
set_option maxHeartbeats 16000000
namespace L2
open PySem PySem.Spec PyProof.Rows
section
variable {X : Cx}
end
end L2
set_option Elab.async false
set_option linter.all false
set_option maxRecDepth 100000
set_option maxHeartbeats 16000000
namespace L2
open PySem PySem.Spec PyProof.Rows
section
variable {prog : Program} {w : World} {A : Around} {E : Value→Shared→Prop} {s : Shared}
end
section
variable {X : Cx}
end
end L2
set_option Elab.async false
set_option linter.all false
set_option maxRecDepth 100000
set_option maxHeartbeats 16000000
namespace L2
open PySem PySem.Spec PyProof.Rows
section
variable {X : Cx}
end
end L2
set_option Elab.async false
set_option linter.all false
set_option maxRecDepth 100000
set_option maxHeartbeats 16000000
namespace RV
open PySem PySem.Spec PyProof.Rows
end RV
set_option Elab.async false
set_option linter.all false
set_option maxRecDepth 100000
set_option maxHeartbeats 16000000
namespace RV
open PySem PySem.Spec PyProof.Rows
section
variable {prog : Program} {w : World} {A : Around} {E : Value→Shared→Prop} {s : Shared}
end
end RV
set_option Elab.async false
set_option linter.all false
set_option maxRecDepth 100000
set_option maxHeartbeats 16000000
namespace RV
open PySem PySem.Spec PyProof.Rows
section
variable {prog : Program} {w : World} {A : Around} {E : Value→Shared→Prop} {s : Shared}
end
end RV
set_option Elab.async false
set_option linter.all false
set_option maxRecDepth 100000
set_option maxHeartbeats 16000000
namespace RV
open PySem PySem.Spec PyProof.Rows
section
variable {prog : Program} {w : World} {A : Around} {E : Value→Shared→Prop} {s : Shared}
end
end RV
set_option Elab.async false
set_option linter.all false
set_option maxRecDepth 100000
set_option maxHeartbeats 16000000
namespace L2
open PySem PySem.Spec PyProof.Rows PySem.W RV
section
variable {X : Cx} {e : Expr} {te : TE} {pos pos2 p p2 : Pos}
end
end L2
set_option Elab.async false
set_option linter.all false
set_option maxRecDepth 100000
set_option maxHeartbeats 16000000
namespace L2
open PySem PySem.Spec PyProof.Rows
section
variable {X : Cx}
end
end L2
set_option Elab.async false
set_option linter.all false
set_option maxRecDepth 100000
set_option maxHeartbeats 16000000
namespace RG
open PySem PySem.Spec PyProof.Rows
section
variable {prog : Program} {w : World} {A : Around} {E : Value→Shared→Prop} {s : Shared}
variable {I : Addr} {fp : List Addr} {n : Nat} {P : Nat→Value→Prop} {St : Nat→Heap→Prop} {T : String}
end
end RG
set_option Elab.async false
set_option linter.all false
set_option maxRecDepth 100000
set_option maxHeartbeats 16000000
namespace RG
open PySem PySem.Spec PyProof.Rows
section
variable {prog : Program} {w : World} {A : Around} {E : Value→Shared→Prop} {s : Shared}
end
end RG
namespace L2
open PySem PySem.Spec PyProof.Rows PySem.W RG
section
variable {X : Cx} {e : Expr} {te : TE} {pos pos2 pos3 p p2 p3 : Pos}
end
end L2
set_option Elab.async false
set_option linter.all false
set_option maxRecDepth 100000
set_option maxHeartbeats 16000000
namespace L2
open PySem PySem.Spec PyProof.Rows PySem.W RG
open AutoSeq1 (wpAny_loadPart')
section
variable {prog : Program} {w : World} {A : Around} {E : Value→Shared→Prop} {s : Shared}
end
section
variable {X : Cx} {e : Expr} {te : TE} {pos pos3 p p3 : Pos}
end
end L2
set_option Elab.async false
set_option linter.all false
set_option maxRecDepth 100000
set_option maxHeartbeats 16000000
namespace L2
open PySem PySem.Spec PyProof.Rows PySem.W
section
variable {X : Cx} {e : Expr} {te : TE} {pos pos3 p p3 : Pos}
end
end L2
set_option Elab.async false
set_option linter.all false
set_option maxRecDepth 100000
set_option maxHeartbeats 16000000
namespace L2
open PySem PySem.Spec PyProof.Rows PySem.W
section
variable {prog : Program} {w : World} {A : Around} {R : Result→Shared→Prop} {it best : Addr} {fp wr : List Addr} {n : Nat} {P : Nat→Value→Prop} {St : Nat→Heap→Prop}
end
section
variable {X : Cx}
end
end L2
set_option Elab.async false
set_option linter.all false
set_option maxRecDepth 100000
set_option maxHeartbeats 16000000
namespace L2
open PySem PySem.Spec PyProof.Rows
section
variable {X : Cx}
end
end L2
set_option Elab.async false
set_option linter.all false
set_option maxRecDepth 100000
set_option maxHeartbeats 16000000
namespace L2
open PySem PySem.Spec PyProof.Rows
end L2
set_option Elab.async false
set_option linter.all false
set_option maxRecDepth 100000
set_option maxHeartbeats 16000000
namespace L2
open PySem PySem.Spec PyProof.Rows
theorem zipTT_new (a b : Addr) (xs ys : Array Value) : Meets (Builtin.«zip.__new__» ⟨[.type "zip",.ref a,.ref b],[]⟩) (fun _ R s=>s.heap.IsTuple a xs∧s.heap.IsTuple b ys ∧
  ∀ h',h' = ((((s.heap.push { cls:=.type "tuple_iterator",data:=.fields #[.ref a,.int 0 0] }).push { cls:=.type "tuple_iterator",data:=.fields #[.ref b,.int 0 0] }).push { cls:=.type "tuple",data:=.seq #[.ref s.heap.objs.size,.ref (s.heap.objs.size + 1)] }).push { cls:=.type "tuple",data:=.seq #[.none,.none] }).push { cls:=.type "zip",data:=.fields #[.none,.bool false,.bool false,.ref (s.heap.objs.size + 2),.ref (s.heap.objs.size + 3)] } →
   R (.ok (.ret (.ref (s.heap.objs.size + 4)))) { s with heap:=h' }) :=
 .of_wp fun P w A R s h=>by
  obtain ⟨hp,g,d,tk,os⟩:=s
  obtain ⟨t1,t2,h⟩:=h
  have hsub:=sub_zip
  have T1 : Heap.IsTuple (Shared.heap ⟨hp,g,d,tk,os⟩) a xs:=t1
  have T2 : Heap.IsTuple (Shared.heap ⟨hp.push { cls:=.type "tuple_iterator",data:=.fields #[.ref a,.int 0 0] },g,d,tk,os⟩) b ys:=Heap.IsTuple.push t2 _
  have n1 : (hp.push { cls:=.type "tuple_iterator",data:=.fields #[.ref a,.int 0 0] }).objs.size = hp.objs.size + 1:=Heap.size_push ..
  wp_walk using wpAny_pyIter_tuple T1,wpAny_pyIter_tuple T2
  simp only [Heap.size_push] at h ⊢
  exact ⟨_,rfl,h _ rfl⟩
theorem call_zipTT {P : Program} {w : World} {A : Around} {E : Value→Shared→Prop} {s : Shared} {a b : Addr} {xs ys : Array Value} {Q : Value→Shared→Prop} (t1 : s.heap.IsTuple a xs) (t2 : s.heap.IsTuple b ys)
  (q : ∀ h',IsZip h' (s.heap.objs.size + 4) (s.heap.objs.size + 2) (s.heap.objs.size + 3) .none→IsPair h' (s.heap.objs.size + 2) (.ref s.heap.objs.size) (.ref (s.heap.objs.size + 1))→IsPair h' (s.heap.objs.size + 3) .none .none →
   h'.IsTupleIter s.heap.objs.size a 0→h'.IsTupleIter (s.heap.objs.size + 1) b 0→(∀ c o,s.heap.get? c = some o→h'.get? c = some o)→Q (.ref (s.heap.objs.size + 4)) { s with heap:=h' }) :
  wpAny (model P w) A (call (.type "zip") [.ref a,.ref b]) Q E s:=by
 refine callType_new F.called_zip (by decide) (F.typeCall_zip_2 _ _) (F.newCall_zip_2 _ _) (fun ob=>F.args_object_init_3 ob _ _) F.entry_zip_new (zipTT_new a b xs ys) ⟨t1,t2,fun h' e=>?_⟩
 let u1:=s.heap.push { cls:=.type "tuple_iterator",data:=.fields #[.ref a,.int 0 0] }
 let u2:=u1.push { cls:=.type "tuple_iterator",data:=.fields #[.ref b,.int 0 0] }
 let u3:=u2.push { cls:=.type "tuple",data:=.seq #[.ref s.heap.objs.size,.ref (s.heap.objs.size + 1)] }
 let u4:=u3.push { cls:=.type "tuple",data:=.seq #[.none,.none] }
 let u5:=u4.push { cls:=.type "zip",data:=.fields #[.none,.bool false,.bool false,.ref (s.heap.objs.size + 2),.ref (s.heap.objs.size + 3)] }
 have n1 : u1.objs.size = s.heap.objs.size + 1:=Heap.size_push ..
 have n2 : u2.objs.size = s.heap.objs.size + 2:=by show (u1.push _).objs.size = _; rw [Heap.size_push,n1]
 have n3 : u3.objs.size = s.heap.objs.size + 3:=by show (u2.push _).objs.size = _; rw [Heap.size_push,n2]
 have n4 : u4.objs.size = s.heap.objs.size + 4:=by show (u3.push _).objs.size = _; rw [Heap.size_push,n3]
 have eh : h' = u5:=e
 have w5 : u5.get? u4.objs.size = some { cls:=.type "zip",data:=.fields #[.none,.bool false,.bool false,.ref (s.heap.objs.size + 2),.ref (s.heap.objs.size + 3)] }:=Heap.get?_push_size _ rfl
 have w4 : u5.get? u3.objs.size = some { cls:=.type "tuple",data:=.seq #[.none,.none] }:=Heap.get?_push_of_some _ (Heap.get?_push_size _ rfl)
 have w3 : u5.get? u2.objs.size = some { cls:=.type "tuple",data:=.seq #[.ref s.heap.objs.size,.ref (s.heap.objs.size + 1)] }:=Heap.get?_push_of_some _ (Heap.get?_push_of_some _ (Heap.get?_push_size _ rfl))
 have w2 : u5.get? u1.objs.size = some { cls:=.type "tuple_iterator",data:=.fields #[.ref b,.int 0 0] }:=Heap.get?_push_of_some _ (Heap.get?_push_of_some _ (Heap.get?_push_of_some _ (Heap.get?_push_size _ rfl)))
 have w1 : u5.get? s.heap.objs.size = some { cls:=.type "tuple_iterator",data:=.fields #[.ref a,.int 0 0] }:=Heap.get?_push_of_some _ (Heap.get?_push_of_some _ (Heap.get?_push_of_some _ (Heap.get?_push_of_some _ (Heap.get?_push_size _ rfl))))
 rw [n1] at w2
 rw [n2] at w3
 rw [n3] at w4
 rw [n4] at w5
 rw [← eh] at w1 w2 w3 w4 w5
 refine ⟨⟨_,w5,rfl⟩,q h' w5 w3 w4 ⟨_,w1,rfl,rfl⟩ ⟨_,w2,rfl,rfl⟩ fun c o ec=>?_⟩
 rw [eh]
 exact Heap.get?_push_of_some _ (Heap.get?_push_of_some _ (Heap.get?_push_of_some _ (Heap.get?_push_of_some _ (Heap.get?_push_of_some _ ec))))
def ItTT (K : PySem.W.Frag) (a b : Addr) : It :=
 ⟨fun i H=>∃ xs ys x y,SqT K H a xs∧SqT K H b ys∧xs[i]? = some x∧ys[i]? = some y,
   fun i H x H'=>∃ p u v,(∀ xs,SqT K H a xs→xs[i]? = some u)∧(∀ ys,SqT K H b ys→ys[i]? = some v)∧H p = none∧x = .ref p∧H' = upd H p (.tup [u,v]),
   fun i H=>∃ xs ys,SqT K H a xs∧SqT K H b ys∧xs.length = i∧ys.length = i⟩
def ZipTT (n a b : Addr) (i : Nat) (h : Heap) : Prop:=IsZip h (n + 4) (n + 2) (n + 3) .none∧IsPair h (n + 2) (.ref n) (.ref (n + 1))∧(∃ x y,IsPair h (n + 3) x y)∧h.IsTupleIter n a i∧h.IsTupleIter (n + 1) b i
theorem ZipTT.obj {n a b : Addr} {i : Nat} {h : Heap} (st : ZipTT n a b i h) : ∀ c ∈ zipFp n,∃ o,h.get? c = some o∧∀ v,o.data ≠ .cell v:=by
 obtain ⟨h1,h2,⟨x,y,h3⟩,⟨o4,e4,c4,d4⟩,⟨o5,e5,c5,d5⟩⟩:=st
 intro c hc
 simp only [zipFp,List.mem_cons,List.not_mem_nil,or_false] at hc
 rcases hc with rfl | rfl | rfl | rfl | rfl
 ·exact ⟨_,h1,fun v z=>nomatch z⟩
 ·exact ⟨_,h2,fun v z=>nomatch z⟩
 ·exact ⟨_,h3,fun v z=>nomatch z⟩
 ·exact ⟨o4,e4,fun v z=>by rw [d4] at z; cases z⟩
 ·exact ⟨o5,e5,fun v z=>by rw [d5] at z; cases z⟩
theorem ZipTT.keep {n a b : Addr} {i : Nat} {h h' : Heap} (st : ZipTT n a b i h) (kk : ∀ c ∈ zipFp n,∀ o,h.get? c = some o→h'.get? c = some o) : ZipTT n a b i h':=by
 obtain ⟨h1,h2,⟨x,y,h3⟩,⟨o4,e4,r4⟩,⟨o5,e5,r5⟩⟩:=st
 exact ⟨kk _ (by simp [zipFp]) _ h1,kk _ (by simp [zipFp]) _ h2,⟨x,y,kk _ (by simp [zipFp]) _ h3⟩,⟨o4,kk _ (by simp [zipFp]) _ e4,r4⟩,⟨o5,kk _ (by simp [zipFp]) _ e5,r5⟩⟩
theorem turn_zipTT {P : Program} {w : World} {K : PySem.W.Frag} {elts : List Expr} {k : Nat} {pos : Pos} (n a b : Addr) (ha : a < n) (hb : b < n) :
  Turn P w K (.Tuple elts k pos) (ItTT K a b) (zipFp n) (n + 4) (ZipTT n a b) where
 mem:=by simp [zipFp]
 obj:=fun i h st=>st.obj
 keep:=fun i h h' st kk=>st.keep kk
 item:=by
  intro X hP hw hK hc i pins s σ H E I hf st hg
  subst hP hw hK
  obtain ⟨xs,ys,x,y,hq1,hq2,hx,hy⟩:=hg
  obtain ⟨its1,rv1,p1,hz1⟩:=I.tuple hq1
  obtain ⟨its2,rv2,p2,hz2⟩:=I.tuple hq2
  obtain ⟨u1,hu1,ru1⟩:=rv1.get hx
  obtain ⟨u2,hu2,ru2⟩:=rv2.get hy
  have hfw : ∀ c ∈ [n + 4,n + 3,n,n + 1],FpOk X pins H c:=fun c hc=>hf c (wr_sub hc)
  have D:=PySem.W.ktu_apart n a b ha hb
  obtain ⟨zz,zi,⟨o1,o2,zo⟩,za,zb⟩:=id st
  have szT:=Nat.le_refl s.heap.objs.size
  refine nextZ_item D (stp_tup n a its1.toArray) (stp_tup (n + 1) b its2.toArray) zz zi zo za zb p1 p2 (by simpa using hu1) (by simpa using hu2) fun h' c1 c2 c3 c4 c5 c6=>?_
  have hk : ∀ c o,c ∉ [n + 4,n + 3,n,n + 1]→s.heap.get? c = some o→h'.get? c = some o:=fun c o hc e=>by
   obtain ⟨d1,d2,d3,d4⟩:=wr_not hc
   exact c6 c o d1 d2 d3 d4 e
  have I1 : Inv X pins σ H { s with heap:=h' }:=I.turnedL (t':=s.toks) hk hfw
  have hHT : H s.heap.objs.size = none:=I.hok.fresh szT
  have fT : FpOk X pins H s.heap.objs.size:=I.fpOk szT hHT
  have lt4 : n + 4 < s.heap.objs.size:=Heap.lt_size zz
  have zi' : IsPair h' (n + 2) (.ref n) (.ref (n + 1)):=c6 _ _ D.TIz D.TITO D.TIi1 D.TIi2 zi
  refine ⟨_,rfl,wpAny_letOwnedTupleGo_zip c1 fun h2 c7 c8=>?_⟩
  have hk2 : ∀ c o,c ∉ [n + 4,n + 3,n,n + 1]→h'.get? c = some o→h2.get? c = some o:=fun c o hc e=>c8.extBut c o (wr_not hc).1 e
  have I2 : Inv X pins σ H { s with heap:=h2 }:=I1.turnedL (h':=h2) (t':=s.toks) hk2 hfw
  have hT2 : h2.IsTuple s.heap.objs.size #[u1,u2]:=⟨_,c8.extBut _ _ (Nat.ne_of_gt lt4) c5,rfl,_,rfl⟩
  have I3 : Inv X pins σ (upd H s.heap.objs.size (.tup [x,y])) { s with heap:=h2 } :=
   I2.track fT ⟨by show 2 ≤ sizeLine; decide,[u1,u2],.cons ru1 (.cons ru2 .nil),hT2⟩
  refine ⟨.ref s.heap.objs.size,_,I3,rfl,⟨s.heap.objs.size,x,y,fun zs hz'=>by rw [I.tuple_inj hz' hq1]; exact hx,fun zs hz'=>by rw [I.tuple_inj hz' hq2]; exact hy,hHT,rfl,rfl⟩,⟨c7,c8.extBut _ _ D.TIz zi',⟨_,_,c8.extBut _ _ D.TOz c2⟩,c3.at fun o e=>c8.extBut _ o D.i1z e,c4.at fun o e=>c8.extBut _ o D.i2z e⟩,fun c hc'=>?_⟩
  obtain ⟨o,ho,_⟩:=st.obj c hc'
  have hlt:=Heap.lt_size ho
  rw [upd_ne (fun z=>by rw [z] at hlt; exact absurd hlt (Nat.lt_irrefl _))]
  exact (hf c hc').1
 done:=by
  intro X hP hw hK hc i pins s σ H E I hf st hg
  subst hP hw hK
  obtain ⟨xs,ys,hq1,hq2,hx,hy⟩:=hg
  obtain ⟨its1,rv1,p1,hz1⟩:=I.tuple hq1
  obtain ⟨its2,rv2,p2,hz2⟩:=I.tuple hq2
  have l1:=rv1.length
  have D:=PySem.W.ktu_apart n a b ha hb
  obtain ⟨zz,zi,⟨o1,o2,zo⟩,za,zb⟩:=id st
  refine nextZ_stop (I.ok.hd hc) D (stp_tup n a its1.toArray) (stp_tup (n + 1) b its2.toArray) zz zi zo za zb p1 p2 (by simp; omega) fun h' c6=>⟨rfl,?_⟩
  refine I.turnedL (t':=s.toks) (ch:=[n + 4,n + 3,n,n + 1]) (fun c o hc e=>?_) fun c hc=>hf c (wr_sub hc)
  obtain ⟨d1,d2,d3,d4⟩:=wr_not hc
  exact c6 c o d1 d2 d3 d4 e
 self:=fun _ _ _ _ _ st h=>wpAny_pyIter_zip st.1 h
section
variable {X : Cx} {elts : List Expr} {k : Nat} {tpos : Pos}
def iZipTT (K : PySem.W.Frag) (ta : TA) : TI:=fun σ H R=>ta σ H fun vs H1=>∃ a b,vs = [.ref a,.ref b]∧(∃ xs,SqT K H1 a xs)∧(∃ ys,SqT K H1 b ys)∧R (ItTT K a b) H1
theorem pi_zipTT {e1 e2 : Expr} {ta : TA} {p pos : Pos} (hg : Gl X "zip") (hm : X.mg "zip" = none) (ha : PA X [e1,e2] ta) (hs : starEach [e1,e2] X.env = (false,eval e1 X.env) :: starEach [e2] X.env:=by rfl) (hs2 : ∀ pos,(backTo pos (starEach [e2] X.env)).any (·.1) = false:=by intro _; rfl) :
  PI X (.Tuple elts k tpos) (.Call (.Name "zip" p) [e1,e2] [] pos) (iZipTT X.K ta):=by
 intro pins s σ H R I h
 refine Call_ (ld_blt I hg hm boot_zip (PyProof.Rows.callWith_type1 (thn (ha pos pins s σ H _ I h) fun us s1 ⟨vs,H1,I1,r1,q1⟩=>?_) hs (hs2 _)))
 obtain ⟨a,b,e,⟨xs,hq1⟩,⟨ys,hq2⟩,q⟩:=q1
 subst e
 cases r1 with
 | cons ra rr =>
 cases rr with
 | cons rb rr =>
  cases rr
  cases ra
  cases rb
  obtain ⟨its1,rv1,p1,hz1⟩:=I1.tuple hq1
  obtain ⟨its2,rv2,p2,hz2⟩:=I1.tuple hq2
  have la : a < s1.heap.objs.size:=by obtain ⟨o,ho,_⟩:=p1; exact Heap.lt_size ho
  have lb : b < s1.heap.objs.size:=by obtain ⟨o,ho,_⟩:=p2; exact Heap.lt_size ho
  refine call_zipTT p1 p2 fun h' z1 z2 z3 z4 z5 hk=>?_
  have I2 : Inv X pins σ H1 { s1 with heap:=h' }:=I1.kept (t':=s1.toks) hk
  refine wpAny_pyIter_zip z1 ⟨s1.heap.objs.size + 4,zipFp s1.heap.objs.size,_,_,H1,rfl,I2,turn_zipTT s1.heap.objs.size a b la lb,⟨z1,z2,⟨_,_,z3⟩,z4,z5⟩,fun c hc=>?_,q⟩
  have hc' : s1.heap.objs.size ≤ c:=by
   simp only [zipFp,List.mem_cons,List.not_mem_nil,or_false] at hc
   rcases hc with z | z | z | z | z <;> rw [z] <;> first | exact Nat.le_refl _ | exact Nat.le_add_right _ _
  exact I1.fpOk hc' (I1.hok.fresh hc')
end
theorem for_zipTT {K : PySem.W.Frag} {a b : Addr} {xs ys : List V} {g : TG} {tb : TS} {D : Ends} {σ : St} {H : Hp} (Pv : Nat→St→Hp→Prop) (hlen : xs.length = ys.length) (h0 : Pv 0 σ H) (hl : ∀ i σ H,i ≤ xs.length→Pv i σ H→SqT K H a xs∧SqT K H b ys)
  (hs : ∀ i x y p σ H,xs[i]? = some x→ys[i]? = some y→Pv i σ H→H p = none→g (.ref p) σ (upd H p (.tup [x,y])) fun σ2 H2=>tb { D with nx:=Pv (i + 1),ct:=Pv (i + 1),bk:=D.nx } σ2 H2) (hd : ∀ σ H,Pv xs.length σ H→D.nx σ H) :
  ∃ W : Nat→Nat→St→Hp→Prop,(∃ m,W 0 m σ H)∧∀ i m σ H,W i m σ H →
   ((ItTT K a b).stop i H∧D.nx σ H)∨((ItTT K a b).go i H∧∃ N : St→Hp→Prop,(∀ σ' H',N σ' H'→∃ m',m' < m∧W (i + 1) m' σ' H')∧∀ x H',(ItTT K a b).yld i H x H'→g x σ H' fun σ2 H2=>tb { D with nx:=N,ct:=N,bk:=D.nx } σ2 H2):=by
 refine ⟨fun i m σ H=>m = xs.length - i∧i ≤ xs.length∧Pv i σ H,⟨xs.length,by simp,Nat.zero_le _,h0⟩,?_⟩
 rintro i m σ H ⟨rfl,hi,p⟩
 have q:=hl i σ H hi p
 by_cases hlt : i < xs.length
 ·have hlt2 : i < ys.length:=by omega
  refine .inr ⟨⟨xs,ys,xs[i],ys[i],q.1,q.2,by simp [hlt],by simp [hlt2]⟩,Pv (i + 1),fun σ' H' p'=>⟨xs.length - (i + 1),by omega,rfl,hlt,p'⟩,fun x H' y=>?_⟩
  obtain ⟨pp,u,v,y1,y2,hn,e1,e2⟩:=y
  subst e1 e2
  exact hs i u v pp σ _ (y1 xs q.1) (y2 ys q.2) p hn
 ·have e : i = xs.length:=by omega
  subst e
  exact .inl ⟨⟨xs,ys,q.1,q.2,rfl,hlen.symm⟩,hd σ H p⟩
end L2
set_option Elab.async false
set_option linter.all false
set_option maxRecDepth 100000
set_option maxHeartbeats 16000000
namespace K42
open PySem L2 PyProof.Rows
def top (i : Nat) : Stmt:=PySem.Challenge.pw_bundlehouse_k42_a_row_renamed.main.body.getD i (.Pass ⟨0,0,0,0⟩)
abbrev s_placed_rows : Stmt:=top 1
theorem sc_placed_rows : FnScope ["parts", "found", "part", "rows", "number", "row"] ["parts"] (defScope s_placed_rows):=⟨rfl,rfl,rfl,by decide +kernel,rfl,by decide +kernel,by decide +kernel⟩
abbrev s_given_owns : Stmt:=top 2
theorem sc_given_owns : FnScope ["parts", "owns", "part", "number", "row"] ["parts"] (defScope s_given_owns):=⟨rfl,rfl,rfl,by decide +kernel,rfl,by decide +kernel,by decide +kernel⟩
abbrev s_links : Stmt:=top 3
theorem sc_links : FnScope ["parts", "owns", "onward", "part", "number", "row", "given", "own"] ["parts"] (defScope s_links):=⟨rfl,rfl,rfl,by decide +kernel,rfl,by decide +kernel,by decide +kernel⟩
abbrev s_makers : Stmt:=top 4
theorem sc_makers : FnScope ["parts", "found", "onward", "start", "way", "here", "name"] ["parts"] (defScope s_makers):=⟨rfl,rfl,rfl,by decide +kernel,rfl,by decide +kernel,by decide +kernel⟩
abbrev s_made : Stmt:=top 5
theorem sc_made : FnScope ["parts", "found", "part", "number", "row"] ["parts"] (defScope s_made):=⟨rfl,rfl,rfl,by decide +kernel,rfl,by decide +kernel,by decide +kernel⟩
abbrev s_new_names : Stmt:=top 7
theorem sc_new_names : FnScope ["parts", "owns", "used", "part", "own", "found", "new"] ["parts"] (defScope s_new_names):=⟨rfl,rfl,rfl,by decide +kernel,rfl,by decide +kernel,by decide +kernel⟩
abbrev s_numbered : Stmt:=top 8
theorem sc_numbered : FnScope ["own", "used", "number"] ["own", "used"] (defScope s_numbered):=⟨rfl,rfl,rfl,by decide +kernel,rfl,by decide +kernel,by decide +kernel⟩
abbrev s_makers_names : Stmt:=top 9
theorem sc_makers_names : FnScope ["parts", "places", "news", "part", "own", "new", "found", "name", "place"] ["parts"] (defScope s_makers_names):=⟨rfl,rfl,rfl,by decide +kernel,rfl,by decide +kernel,by decide +kernel⟩
abbrev s_renamed : Stmt:=top 10
theorem sc_renamed : FnScope ["parts", "part", "row"] ["parts", "part", "row"] (defScope s_renamed):=⟨rfl,rfl,rfl,by decide +kernel,rfl,by decide +kernel,by decide +kernel⟩
abbrev s_renamed_row : Stmt:=top 11
theorem sc_renamed_row : FnScope ["part", "row", "news", "kind"] ["part", "row", "news"] (defScope s_renamed_row):=⟨rfl,rfl,rfl,by decide +kernel,rfl,by decide +kernel,by decide +kernel⟩
abbrev s_renamed_sum : Stmt:=top 12
theorem sc_renamed_sum : FnScope ["part", "terms", "news"] ["part", "terms", "news"] (defScope s_renamed_sum):=⟨rfl,rfl,rfl,by decide +kernel,rfl,by decide +kernel,by decide +kernel⟩
abbrev s_renamed_thing : Stmt:=top 13
theorem sc_renamed_thing : FnScope ["part", "thing", "news"] ["part", "thing", "news"] (defScope s_renamed_thing):=⟨rfl,rfl,rfl,by decide +kernel,rfl,by decide +kernel,by decide +kernel⟩
abbrev s_renamed_when : Stmt:=top 14
theorem sc_renamed_when : FnScope ["part", "when", "news"] ["part", "when", "news"] (defScope s_renamed_when):=⟨rfl,rfl,rfl,by decide +kernel,rfl,by decide +kernel,by decide +kernel⟩
abbrev s_law_cell_at : Stmt:=top 16
theorem sc_law_cell_at : FnScope ["_law_script", "_law_k"] ["_law_script", "_law_k"] (defScope s_law_cell_at):=⟨rfl,rfl,rfl,by decide +kernel,rfl,by decide +kernel,by decide +kernel⟩
abbrev s_law_stream : Stmt:=top 17
theorem sc_law_stream : FnScope ["_law_cell", "_law_k", "_law_found", "_law_number", "_law_by"] ["_law_cell", "_law_k"] (defScope s_law_stream):=⟨rfl,rfl,rfl,by decide +kernel,rfl,by decide +kernel,by decide +kernel⟩
abbrev s_law_name : Stmt:=top 18
theorem sc_law_name : FnScope ["_law_base", "_law_k", "_law_letters", "_law_size", "_law_name_here", "_law_j", "_law_step"] ["_law_base", "_law_k"] (defScope s_law_name):=⟨rfl,rfl,rfl,by decide +kernel,rfl,by decide +kernel,by decide +kernel⟩
abbrev s_law_pool : Stmt:=top 19
theorem sc_law_pool : FnScope ["_law_script", "_law_k"] ["_law_script", "_law_k"] (defScope s_law_pool):=⟨rfl,rfl,rfl,by decide +kernel,rfl,by decide +kernel,by decide +kernel⟩
abbrev s_law_begun : Stmt:=top 20
theorem sc_law_begun : FnScope ["_law_script", "_law_first", "_law_many", "_law_house", "_law_k"] ["_law_script"] (defScope s_law_begun):=⟨rfl,rfl,rfl,by decide +kernel,rfl,by decide +kernel,by decide +kernel⟩
abbrev s_law_fresh : Stmt:=top 21
theorem sc_law_fresh : FnScope ["_law_part", "_law_pool_here", "_law_k"] ["_law_part", "_law_pool_here", "_law_k"] (defScope s_law_fresh):=⟨rfl,rfl,rfl,by decide +kernel,rfl,by decide +kernel,by decide +kernel⟩
abbrev s_law_pairs : Stmt:=top 22
theorem sc_law_pairs : FnScope ["_law_house", "_law_pools_here", "_law_here", "_law_other", "_law_xs", "_law_part", "_law_given", "_law_pairs_here", "_law_t", "_law_own"] ["_law_house", "_law_pools_here", "_law_here", "_law_other", "_law_xs"] (defScope s_law_pairs):=⟨rfl,rfl,rfl,by decide +kernel,rfl,by decide +kernel,by decide +kernel⟩
abbrev s_law_added : Stmt:=top 23
theorem sc_law_added : FnScope ["_law_house", "_law_pools_here", "_law_xs", "_law_here", "_law_part", "_law_at", "_law_kind", "_law_other", "_law_own", "_law_given"] ["_law_house", "_law_pools_here", "_law_xs"] (defScope s_law_added):=⟨rfl,rfl,rfl,by decide +kernel,rfl,by decide +kernel,by decide +kernel⟩
abbrev s_law_sum : Stmt:=top 24
theorem sc_law_sum : FnScope ["_law_owns", "_law_xs", "_law_terms", "_law_t", "_law_number", "_law_thing"] ["_law_owns", "_law_xs"] (defScope s_law_sum):=⟨rfl,rfl,rfl,by decide +kernel,rfl,by decide +kernel,by decide +kernel⟩
abbrev s_law_row : Stmt:=top 25
theorem sc_law_row : FnScope ["_law_row_here", "_law_owns", "_law_names", "_law_kind", "_law_one", "_law_xs", "_law_when", "_law_terms"] ["_law_row_here", "_law_owns", "_law_names"] (defScope s_law_row):=⟨rfl,rfl,rfl,by decide +kernel,rfl,by decide +kernel,by decide +kernel⟩
abbrev s_law_owned : Stmt:=top 26
theorem sc_law_owned : FnScope ["_law_row_here"] ["_law_row_here"] (defScope s_law_owned):=⟨rfl,rfl,rfl,by decide +kernel,rfl,by decide +kernel,by decide +kernel⟩
abbrev s_law_finished : Stmt:=top 27
theorem sc_law_finished : FnScope ["_law_house", "_law_pool_here", "_law_near", "_law_names", "_law_parts_here", "_law_name_here", "_law_part", "_law_rows", "_law_above", "_law_row_here"] ["_law_house", "_law_pool_here", "_law_near"] (defScope s_law_finished):=⟨rfl,rfl,rfl,by decide +kernel,rfl,by decide +kernel,by decide +kernel⟩
abbrev s_law_pools : Stmt:=top 28
theorem sc_law_pools : FnScope ["_law_script", "_law_first", "_law_own", "_law_other"] ["_law_script"] (defScope s_law_pools):=⟨rfl,rfl,rfl,by decide +kernel,rfl,by decide +kernel,by decide +kernel⟩
abbrev s_law_parts : Stmt:=top 29
theorem sc_law_parts : FnScope ["_law_script", "_law_house", "_law_pools_here", "_law_k"] ["_law_script"] (defScope s_law_parts):=⟨rfl,rfl,rfl,by decide +kernel,rfl,by decide +kernel,by decide +kernel⟩
abbrev s_law_made : Stmt:=top 30
theorem sc_law_made : FnScope ["_law_parts_here", "_law_made_here", "_law_name_here", "_law_rows", "_law_k"] ["_law_parts_here"] (defScope s_law_made):=⟨rfl,rfl,rfl,by decide +kernel,rfl,by decide +kernel,by decide +kernel⟩
abbrev s_law_makers : Stmt:=top 31
theorem sc_law_makers : FnScope ["_law_parts_here", "_law_makers_here", "_law_given", "_law_steps", "_law_name_here", "_law_rows", "_law_row_here", "_law_handed", "_law_own", "_law_spot", "_law_last"] ["_law_parts_here"] (defScope s_law_makers):=⟨rfl,rfl,rfl,by decide +kernel,rfl,by decide +kernel,by decide +kernel⟩
abbrev s_law_news : Stmt:=top 32
theorem sc_law_news : FnScope ["_law_parts_here", "_law_owns", "_law_news_here", "_law_used", "_law_name_here", "_law_rows", "_law_k", "_law_new", "_law_number"] ["_law_parts_here"] (defScope s_law_news):=⟨rfl,rfl,rfl,by decide +kernel,rfl,by decide +kernel,by decide +kernel⟩
abbrev s_law_changed : Stmt:=top 33
theorem sc_law_changed : FnScope ["_law_row_here", "_law_part", "_law_makers_here", "_law_news_here", "_law_when", "_law_terms", "_law_sign", "_law_thing"] ["_law_row_here", "_law_part", "_law_makers_here", "_law_news_here"] (defScope s_law_changed):=⟨rfl,rfl,rfl,by decide +kernel,rfl,by decide +kernel,by decide +kernel⟩
abbrev s_law_alike : Stmt:=top 34
theorem sc_law_alike : FnScope ["_law_found", "_law_due", "_law_one", "_law_other"] ["_law_found", "_law_due"] (defScope s_law_alike):=⟨rfl,rfl,rfl,by decide +kernel,rfl,by decide +kernel,by decide +kernel⟩
abbrev s_law : Stmt:=top 35
theorem sc_law : FnScope ["_law_script", "_law_parts_here", "_law_makers_here", "_law_news_here", "_law_some", "_law_name_here", "_law_rows", "_law_k", "_law_step", "_law_row_here"] ["_law_script"] (defScope s_law):=⟨rfl,rfl,rfl,by decide +kernel,rfl,by decide +kernel,by decide +kernel⟩
structure Txt (K : PySem.W.Frag) (mg : Str→Option Value) : Prop where
 n_len : mg "len" = none
 n_range : mg "range" = none
 n_str : mg "str" = none
 n_tuple : mg "tuple" = none
 n_list : mg "list" = none
 n_dict : mg "dict" = none
 n_enumerate : mg "enumerate" = none
 n_isinstance : mg "isinstance" = none
 n_min : mg "min" = none
 n_max : mg "max" = none
 n_zip : mg "zip" = none
 n_int : mg "int" = none
 n_bool : mg "bool" = none
 d_placed_rows : HasDef K mg "placed_rows" s_placed_rows
 d_given_owns : HasDef K mg "given_owns" s_given_owns
 d_links : HasDef K mg "links" s_links
 d_makers : HasDef K mg "makers" s_makers
 d_made : HasDef K mg "made" s_made
 d_new_names : HasDef K mg "new_names" s_new_names
 d_numbered : HasDef K mg "numbered" s_numbered
 d_makers_names : HasDef K mg "makers_names" s_makers_names
 d_renamed : HasDef K mg "renamed" s_renamed
 d_renamed_row : HasDef K mg "renamed_row" s_renamed_row
 d_renamed_sum : HasDef K mg "renamed_sum" s_renamed_sum
 d_renamed_thing : HasDef K mg "renamed_thing" s_renamed_thing
 d_renamed_when : HasDef K mg "renamed_when" s_renamed_when
 d_law_cell_at : HasDef K mg "_law_cell_at" s_law_cell_at
 d_law_stream : HasDef K mg "_law_stream" s_law_stream
 d_law_name : HasDef K mg "_law_name" s_law_name
 d_law_pool : HasDef K mg "_law_pool" s_law_pool
 d_law_begun : HasDef K mg "_law_begun" s_law_begun
 d_law_fresh : HasDef K mg "_law_fresh" s_law_fresh
 d_law_pairs : HasDef K mg "_law_pairs" s_law_pairs
 d_law_added : HasDef K mg "_law_added" s_law_added
 d_law_sum : HasDef K mg "_law_sum" s_law_sum
 d_law_row : HasDef K mg "_law_row" s_law_row
 d_law_owned : HasDef K mg "_law_owned" s_law_owned
 d_law_finished : HasDef K mg "_law_finished" s_law_finished
 d_law_pools : HasDef K mg "_law_pools" s_law_pools
 d_law_parts : HasDef K mg "_law_parts" s_law_parts
 d_law_made : HasDef K mg "_law_made" s_law_made
 d_law_makers : HasDef K mg "_law_makers" s_law_makers
 d_law_news : HasDef K mg "_law_news" s_law_news
 d_law_changed : HasDef K mg "_law_changed" s_law_changed
 d_law_alike : HasDef K mg "_law_alike" s_law_alike
theorem parts_pairs {K : PySem.W.Frag} {H : Hp} : ∀ {vs : List V} {ps : List Pt},Paired (PartAt H) vs ps→∃ qs : List (Str × V),Paired (fun v (p : Str × V)=>∃ t,v = .ref t∧SqT K H t [.str p.1,p.2]) vs qs∧qs.map (·.1) = ps.map (·.1)∧∀ n rs,(n,rs) ∈ ps→∃ u ws,(n,V.ref u) ∈ qs∧H u = some (.tup ws)∧RowsAt H ws rs
 | _,_,.nil=>⟨[],.nil,rfl,fun n rs h=>by simp at h⟩
 | _,_,.cons (b:=p) ⟨t,u,ws,e,h1,h2,h3⟩ hr=>by
  obtain ⟨qs,g1,g2,g3⟩:=parts_pairs (K:=K) hr
  refine ⟨(p.1,.ref u) :: qs,.cons ⟨t,e,SqT.of h1⟩ g1,by rw [List.map_cons,List.map_cons,g2],fun n rs h=>?_⟩
  rcases List.mem_cons.mp h with z | z
  ·rw [← z] at h1 h3 ⊢
   exact ⟨u,ws,List.mem_cons_self,h2,h3⟩
  ·obtain ⟨u',ws',k1,k2⟩:=g3 n rs z
   exact ⟨u',ws',List.mem_cons_of_mem _ k1,k2⟩
theorem Tups.dK {H : Hp} {l : Addr} {kvs kvs' : List (Key × V)} (h : H l = some (.dK kvs)) : Tups H (upd H l (.dK kvs')):=fun b zs q=>by
 rw [upd_ne (ne_of q h (by intro z; cases z))]
 exact q
section
variable {P : Program} {w : World} {K : PySem.W.Frag} {mg : Str→Option Value} {base : Heap}
theorem signs_len : ("abcdefghijklmnopqrstuvwxyz0123456789" : Str).cps.toList.length = 36:=by decide +kernel
theorem lets_eq : (lets : Str) = "abcdefghijklmnopqrstuvwxyz" := rfl
theorem lets_size : ("abcdefghijklmnopqrstuvwxyz" : Str).length ≤ sizeLine:=by decide +kernel
theorem letsg_size : (("abcdefghijklmnopqrstuvwxyz" : Str) ++ ("0123456789" : Str)).length ≤ sizeLine:=by decide +kernel
theorem letsg_eq : (("abcdefghijklmnopqrstuvwxyz" : Str) ++ ("0123456789" : Str)) = "abcdefghijklmnopqrstuvwxyz0123456789" := by decide +kernel
def spName : Sp:=fun vs H Q _=>∃ b k : Int,vs = [.int b,.int k]∧0 ≤ b∧b < 2147483647∧0 ≤ k∧k < 1000∧∀ H' : Hp,Same H H'→Q (.str (nameM b k)) H'
theorem ok_name (T : Txt K mg) : L2.Cl P w K mg base 1 "_law_name" ["_law_base", "_law_k"] spName:=by
 refine Cl.of T.d_law_name sc_law_name (fun vs H Q E h=>?_) (fun _ _ _ _ _ _ us hl=>by obtain ⟨a,b,rfl⟩:=len2 hl; rfl) (fun f cdv A outer s H vs Q E hr h=>?_)
 ·obtain ⟨b,k,rfl,_⟩:=h
  rfl
 ·obtain ⟨b,k,rfl,hb,hb2,hk,hk2,q⟩:=h
  refine ⟨_,(pss_cons (ps_set (i:=2) sc_law_name.nd rfl (Or.inl rfl) pe_str)
   (pss_cons (ps_set (i:=1) sc_law_name.nd rfl (Or.inl rfl) (pe_op op_mod (pe_op op_add (pe_op op_mul (pv 1) (pe_ix ix_list (pe_lst (pa_cons pe_int (pa_cons pe_int (pa_cons pe_int (pa_cons pe_int (pa_cons pe_int (pa_cons pe_int pa_nil))))))) (pe_op op_mod (pv 0) pe_int) (fun _ _=>rfl))) (pe_op op_fdiv (pv 0) pe_int)) pe_int))
   (pss_cons (ps_set (i:=0) sc_law_name.nd rfl (Or.inl rfl) (pe_op op_fdiv (pv 0) pe_int))
   (pss_cons (ps_if (pt_cmpR op_eq (pe_op op_mod (pv 0) pe_int) pe_int (nomark _))
    (pss_one (ps_ret (pe_op op_rep1 (pe_ix ix_str (pv 2) (pe_op op_mod (pe_op op_add (pe_op op_fdiv (pv 0) pe_int) (pe_op op_fdiv (pv 1) pe_int)) pe_int) (fun _ _=>rfl)) (pe_op op_add pe_int (pe_op op_mod (pv 1) pe_int))))) pss_nil)
   (pss_cons (ps_if (pt_cmpR op_eq (pe_op op_mod (pv 0) pe_int) pe_int (nomark _))
    (pss_one (ps_ret (pe_op op_add_str (pe_op op_rep1 (pe_ix ix_str (pv 2) (pe_op op_mod (pe_op op_fdiv (pv 0) pe_int) pe_int) (fun _ _=>rfl)) (pe_op op_add pe_int (pe_op op_mod (pe_op op_fdiv (pv 0) pe_int) pe_int))) (pe_callTy call_str_int (by rfl) T.n_str boot_str (pa_cons (pv 1) pa_nil))))) pss_nil)
   (pss_cons (ps_set (i:=3) sc_law_name.nd rfl (Or.inl rfl) (pe_op op_add pe_int (pe_op op_mod (pe_op op_fdiv (pv 0) pe_int) pe_int)))
   (pss_cons (ps_set (i:=4) sc_law_name.nd rfl (Or.inl rfl) pe_str)
   (pss_cons (ps_for PassesOwn.never rfl (pi_range1 (by rfl) T.n_range (pa_cons (pv 3) pa_nil)) (pg_name (i:=5) sc_law_name.nd rfl (Or.inl rfl))
    (pss_cons (ps_set (i:=6) sc_law_name.nd rfl (Or.inl rfl) (pe_op op_fdiv (pv 0) (pe_op op_add pe_int (pe_op op_mul (pe_op op_mul pe_int (pv 5)) (pv 5)))))
    (pss_one (ps_if (pt_cmpR op_eq (pv 5) (pe_op op_mod (pe_op op_fdiv (pv 0) pe_int) (pv 3)) (nomark _))
     (pss_one (ps_set (i:=4) sc_law_name.nd rfl (Or.inl rfl) (pe_op op_add_str (pv 4) (pe_ix ix_str (pv 2) (pe_op op_mod (pe_op op_add (pv 6) (pv 1)) pe_int) (fun _ _=>rfl))))) (pss_one (ps_if (pt_cmpR op_eq (pv 5) pe_int (nomark _))
      (pss_one (ps_set (i:=4) sc_law_name.nd rfl (Or.inl rfl) (pe_op op_add_str (pv 4) (pe_ix ix_str (pv 2) (pe_op op_mod (pv 6) pe_int) (fun _ _=>rfl))))) (pss_one (ps_set (i:=4) sc_law_name.nd rfl (Or.inl rfl) (pe_op op_add_str (pv 4) (pe_ix ix_str (pe_op op_add_str (pv 2) pe_str) (pe_op op_mod (pv 6) pe_int) (fun _ _=>rfl)))))))))))
   (pss_one (ps_ret (pv 4))))))))))),?_⟩
  have h6 : 0 ≤ b % 6:=by omega
  have h7 : b % 6 < 6:=by omega
  refine ⟨_,rfl,(by show 6 ≤ sizeLine; decide),fun l gl=>?_⟩
  have s1 : Same H (upd H l (.lst [.int 1,.int 5,.int 7,.int 11,.int 13,.int 23])):=(Same.refl H).new gl
  have hat : atI [V.int 1,V.int 5,V.int 7,V.int 11,V.int 13,V.int 23] (b % 6) = some (.int ([1,5,7,11,13,23].getD (b % 6).toNat 0)):=by
   have : (b % 6).toNat = 0∨(b % 6).toNat = 1∨(b % 6).toNat = 2∨(b % 6).toNat = 3∨(b % 6).toNat = 4∨(b % 6).toNat = 5:=by omega
   have e1 : (((b % 6).toNat : Nat) : Int) = b % 6:=by omega
   rw [← e1]
   simp only [Int.toNat_natCast]
   rcases this with e | e | e | e | e | e <;> rw [e] <;> exact atI_nat rfl
  refine ⟨_,rfl,_,_,rfl,rfl,(by show (0 : Int) < 6; decide),l,_,_,_,rfl,rfl,SqL.of upd_same,hat,?_⟩
  refine ⟨_,_,rfl,rfl,.inl ⟨by omega,by omega⟩,?_⟩
  refine ⟨_,rfl,_,_,rfl,rfl,⟨by decide,by decide⟩,_,_,rfl,rfl,_,_,rfl,rfl,(by show (0 : Int) < 24; decide),?_⟩
  refine ⟨_,rfl,_,_,rfl,rfl,⟨by decide,by decide⟩,?_⟩
  obtain ⟨r1,r2⟩:=turnK_rng b k
  have q' : ∀ H' : Hp,Same (upd H l (.lst [.int 1,.int 5,.int 7,.int 11,.int 13,.int 23])) H'→Q (.str (nameM b k)) H':=fun H' s2=>q H' (s1.trans s2)
  clear hat
  have hb' : 0 ≤ b / 144:=by omega
  have hb3 : b / 144 < 2147483647:=by omega
  have q2 : ∀ H' : Hp,Same (upd H l (.lst [.int 1,.int 5,.int 7,.int 11,.int 13,.int 23])) H'→∀ x,x = nameM b k→Q (.str x) H':=fun H' s2 x e=>by rw [e]; exact q' H' s2
  clear q'
  unfold nameM at q2
  show gName 0 (V.int (b / 144)) [some (.int b),some (.int (turnK b k)),some (.str "abcdefghijklmnopqrstuvwxyz"),none,none,none,none] _ _
  generalize upd H l (.lst [.int 1,.int 5,.int 7,.int 11,.int 13,.int 23]) = H1 at q2 ⊢
  generalize turnK b k = k' at r1 r2 q2 ⊢
  generalize b / 144 = b' at hb' hb3 q2 ⊢
  simp only at q2
  refine ⟨_,rfl,_,_,rfl,rfl,(by show (0 : Int) < 4; decide),rfl,_,rfl,ite2I (fun e1=>?_) (fun e1=>?_)⟩
  ·rw [if_pos e1] at q2
   refine ⟨_,rfl,_,rfl,_,_,rfl,rfl,⟨by decide,by decide⟩,_,rfl,_,_,rfl,rfl,⟨by decide,by decide⟩,_,_,rfl,rfl,_,_,rfl,rfl,(by show (0 : Int) < 26; decide),_,_,_,rfl,rfl,lets_size,atI_getD _ 0 (by omega) (by rw [← lets_eq,lets_len]; omega),?_⟩
   refine ⟨_,rfl,_,_,rfl,rfl,(by show (0 : Int) < 8; decide),_,_,rfl,rfl,_,_,rfl,rfl,(by omega),(by omega),?_⟩
   exact q2 _ (Same.refl _) _ rfl
  ·rw [if_neg e1] at q2
   refine ⟨_,rfl,_,_,rfl,rfl,(by show (0 : Int) < 4; decide),rfl,_,rfl,ite2I (fun e2=>?_) (fun e2=>?_)⟩
   ·rw [if_pos e2] at q2
    refine ⟨_,rfl,_,rfl,_,_,rfl,rfl,⟨by decide,by decide⟩,_,_,rfl,rfl,(by show (0 : Int) < 26; decide),_,_,_,rfl,rfl,lets_size,atI_getD _ 0 (by omega) (by rw [← lets_eq,lets_len]; omega),?_⟩
    refine ⟨_,rfl,_,_,rfl,rfl,⟨by decide,by decide⟩,_,_,rfl,rfl,(by show (0 : Int) < 6; decide),_,_,rfl,rfl,_,_,rfl,rfl,(by omega),(by omega),?_⟩
    refine ⟨_,rfl,_,rfl,?_,_,_,rfl,rfl,?_,?_⟩
    ·exact Nat.lt_of_le_of_lt (Nat.log2_le_self _) (by omega)
    ·obtain ⟨n1,n2⟩:=num_text (n:=k') r1 (by omega)
     have n3 : (Str.ofString (toString k')).length ≤ 60:=by
      have:=congrArg List.length n1
      rw [List.length_map,Array.length_toList] at this
      show (Str.ofString (toString k')).cps.size ≤ 60
      omega
     have n4 : (⟨(List.replicate (1 + b' / 104 % 6).toNat (lets.cps.toList.getD (b' / 4 % 26).toNat 0)).toArray⟩ : Str).length ≤ 6:=by
      show (List.replicate (1 + b' / 104 % 6).toNat (lets.cps.toList.getD (b' / 4 % 26).toNat 0)).toArray.size ≤ 6
      rw [List.size_toArray,List.length_replicate]; omega
     exact Nat.le_of_lt (small1000 (by
      have n4' : (⟨(List.replicate (1 + b' / 104 % 6).toNat (("abcdefghijklmnopqrstuvwxyz" : Str).cps.toList.getD (b' / 4 % 26).toNat 0)).toArray⟩ : Str).length ≤ 6:=n4
      omega))
    ·exact q2 _ (Same.refl _) _ rfl
   ·rw [if_neg e2] at q2
    have hz1 : 0 < 1 + b' / 4 % 8:=by omega
    have hz2 : 1 + b' / 4 % 8 ≤ 8:=by omega
    refine ⟨_,rfl,_,_,rfl,rfl,⟨by decide,by decide⟩,_,_,rfl,rfl,(by show (0 : Int) < 8; decide),_,_,rfl,rfl,?_⟩
    show gName 3 (V.int (1 + b' / 4 % 8)) [some (.int b'),some (.int k'),some (.str "abcdefghijklmnopqrstuvwxyz"),none,none,none,none] _ _
    generalize 1 + b' / 4 % 8 = z at q2 hz1 hz2 ⊢
    refine ⟨_,rfl,_,rfl,(by omega),(by omega),for_range (fun i σ H2=>H2 = H1∧∃ v5 v6 : Option V,σ = [some (.int b'),some (.int k'),some (.str "abcdefghijklmnopqrstuvwxyz"),some (.int z),some (.str ⟨(nm3 b' k' z i).toArray⟩),v5,v6])
     ⟨rfl,none,none,rfl⟩ ?_ ?_⟩
    ·rintro i σ H2 hi ⟨rfl,v5,v6,rfl⟩
     have hi8 : i ≤ 7:=by omega
     have hsq : (11 * (i : Int)) * (i : Int) ≤ 539∧0 ≤ (11 * (i : Int)) * (i : Int):=by
      have : i = 0∨i = 1∨i = 2∨i = 3∨i = 4∨i = 5∨i = 6∨i = 7:=by omega
      rcases this with e | e | e | e | e | e | e | e <;> subst e <;> decide
     have hnl : (⟨(nm3 b' k' z i).toArray⟩ : Str).length = i:=by
      show (nm3 b' k' z i).toArray.size = i
      rw [List.size_toArray,nm3_len]
     have hst : ∀ (c : Nat),nm3 b' k' z (i + 1) = nm3 b' k' z i ++ [c]→(⟨(nm3 b' k' z i).toArray⟩ : Str) ++ (⟨#[c]⟩ : Str) = ⟨(nm3 b' k' z (i + 1)).toArray⟩:=fun c e=>by
      rw [e]
      show (⟨(nm3 b' k' z i).toArray ++ #[c]⟩ : Str) = _
      simp
     have hlen1 : ∀ c : Nat,(⟨(nm3 b' k' z i).toArray⟩ : Str).length + (⟨#[c]⟩ : Str).length ≤ sizeLine:=fun c=>by
      rw [hnl]
      exact Nat.le_of_lt (small1000 (by show i + 1 ≤ 1000; omega))
     rw [Int.zero_add]
     refine ⟨_,rfl,_,rfl,_,_,rfl,rfl,.inl ⟨by decide,by decide⟩,_,rfl,_,_,rfl,rfl,.inl ⟨by omega,by omega⟩,_,_,rfl,rfl,_,_,rfl,rfl,⟨by omega,by omega⟩,?_⟩
     refine ⟨_,rfl,_,rfl,_,_,rfl,rfl,⟨by decide,by decide⟩,_,rfl,_,_,rfl,rfl,hz1,rfl,_,rfl,ite2I (fun e3=>?_) (fun e3=>?_)⟩
     ·refine ⟨_,rfl,_,rfl,_,rfl,_,rfl,_,_,rfl,rfl,_,_,rfl,rfl,(by show (0 : Int) < 26; decide),_,_,_,rfl,rfl,lets_size,atI_getD _ 0 (by omega) (by rw [← lets_eq,lets_len]; omega),_,_,rfl,rfl,hlen1 _,?_⟩
      rw [hst _ (by show nm3 b' k' z i ++ [_] = _; rw [if_pos e3]; rfl)]
      exact ⟨rfl,_,_,rfl⟩
     ·refine ⟨_,rfl,rfl,_,rfl,ite2I (fun e4=>?_) (fun e4=>?_)⟩
      ·refine ⟨_,rfl,_,rfl,_,rfl,_,_,rfl,rfl,(by show (0 : Int) < 26; decide),_,_,_,rfl,rfl,lets_size,atI_getD _ 0 (by omega) (by rw [← lets_eq,lets_len]; omega),_,_,rfl,rfl,hlen1 _,?_⟩
       rw [hst _ (by show nm3 b' k' z i ++ [_] = _; rw [if_neg e3,if_pos e4]; rfl)]
       exact ⟨rfl,_,_,rfl⟩
      ·refine ⟨_,rfl,_,rfl,_,_,rfl,rfl,(by decide +kernel),_,rfl,_,_,rfl,rfl,(by show (0 : Int) < 36; decide),_,_,_,rfl,rfl,letsg_size,atI_getD _ 0 (by omega) (by rw [letsg_eq,signs_len]; omega),_,_,rfl,rfl,hlen1 _,?_⟩
       rw [hst _ (by show nm3 b' k' z i ++ [_] = _; rw [if_neg e3,if_neg e4,letsg_eq]; rfl)]
       exact ⟨rfl,_,_,rfl⟩
    ·rintro σ H2 ⟨rfl,v5,v6,rfl⟩
     exact ⟨_,rfl,q2 _ (Same.refl _) _ rfl⟩
def spCell (K : PySem.W.Frag) : Sp:=fun vs H Q _=>∃ (a : Addr) (ns : List Int) (k : Int),vs = [.ref a,.int k]∧SqL K H a (ns.map V.int)∧0 ≤ k∧∀ c : Int,Q (.int c) H
def Bnd (ns : List Int) : Prop:=∀ n ∈ ns,0 ≤ n∧n < 2147483647
def spStream : Sp:=fun vs H Q _=>∃ (c k : Int),vs = [.int c,.int k]∧0 ≤ k∧k < 1000∧∀ (l : Addr) (xs : List Int) (H' : Hp),Same H H'→H l = none→H' l = some (.lst (xs.map V.int))→xs.length = 6→Bnd xs→Q (.ref l) H'
def spPool (K : PySem.W.Frag) : Sp:=fun vs H Q _=>∃ (a : Addr) (ns : List Int) (k : Int),vs = [.ref a,.int k]∧SqL K H a (ns.map V.int)∧0 ≤ k∧∀ c : Int,0 ≤ c→c < 2147483647→Q (.int c) H
theorem ok_cell (T : Txt K mg) : L2.Cl P w K mg base 1 "_law_cell_at" ["_law_script", "_law_k"] (spCell K):=by
 refine Cl.of T.d_law_cell_at sc_law_cell_at (fun vs H Q E h=>?_) (fun _ _ _ _ _ _ us hl=>by obtain ⟨a,b,rfl⟩:=len2 hl; rfl) (fun f cdv A outer s H vs Q E hr h=>?_)
 ·obtain ⟨a,ns,k,rfl,_⟩:=h
  rfl
 ·obtain ⟨a,ns,k,rfl,hS,hk,q⟩:=h
  refine ⟨_,(pss_cons (ps_if (pt_cmpR op_lt (pv 1) (pe_callB call_len_seq (by rfl) T.n_len PySem.boot_len (pa_cons (pv 0) pa_nil)) (nomark _))
    (pss_one (ps_ret (pe_ix ix_list (pv 0) (pv 1) (fun _ _=>rfl)))) pss_nil)
   (pss_one (ps_ret pe_int))),?_⟩
  refine ⟨_,rfl,_,rfl,a,_,rfl,.inl hS,_,_,rfl,rfl,_,rfl,?_⟩
  refine ite2 (fun hlt=>?_) (fun hlt=>?_)
  ·have hlt' : k < (ns.length : Int):=by simpa using hlt
   refine ⟨_,rfl,_,rfl,a,_,_,_,rfl,rfl,hS,atI_map V.int ns 0 hk hlt',?_⟩
   exact q _
  ·exact q 0
theorem ok_pool (T : Txt K mg) : L2.Cl P w K mg base 2 "_law_pool" ["_law_script", "_law_k"] (spPool K):=by
 have C_law_cell_at:=ok_cell (P:=P) (w:=w) (base:=base) T
 refine Cl.of T.d_law_pool sc_law_pool (fun vs H Q E h=>?_) (fun _ _ _ _ _ _ us hl=>by obtain ⟨a,b,rfl⟩:=len2 hl; rfl) (fun f cdv A outer s H vs Q E hr h=>?_)
 ·obtain ⟨a,ns,k,rfl,_⟩:=h
  rfl
 ·obtain ⟨a,ns,k,rfl,hS,hk,q⟩:=h
  refine ⟨_,(pss_one (ps_ret (pe_op op_mod (pe_op op_mul (pe_fn C_law_cell_at hr (by rfl) (pa_cons (pv 0) (pa_cons (pv 1) pa_nil))) pe_int) pe_int))),?_⟩
  refine ⟨_,rfl,_,rfl,a,ns,k,rfl,hS,hk,fun c=>?_⟩
  refine ⟨_,_,rfl,rfl,.inr ⟨by decide,by decide⟩,_,_,rfl,rfl,(by show (0 : Int) < 2147483647; decide),q _ (by omega) (by omega)⟩
theorem ok_stream (T : Txt K mg) : L2.Cl P w K mg base 1 "_law_stream" ["_law_cell", "_law_k"] spStream:=by
 refine Cl.of T.d_law_stream sc_law_stream (fun vs H Q E h=>?_) (fun _ _ _ _ _ _ us hl=>by obtain ⟨a,b,rfl⟩:=len2 hl; rfl) (fun f cdv A outer s H vs Q E hr h=>?_)
 ·obtain ⟨c,k,rfl,_⟩:=h
  rfl
 ·obtain ⟨c,k,rfl,hk1,hk2,q⟩:=h
  refine ⟨_,(pss_cons (ps_set (i:=2) sc_law_stream.nd rfl (Or.inl rfl) (pe_lst pa_nil))
   (pss_cons (ps_set (i:=3) sc_law_stream.nd rfl (Or.inl rfl) (pe_op op_add (pe_op op_add (pe_op op_mod (pv 0) pe_int) (pe_op op_mul (pe_op op_mul pe_int (pv 1)) (pv 1))) pe_int))
   (pss_cons (ps_for PassesOwn.never rfl (pi_list (pe_lst (pa_cons pe_int (pa_cons pe_int (pa_cons pe_int (pa_cons pe_int (pa_cons pe_int (pa_cons pe_int pa_nil)))))))) (pg_name (i:=4) sc_law_stream.nd rfl (Or.inl rfl))
    (pss_cons (ps_set (i:=3) sc_law_stream.nd rfl (Or.inl rfl) (pe_op op_mod (pe_op op_add (pe_op op_add (pe_op op_mul (pv 3) (pv 3)) (pe_op op_mul (pv 4) (pv 3))) (pv 1)) pe_int))
    (pss_one (ps_expr (pe_bm PySem.F.plainAttrs_list PySem.F.slot_list_append PySem.F.type_list_append mt_append (pv 2) (pa_cons (pv 3) pa_nil))))))
   (pss_one (ps_ret (pv 2)))))),?_⟩
  refine ⟨leS0,fun l hl=>?_⟩
  have s1 : Same H (upd H l (.lst [])):=(Same.refl H).new hl
  have hkk : 48271 * k * k ≤ 48271 * 1000 * 1000:=Int.mul_le_mul (by omega) (by omega) hk1 (by decide)
  have hkk0 : 0 ≤ 48271 * k * k:=Int.mul_nonneg (by omega) hk1
  refine ⟨_,rfl,_,_,rfl,rfl,(by show (0 : Int) < 2147483647; decide),_,rfl,_,_,rfl,rfl,.inl ⟨by decide,by decide⟩,_,rfl,_,_,rfl,rfl,.inl ⟨by omega,by omega⟩,_,_,rfl,rfl,_,_,rfl,rfl,?_⟩
  have z0a : 0 ≤ c % 2147483647 + 48271 * k * k + 7:=by omega
  have z0b : c % 2147483647 + 48271 * k * k + 7 < 1000000000000:=by omega
  refine ⟨(by show 6 ≤ sizeLine; decide),fun b hb=>?_⟩
  have hlb : l ≠ b:=ne_of_none (upd_same (H:=H) (a:=l) (o:=.lst [])) hb
  refine ⟨b,rfl,⟨_,SqL.of upd_same⟩,for_list (K:=K) (a:=b) (xs:=[.int 48271,.int 69621,.int 16807,.int 39373,.int 62089,.int 40692]) (fun i σ H2=>∃ (zs : List Int) (z : Int) (v4 : Option V),σ = [some (.int c),some (.int k),some (.ref l),some (.int z),v4]∧Same H H2∧H2 l = some (.lst (zs.map V.int))∧H2 b = some (.lst [.int 48271,.int 69621,.int 16807,.int 39373,.int 62089,.int 40692])∧zs.length = i∧Bnd zs∧0 ≤ z∧z < 1000000000000)
   ⟨[],_,none,rfl,s1.new hb,upd_keep upd_same hb,upd_same,rfl,(fun n hn=>by simp at hn),z0a,z0b⟩ (fun i σ H2 _ ⟨_,_,_,_,_,_,h,_⟩=>SqL.of h) ?_ ?_⟩
  ·rintro i x σ H2 hx ⟨zs,z,v4,rfl,s2,hl2,hb2,hlen,hbd,hz0,hz1⟩
   have hi : i < 6:=(List.getElem?_eq_some_iff.mp hx).1
   obtain ⟨n,rfl,hn0,hn1⟩ : ∃ n : Int,x = .int n∧0 ≤ n∧n ≤ 70000:=by
    have:=List.mem_of_getElem? hx
    simp only [List.mem_cons,List.not_mem_nil,or_false] at this
    rcases this with rfl | rfl | rfl | rfl | rfl | rfl <;> exact ⟨_,rfl,by decide,by decide⟩
   refine ⟨_,rfl,_,rfl,_,_,rfl,rfl,.inl ⟨by omega,by omega⟩,_,rfl,_,rfl,_,_,rfl,rfl,.inl ⟨by omega,by omega⟩,_,_,rfl,rfl,_,rfl,_,_,rfl,rfl,_,_,rfl,rfl,(by show (0 : Int) < 2147483647; decide),?_⟩
   generalize z * z + n * z + k = y
   refine ⟨_,rfl,.inl ⟨rfl,_,SqL.of hl2⟩,_,rfl,l,_,_,rfl,rfl,hl2,small1000 (by rw [List.length_map]; omega),?_⟩
   refine ⟨zs ++ [y % 2147483647],y % 2147483647,_,rfl,s2.put hl,by rw [upd_same,List.map_append]; rfl,by rw [upd_ne hlb.symm]; exact hb2,by simp [hlen],fun n hn=>?_,by omega,by omega⟩
   rcases List.mem_append.mp hn with h | h
   ·exact hbd n h
   ·rw [List.mem_singleton.mp h]; omega
  ·rintro σ H2 ⟨zs,z,v4,rfl,s2,hl2,hb2,hlen,hbd,hz0,hz1⟩
   exact ⟨_,rfl,q l zs _ s2 hl hl2 hlen hbd⟩
def New (H0 : Hp) (l : Addr) (A : List Q4) : Prop:=H0 l = none∧∀ (i : Nat) (q : Q4) (x : Nat),A[i]? = some q→x < 4→H0 (q.nth x) = none
def Bare (hs : List Pp) : Prop:=∀ pp ∈ hs,pp.rows = []∧pp.owns = []∧pp.gives = []∧0 ≤ pp.sh∧pp.sh < 100
def spBegun (K : PySem.W.Frag) : Sp:=fun vs H Q _=>∃ (a : Addr) (ns : List Int),vs = [.ref a]∧SqL K H a (ns.map V.int)∧∀ (l : Addr) (A : List Q4) (hs : List Pp) (H' : Hp),Same H H'→HouseAt H' l A [] hs→New H l A→1 ≤ hs.length→hs.length ≤ 24→Bare hs→Q (.ref l) H'
theorem New.snoc {H : Hp} {l : Addr} {A : List Q4} {q : Q4} (h : New H l A) (hq : ∀ x,x < 4→H (q.nth x) = none) : New H l (A ++ [q]):=by
 refine ⟨h.1,fun i u x e hx=>?_⟩
 by_cases hi : i < A.length
 ·rw [List.getElem?_append_left hi] at e
  exact h.2 i u x e hx
 ·rw [List.getElem?_append_right (by omega)] at e
  have h0 : i - A.length = 0:=by
   have:=(List.getElem?_eq_some_iff.mp e).1
   simp only [List.length_singleton] at this
   omega
  rw [h0] at e
  simp only [List.getElem?_cons_zero,Option.some.injEq] at e
  rw [← e]
  exact hq x hx
theorem lt4 {x : Nat} (h : x < 4) : x = 0∨x = 1∨x = 2∨x = 3:=by omega
theorem house0 {H : Hp} {l : Addr} (h : H l = some (.lst [])) : HouseAt H l [] [] []:=⟨h,rfl,fun i q pp e=>by simp at e,fun i q x e=>by simp at e,fun d hd=>by simp at hd,fun i j q u x y e=>by simp at e⟩
theorem begun_step {H H2 : Hp} {l r o g p : Addr} {A : List Q4} {hs : List Pp} {c : Int} (s2 : Same H H2) (hh : HouseAt H2 l A [] hs) (hn : New H l A) (hb : Bare hs) (hc0 : 0 ≤ c) (hc1 : c < 100) (gr : H2 r = none) (go : upd H2 r (.lst []) o = none) (gg : upd (upd H2 r (.lst [])) o (.lst []) g = none)
  (gp : upd (upd (upd H2 r (.lst [])) o (.lst [])) g (.lst []) p = none) :
  HouseAt (upd (upd (upd (upd (upd H2 r (.lst [])) o (.lst [])) g (.lst [])) p (.lst [.ref r,.ref o,.ref g,.int c])) l (.lst ((A.map fun q=>V.ref q.p) ++ [.ref p]))) l (A ++ [⟨p,r,o,g⟩]) [] (hs ++ [⟨[],[],[],c⟩])∧New H l (A ++ [⟨p,r,o,g⟩])∧Bare (hs ++ [⟨[],[],[],c⟩]):=by
 have hro : r ≠ o:=ne_of_none (upd_same (H:=H2) (a:=r) (o:=.lst [])) go
 have hrg : r ≠ g:=ne_of_none (upd_keep (upd_same (H:=H2) (a:=r) (o:=.lst [])) go) gg
 have hrp : r ≠ p:=ne_of_none (upd_keep (upd_keep (upd_same (H:=H2) (a:=r) (o:=.lst [])) go) gg) gp
 have hog : o ≠ g:=ne_of_none (upd_same (H:=upd H2 r (.lst [])) (a:=o) (o:=.lst [])) gg
 have hop : o ≠ p:=ne_of_none (upd_keep (upd_same (H:=upd H2 r (.lst [])) (a:=o) (o:=.lst [])) gg) gp
 have hgp : g ≠ p:=ne_of_none (upd_same (H:=upd (upd H2 r (.lst [])) o (.lst [])) (a:=g) (o:=.lst [])) gp
 have no : H2 o = none:=by rw [upd_ne hro.symm] at go; exact go
 have ng : H2 g = none:=by rw [upd_ne hog.symm,upd_ne hrg.symm] at gg; exact gg
 have np : H2 p = none:=by rw [upd_ne hgp.symm,upd_ne hop.symm,upd_ne hrp.symm] at gp; exact gp
 have hnew : ∀ x,x < 4→H2 ((⟨p,r,o,g⟩ : Q4).nth x) = none:=fun x hx=>by
  rcases lt4 hx with rfl | rfl | rfl | rfl
  ·exact np
  ·exact gr
  ·exact no
  ·exact ng
 have S : Same H2 (upd (upd (upd (upd H2 r (.lst [])) o (.lst [])) g (.lst [])) p (.lst [.ref r,.ref o,.ref g,.int c])):=((((Same.refl H2).new gr).new go).new gg).new gp
 refine ⟨HouseAt.add hh S hnew (fun x y hx hy z=>?_) upd_same ?_ ?_ ?_,hn.snoc fun x hx=>s2.free (hnew x hx),fun pp hpp=>?_⟩
 ·rcases lt4 hx with rfl | rfl | rfl | rfl <;> rcases lt4 hy with rfl | rfl | rfl | rfl <;> first | rfl | (exfalso; first | exact hro z | exact hro z.symm | exact hrg z | exact hrg z.symm | exact hrp z | exact hrp z.symm | exact hog z | exact hog z.symm | exact hop z | exact hop z.symm | exact hgp z | exact hgp z.symm)
 ·exact upd_keep (upd_keep (upd_keep upd_same go) gg) gp
 ·exact upd_keep (upd_keep upd_same gg) gp
 ·exact upd_keep upd_same gp
 ·rcases List.mem_append.mp hpp with z | z
  ·exact hb pp z
  ·rw [List.mem_singleton.mp z]
   exact ⟨rfl,rfl,rfl,hc0,hc1⟩
theorem ok_begun (T : Txt K mg) : L2.Cl P w K mg base 2 "_law_begun" ["_law_script"] (spBegun K):=by
 have C_law_cell_at:=ok_cell (P:=P) (w:=w) (base:=base) T
 refine Cl.of T.d_law_begun sc_law_begun (fun vs H Q E h=>?_) (fun _ _ _ _ _ _ us hl=>by obtain ⟨a,rfl⟩:=len1 hl; rfl) (fun f cdv A outer s H vs Q E hr h=>?_)
 ·obtain ⟨a,ns,rfl,_⟩:=h
  rfl
 ·obtain ⟨a,ns,rfl,hS,q⟩:=h
  refine ⟨_,(pss_cons (ps_set (i:=1) sc_law_begun.nd rfl (Or.inl rfl) (pe_fn C_law_cell_at hr (by rfl) (pa_cons (pv 0) (pa_cons pe_int pa_nil))))
   (pss_cons (ps_set (i:=2) sc_law_begun.nd rfl (Or.inl rfl) (pe_op op_add pe_int (pe_op op_mod (pv 1) pe_int)))
   (pss_cons (ps_if (pt_cmpR op_eq (pe_op op_mod (pe_op op_fdiv (pv 1) pe_int) pe_int) pe_int (nomark _))
    (pss_one (ps_set (i:=2) sc_law_begun.nd rfl (Or.inl rfl) (pe_op op_add pe_int (pe_op op_mod (pe_op op_fdiv (pv 1) pe_int) pe_int)))) pss_nil)
   (pss_cons (ps_set (i:=3) sc_law_begun.nd rfl (Or.inl rfl) (pe_lst pa_nil))
   (pss_cons (ps_for PassesOwn.never rfl (pi_range1 (by rfl) T.n_range (pa_cons (pv 2) pa_nil)) (pg_name (i:=4) sc_law_begun.nd rfl (Or.inl rfl))
    (pss_one (ps_expr (pe_bm PySem.F.plainAttrs_list PySem.F.slot_list_append PySem.F.type_list_append mt_append (pv 3) (pa_cons (pe_lst (pa_cons (pe_lst pa_nil) (pa_cons (pe_lst pa_nil) (pa_cons (pe_lst pa_nil) (pa_cons (pe_op op_mul (pv 4) (pe_op op_mod (pe_op op_fdiv (pv 1) pe_int) pe_int)) pa_nil))))) pa_nil)))))
   (pss_one (ps_ret (pv 3)))))))),?_⟩
  refine ⟨_,rfl,a,ns,0,rfl,hS,(by decide),fun c=>?_⟩
  refine ⟨_,rfl,_,_,rfl,rfl,(by show (0 : Int) < 6; decide),_,_,rfl,rfl,?_⟩
  refine ⟨_,rfl,_,_,rfl,rfl,⟨by decide,by decide⟩,_,_,rfl,rfl,(by show (0 : Int) < 8; decide),rfl,_,rfl,ite2I (fun e1=>?_) (fun e1=>?_)⟩
  ·refine ⟨_,rfl,_,_,rfl,rfl,⟨by decide,by decide⟩,_,_,rfl,rfl,(by show (0 : Int) < 24; decide),_,_,rfl,rfl,?_⟩
   have hm1 : 1 ≤ 1 + c / 48 % 24:=by omega
   have hm2 : 1 + c / 48 % 24 ≤ 24:=by omega
   show gName 2 (V.int (1 + c / 48 % 24)) _ _ _
   generalize 1 + c / 48 % 24 = m at hm1 hm2 ⊢
   refine ⟨leS0,fun l hl=>?_⟩
   have s1 : Same H (upd H l (.lst [])):=(Same.refl H).new hl
   refine ⟨_,rfl,_,rfl,(by omega),(by omega),for_range (fun i σ H2=>∃ (A : List Q4) (hs : List Pp) (v4 : Option V),σ = [some (.ref a),some (.int c),some (.int m),some (.ref l),v4]∧Same H H2∧HouseAt H2 l A [] hs∧New H l A∧hs.length = i∧Bare hs)
    ⟨[],[],none,rfl,s1,house0 upd_same,⟨hl,fun i q x e=>by simp at e⟩,rfl,fun pp hpp=>by simp at hpp⟩ ?_ ?_⟩
   ·rintro i σ H2 hi ⟨A,hs,v4,rfl,s2,hh,hn,hlen,hb⟩
    have hk0 : 0 ≤ (0 + (i : Int)):=by omega
    have hk1 : (0 + (i : Int)) ≤ 23:=by omega
    generalize 0 + (i : Int) = k at hk0 hk1 ⊢
    have hc1 : 0 ≤ c / 6 % 5:=by omega
    have hc2 : c / 6 % 5 ≤ 4:=by omega
    have hm0 : 0 ≤ k * (c / 6 % 5):=Int.mul_nonneg hk0 hc1
    have hm3 : k * (c / 6 % 5) ≤ 23 * 4:=Int.mul_le_mul hk1 hc2 hc1 (by decide)
    refine ⟨_,rfl,.inl ⟨rfl,_,SqL.of hh.ll⟩,leS0,fun r gr=>⟨leS0,fun o go=>⟨leS0,fun g gg=>?_⟩⟩⟩
    refine ⟨_,rfl,_,rfl,_,_,rfl,rfl,⟨by decide,by decide⟩,_,_,rfl,rfl,(by show (0 : Int) < 5; decide),_,_,rfl,rfl,.inl ⟨by omega,by omega⟩,(by show 4 ≤ sizeLine; decide),fun p gp=>?_⟩
    obtain ⟨S1,S2,S3⟩:=begun_step s2 hh hn hb hm0 (by omega) gr go gg gp
    have hll:=(((((Same.refl H2).new gr).new go).new gg).new (o:=.lst [.ref r,.ref o,.ref g,.int (k * (c / 6 % 5))]) gp) _ _ hh.ll
    refine ⟨l,_,_,rfl,rfl,hll,small1000 (by rw [List.length_map,hh.len]; omega),?_⟩
    exact ⟨_,_,_,rfl,((((s2.new gr).new go).new gg).new gp).put hl,S1,S2,by rw [List.length_append,hlen]; rfl,S3⟩
   ·rintro σ H2 ⟨A,hs,v4,rfl,s2,hh,hn,hlen,hb⟩
    exact ⟨_,rfl,q l A hs _ s2 hh hn (by omega) (by omega) hb⟩
  ·have hm1 : 1 ≤ 1 + c % 6:=by omega
   have hm2 : 1 + c % 6 ≤ 24:=by omega
   show tNext _ [some (.ref a),some (.int c),some (.int (1 + c % 6)),none,none] _
   generalize 1 + c % 6 = m at hm1 hm2 ⊢
   refine ⟨leS0,fun l hl=>?_⟩
   have s1 : Same H (upd H l (.lst [])):=(Same.refl H).new hl
   refine ⟨_,rfl,_,rfl,(by omega),(by omega),for_range (fun i σ H2=>∃ (A : List Q4) (hs : List Pp) (v4 : Option V),σ = [some (.ref a),some (.int c),some (.int m),some (.ref l),v4]∧Same H H2∧HouseAt H2 l A [] hs∧New H l A∧hs.length = i∧Bare hs)
    ⟨[],[],none,rfl,s1,house0 upd_same,⟨hl,fun i q x e=>by simp at e⟩,rfl,fun pp hpp=>by simp at hpp⟩ ?_ ?_⟩
   ·rintro i σ H2 hi ⟨A,hs,v4,rfl,s2,hh,hn,hlen,hb⟩
    have hk0 : 0 ≤ (0 + (i : Int)):=by omega
    have hk1 : (0 + (i : Int)) ≤ 23:=by omega
    generalize 0 + (i : Int) = k at hk0 hk1 ⊢
    have hc1 : 0 ≤ c / 6 % 5:=by omega
    have hc2 : c / 6 % 5 ≤ 4:=by omega
    have hm0 : 0 ≤ k * (c / 6 % 5):=Int.mul_nonneg hk0 hc1
    have hm3 : k * (c / 6 % 5) ≤ 23 * 4:=Int.mul_le_mul hk1 hc2 hc1 (by decide)
    refine ⟨_,rfl,.inl ⟨rfl,_,SqL.of hh.ll⟩,leS0,fun r gr=>⟨leS0,fun o go=>⟨leS0,fun g gg=>?_⟩⟩⟩
    refine ⟨_,rfl,_,rfl,_,_,rfl,rfl,⟨by decide,by decide⟩,_,_,rfl,rfl,(by show (0 : Int) < 5; decide),_,_,rfl,rfl,.inl ⟨by omega,by omega⟩,(by show 4 ≤ sizeLine; decide),fun p gp=>?_⟩
    obtain ⟨S1,S2,S3⟩:=begun_step s2 hh hn hb hm0 (by omega) gr go gg gp
    have hll:=(((((Same.refl H2).new gr).new go).new gg).new (o:=.lst [.ref r,.ref o,.ref g,.int (k * (c / 6 % 5))]) gp) _ _ hh.ll
    refine ⟨l,_,_,rfl,rfl,hll,small1000 (by rw [List.length_map,hh.len]; omega),?_⟩
    exact ⟨_,_,_,rfl,((((s2.new gr).new go).new gg).new gp).put hl,S1,S2,by rw [List.length_append,hlen]; rfl,S3⟩
   ·rintro σ H2 ⟨A,hs,v4,rfl,s2,hh,hn,hlen,hb⟩
    exact ⟨_,rfl,q l A hs _ s2 hh hn (by omega) (by omega) hb⟩
def spFresh : Sp:=fun vs H Q _=>∃ (p r o g : Addr) (b k sh : Int),vs = [.ref p,.int b,.int k]∧H p = some (.lst [.ref r,.ref o,.ref g,.int sh])∧0 ≤ b∧b < 2147483647∧0 ≤ k∧∀ H' : Hp,Same H H'→Q (.str (nameM b ((k + sh) % 24))) H'
theorem ok_fresh (T : Txt K mg) : L2.Cl P w K mg base 2 "_law_fresh" ["_law_part", "_law_pool_here", "_law_k"] spFresh:=by
 have C_law_name:=ok_name (P:=P) (w:=w) (base:=base) T
 refine Cl.of T.d_law_fresh sc_law_fresh (fun vs H Q E h=>?_) (fun _ _ _ _ _ _ us hl=>by obtain ⟨a,b,c,rfl⟩:=len3 hl; rfl) (fun f cdv A outer s H vs Q E hr h=>?_)
 ·obtain ⟨p,r,o,g,b,k,sh,rfl,_⟩:=h
  rfl
 ·obtain ⟨p,r,o,g,b,k,sh,rfl,hp,hb0,hb1,hk,q⟩:=h
  refine ⟨_,(pss_one (ps_ret (pe_fn C_law_name hr (by rfl) (pa_cons (pv 1) (pa_cons (pe_op op_mod (pe_op op_add (pv 2) (pe_ix ix_list (pv 0) pe_int (fun _ _=>rfl))) pe_int) pa_nil))))),?_⟩
  refine ⟨_,rfl,_,rfl,_,rfl,p,_,_,_,rfl,rfl,SqL.of hp,rfl,_,_,rfl,rfl,_,_,rfl,rfl,(by show (0 : Int) < 24; decide),?_⟩
  exact ⟨b,(k + sh) % 24,rfl,hb0,hb1,by omega,by omega,q⟩
def KeepH (l : Addr) (A : List Q4) (H H' : Hp) : Prop:=∀ a o,¬ inH l A [] a→H a = some o→H' a = some o
structure PoolsAt (H : Hp) (pl l : Addr) (A : List Q4) (b0 b1 b2 : Int) : Prop where
 h : H pl = some (.lst [.int b0,.int b1,.int b2])
 n : ¬ inH l A [] pl
 r0 : 0 ≤ b0∧b0 < 2147483647
 r1 : 0 ≤ b1∧b1 < 2147483647
 r2 : 0 ≤ b2∧b2 < 2147483647
def spPairs : Sp:=fun vs H Q _=>∃ (l pl x : Addr) (A : List Q4) (hs : List Pp) (b0 b1 b2 : Int) (i j n : Nat) (pp pq : Pp) (xs : List Int),vs = [.ref l,.ref pl,.int i,.int j,.ref x]∧HouseAt H l A [] hs∧PoolsAt H pl l A b0 b1 b2∧XsAt H (inH l A []) x xs∧xs.length = 6∧Bnd xs ∧
 hs[i]? = some pp∧hs[j]? = some pq∧i ≠ j∧pp.owns = drawnN b0 pp.sh n∧n ≤ 17∧(∀ y ∈ pq.gives,NameOk y)∧pq.gives.length ≤ 100 ∧
 ∀ (m : Nat) (ps : List (Str × Str)) (q : Addr) (H' : Hp),m ≤ 6→ps.length = m→drawnN b0 pp.sh n ++ ps.map (·.2) = drawnN b0 pp.sh (n + m)→(∀ p ∈ ps,p.1 ∈ pq.gives)→PairsAt H' q ps→HouseAt H' l A [] (hs.set i { pp with owns:=drawnN b0 pp.sh (n + m) })→KeepH l A H H'→Q (.ref q) H'
theorem ok_pairs (T : Txt K mg) : L2.Cl P w K mg base 3 "_law_pairs" ["_law_house", "_law_pools_here", "_law_here", "_law_other", "_law_xs"] spPairs:=by
 have C_law_fresh:=ok_fresh (P:=P) (w:=w) (base:=base) T
 refine Cl.of T.d_law_pairs sc_law_pairs (fun vs H Q E h=>?_) (fun _ _ _ _ _ _ us hl=>match us,hl with | [_,_,_,_,_],_=>rfl) (fun f cdv A' outer s H vs Q E hr h=>?_)
 ·obtain ⟨l,pl,x,A,hs,b0,b1,b2,i,j,n,pp,pq,xs,rfl,_⟩:=h
  rfl
 ·obtain ⟨l,pl,x,A,hs,b0,b1,b2,i,j,n,pp,pq,xs,rfl,hh,hpl,⟨hx,hxn⟩,hx6,hxb,ei,ej,hij,hown,hn,hgo,hgl,q⟩:=h
  obtain ⟨qi,eqi⟩ : ∃ q,A[i]? = some q:=⟨A[i]'(by rw [hh.len]; exact (List.getElem?_eq_some_iff.mp ei).1),by simp [hh.len,(List.getElem?_eq_some_iff.mp ei).1]⟩
  obtain ⟨qj,eqj⟩ : ∃ q,A[j]? = some q:=⟨A[j]'(by rw [hh.len]; exact (List.getElem?_eq_some_iff.mp ej).1),by simp [hh.len,(List.getElem?_eq_some_iff.mp ej).1]⟩
  have mi : (A.map fun q=>V.ref q.p)[i]? = some (.ref qi.p):=by rw [List.getElem?_map,eqi]; rfl
  have mj : (A.map fun q=>V.ref q.p)[j]? = some (.ref qj.p):=by rw [List.getElem?_map,eqj]; rfl
  have Pi:=hh.pt i qi pp eqi ei
  have Pj:=hh.pt j qj pq eqj ej
  have hx2 : ∀ k : Int,0 ≤ k→k < 6→0 ≤ xs.getD k.toNat 0∧xs.getD k.toNat 0 < 2147483647:=fun k h0 h1=>by
   have hk : k.toNat < xs.length:=by omega
   rw [List.getD_eq_getElem?_getD,List.getElem?_eq_getElem hk]
   exact hxb _ (List.getElem_mem hk)
  refine ⟨_,(pss_cons (ps_set (i:=5) sc_law_pairs.nd rfl (Or.inl rfl) (pe_ix ix_list (pv 0) (pv 2) (fun _ _=>rfl)))
   (pss_cons (ps_set (i:=6) sc_law_pairs.nd rfl (Or.inl rfl) (pe_ix ix_list (pe_ix ix_list (pv 0) (pv 3) (fun _ _=>rfl)) pe_int (fun _ _=>rfl)))
   (pss_cons (ps_set (i:=7) sc_law_pairs.nd rfl (Or.inl rfl) (pe_lst pa_nil))
   (pss_cons (ps_for PassesOwn.never rfl (pi_range1 (by rfl) T.n_range (pa_cons (pe_callB (call_min2 rfl) (by rfl) T.n_min boot_min (pa_cons (pe_callB call_len_seq (by rfl) T.n_len PySem.boot_len (pa_cons (pv 6) pa_nil)) (pa_cons (pe_op op_add (pe_op op_mod (pe_ix ix_list (pv 4) pe_int (fun _ _=>rfl)) pe_int) (pe_op op_mul (pe_op op_fdiv (pe_op op_mod (pe_op op_fdiv (pe_ix ix_list (pv 4) pe_int (fun _ _=>rfl)) pe_int) pe_int) pe_int) pe_int)) pa_nil))) pa_nil)) (pg_name (i:=8) sc_law_pairs.nd rfl (Or.inl rfl))
    (pss_cons (ps_set (i:=9) sc_law_pairs.nd rfl (Or.inl rfl) (pe_fn C_law_fresh hr (by rfl) (pa_cons (pv 5) (pa_cons (pe_ix ix_list (pv 1) pe_int (fun _ _=>rfl)) (pa_cons (pe_callB call_len_seq (by rfl) T.n_len PySem.boot_len (pa_cons (pe_ix ix_list (pv 5) pe_int (fun _ _=>rfl)) pa_nil)) pa_nil)))))
    (pss_cons (ps_expr (pe_bm PySem.F.plainAttrs_list PySem.F.slot_list_append PySem.F.type_list_append mt_append (pe_ix ix_list (pv 5) pe_int (fun _ _=>rfl)) (pa_cons (pv 9) pa_nil)))
    (pss_one (ps_expr (pe_bm PySem.F.plainAttrs_list PySem.F.slot_list_append PySem.F.type_list_append mt_append (pv 7) (pa_cons (pe_tup (pa_cons (pe_ix ix_list (pv 6) (pe_op op_mod (pe_op op_add (pe_ix ix_list (pv 4) pe_int (fun _ _=>rfl)) (pe_op op_mul (pv 8) (pe_op op_mod (pe_op op_fdiv (pe_ix ix_list (pv 4) pe_int (fun _ _=>rfl)) pe_int) pe_int))) (pe_callB call_len_seq (by rfl) T.n_len PySem.boot_len (pa_cons (pv 6) pa_nil))) (fun _ _=>rfl)) (pa_cons (pv 9) pa_nil))) pa_nil)))))))
   (pss_one (ps_ret (pe_callTy call_tuple_of (by rfl) T.n_tuple boot_tuple (pa_cons (pv 7) pa_nil)))))))),?_⟩
  refine ⟨_,rfl,_,rfl,l,_,_,_,rfl,rfl,SqL.of hh.ll,atI_nat mi,?_⟩
  refine ⟨_,rfl,_,rfl,l,_,_,_,rfl,rfl,SqL.of hh.ll,atI_nat mj,qj.p,_,_,_,rfl,rfl,SqL.of Pj.p,rfl,?_⟩
  refine ⟨leS0,fun d hd=>?_⟩
  have s1 : Same H (upd H d (.lst [])):=(Same.refl H).new hd
  refine ⟨_,rfl,qj.g,_,rfl,.inl (SqL.of (s1 _ _ Pj.g)),?_⟩
  refine ⟨_,rfl,x,_,_,_,rfl,rfl,SqL.of (s1 _ _ hx),atI_map V.int xs 0 (by decide) (by omega),_,_,rfl,rfl,(by show (0 : Int) < 4; decide),?_⟩
  refine ⟨_,rfl,x,_,_,_,rfl,rfl,SqL.of (s1 _ _ hx),atI_map V.int xs 0 (by decide) (by omega),_,_,rfl,rfl,⟨by decide,by decide⟩,_,_,rfl,rfl,(by show (0 : Int) < 8; decide),_,_,rfl,rfl,⟨by decide,by decide⟩,_,_,rfl,rfl,.inl ⟨by omega,by omega⟩,_,_,rfl,rfl,?_⟩
  have hE0 : 0 ≤ xs.getD (2 : Int).toNat 0 % 4 + xs.getD (2 : Int).toNat 0 / 4 % 8 / 7 * 3:=by omega
  have hE1 : xs.getD (2 : Int).toNat 0 % 4 + xs.getD (2 : Int).toNat 0 / 4 % 8 / 7 * 3 ≤ 6:=by omega
  refine ⟨_,_,rfl,?_⟩
  have hL : ((pq.gives.map V.str).length : Int) = pq.gives.length:=by rw [List.length_map]
  have hM0 : 0 ≤ (if xs.getD (2 : Int).toNat 0 % 4 + xs.getD (2 : Int).toNat 0 / 4 % 8 / 7 * 3 < ((pq.gives.map V.str).length : Int) then xs.getD (2 : Int).toNat 0 % 4 + xs.getD (2 : Int).toNat 0 / 4 % 8 / 7 * 3 else ((pq.gives.map V.str).length : Int)):=by split <;> omega
  have hM1 : (if xs.getD (2 : Int).toNat 0 % 4 + xs.getD (2 : Int).toNat 0 / 4 % 8 / 7 * 3 < ((pq.gives.map V.str).length : Int) then xs.getD (2 : Int).toNat 0 % 4 + xs.getD (2 : Int).toNat 0 / 4 % 8 / 7 * 3 else ((pq.gives.map V.str).length : Int)) ≤ 6:=by split <;> omega
  have hM2 : (if xs.getD (2 : Int).toNat 0 % 4 + xs.getD (2 : Int).toNat 0 / 4 % 8 / 7 * 3 < ((pq.gives.map V.str).length : Int) then xs.getD (2 : Int).toNat 0 % 4 + xs.getD (2 : Int).toNat 0 / 4 % 8 / 7 * 3 else ((pq.gives.map V.str).length : Int)) ≤ pq.gives.length:=by split <;> omega
  generalize (if xs.getD (2 : Int).toNat 0 % 4 + xs.getD (2 : Int).toNat 0 / 4 % 8 / 7 * 3 < ((pq.gives.map V.str).length : Int) then xs.getD (2 : Int).toNat 0 % 4 + xs.getD (2 : Int).toNat 0 / 4 % 8 / 7 * 3 else ((pq.gives.map V.str).length : Int)) = M at hM0 hM1 hM2 ⊢
  have e0 : hs.set i { pp with owns:=drawnN b0 pp.sh (n + 0) } = hs:=by
   rw [Nat.add_zero,← hown]
   obtain ⟨hlt,he⟩:=List.getElem?_eq_some_iff.mp ei
   rw [← he]
   exact List.set_getElem_self hlt
  have hset : ∀ pp' : Pp,(hs.set i pp')[i]? = some pp':=fun pp'=>List.getElem?_set_self (List.getElem?_eq_some_iff.mp ei).1
  have hsetj : ∀ pp' : Pp,(hs.set i pp')[j]? = some pq:=fun pp'=>by rw [List.getElem?_set_ne hij]; exact ej
  refine ⟨_,rfl,(by omega),(by omega),for_range (fun t σ H2=>∃ (ps : List (Str × Str)) (vs : List V) (v8 v9 : Option V),σ = [some (.ref l),some (.ref pl),some (.int i),some (.int j),some (.ref x),some (.ref qi.p),some (.ref qj.g),some (.ref d),v8,v9]∧HouseAt H2 l A [d] (hs.set i { pp with owns:=drawnN b0 pp.sh (n + t) })∧KeepH l A H H2∧H2 d = some (.lst vs)∧L2.Pairs H2 vs ps∧ps.length = t∧drawnN b0 pp.sh n ++ ps.map (·.2) = drawnN b0 pp.sh (n + t)∧∀ p ∈ ps,p.1 ∈ pq.gives)
   ⟨[],[],none,none,rfl,by rw [e0]; exact (hh.aside hd).same s1,fun a o _ e=>s1 _ _ e,upd_same,.nil,rfl,by simp,fun p hp=>by simp at hp⟩ ?_ ?_⟩
  ·rintro t σ H2 ht ⟨ps,vs,v8,v9,rfl,h2,k2,hd2,hps,hpl2,hdr,hgv⟩
   have P2:=h2.pt i qi _ eqi (hset _)
   have hot : ((({ pp with owns:=drawnN b0 pp.sh (n + t) } : Pp).owns.map V.str).length : Int) = ((n + t : Nat) : Int):=by rw [List.length_map]; show ((drawnN b0 pp.sh (n + t)).length : Int) = _; rw [drawnN_len]
   refine ⟨_,rfl,_,rfl,pl,_,_,_,rfl,rfl,SqL.of (k2 _ _ hpl.n hpl.h),rfl,_,rfl,qi.p,_,_,_,rfl,rfl,SqL.of P2.p,rfl,qi.o,_,rfl,.inl (SqL.of P2.o),?_⟩
   refine ⟨qi.p,qi.r,qi.o,qi.g,b0,_,pp.sh,rfl,P2.p,hpl.r0.1,hpl.r0.2,by omega,fun H3 s3=>?_⟩
   rw [hot]
   have P3:=(h2.same s3).pt i qi _ eqi (hset _)
   refine ⟨_,rfl,qi.p,_,_,_,rfl,rfl,SqL.of P3.p,rfl,.inl ⟨rfl,_,SqL.of P3.o⟩,_,rfl,qi.o,_,_,rfl,rfl,P3.o,small1000 (by rw [List.length_map]; show (drawnN b0 pp.sh (n + t)).length ≤ 1000; rw [drawnN_len]; omega),?_⟩
   have h4 : HouseAt (upd H3 (qi.nth 2) (.lst (({ pp with owns:=drawnN b0 pp.sh (n + t) } : Pp).owns.map V.str ++ [.str (nameM b0 ((((n + t : Nat) : Int) + pp.sh) % 24))]))) l A [d] ((hs.set i { pp with owns:=drawnN b0 pp.sh (n + t) }).set i { pp with owns:=drawnN b0 pp.sh (n + (t + 1)) }):=by
    refine (h2.same s3).put eqi (hset _) (by omega) (fun H' eH TT KK o4=>?_) ⟨_,P3.o⟩
    obtain ⟨rv,r1,r2⟩:=P3.r
    refine ⟨(o4 0 (by omega) (by omega)).trans P3.p,⟨rv,(o4 1 (by omega) (by omega)).trans r1,Paired.mapP r2 fun _ _ y=>y.keep TT fun a as ha hv=>⟨KK a as ha hv,ha⟩⟩,?_,(o4 3 (by omega) (by omega)).trans P3.g⟩
    rw [eH]
    show upd H3 qi.o _ qi.o = _
    rw [upd_same]
    show _ = some (HO.lst ((drawnN b0 pp.sh (n + t + 1)).map V.str))
    rw [drawnN_succ,List.map_append]
    rfl
   rw [List.set_set] at h4
   have T4 : Tups H3 (upd H3 qi.o (.lst (({ pp with owns:=drawnN b0 pp.sh (n + t) } : Pp).owns.map V.str ++ [.str (nameM b0 ((((n + t : Nat) : Int) + pp.sh) % 24))]))):=Tups.lst P3.o
   have k4 : KeepH l A H (upd H3 qi.o (.lst (({ pp with owns:=drawnN b0 pp.sh (n + t) } : Pp).owns.map V.str ++ [.str (nameM b0 ((((n + t : Nat) : Int) + pp.sh) % 24))]))):=fun a o ha e=>by
    have hne : a ≠ qi.o:=fun z=>ha (Or.inr (Or.inr ⟨i,qi,2,eqi,by omega,z.symm⟩))
    rw [upd_ne hne]
    exact s3 _ _ (k2 a o ha e)
   have hd4 : upd H3 qi.o (.lst (({ pp with owns:=drawnN b0 pp.sh (n + t) } : Pp).owns.map V.str ++ [.str (nameM b0 ((((n + t : Nat) : Int) + pp.sh) % 24))])) d = some (.lst vs):=by
    have hne : d ≠ qi.o:=((h2.xl d List.mem_cons_self).2 i qi 2 eqi (by omega)).symm
    rw [upd_ne hne]
    exact s3 _ _ hd2
   have h4' : HouseAt (upd H3 qi.o (.lst (({ pp with owns:=drawnN b0 pp.sh (n + t) } : Pp).owns.map V.str ++ [.str (nameM b0 ((((n + t : Nat) : Int) + pp.sh) % 24))]))) l A [d] (hs.set i { pp with owns:=drawnN b0 pp.sh (n + (t + 1)) }):=h4
   have ps4 : L2.Pairs (upd H3 qi.o (.lst (({ pp with owns:=drawnN b0 pp.sh (n + t) } : Pp).owns.map V.str ++ [.str (nameM b0 ((((n + t : Nat) : Int) + pp.sh) % 24))]))) vs ps:=hps.mono (s3.tups.trans T4)
   clear h4
   generalize upd H3 qi.o (.lst (({ pp with owns:=drawnN b0 pp.sh (n + t) } : Pp).owns.map V.str ++ [.str (nameM b0 ((((n + t : Nat) : Int) + pp.sh) % 24))])) = H4 at T4 k4 hd4 h4' ps4 ⊢
   have Pj4:=h4'.pt j qj pq eqj (hsetj _)
   have hgp : 0 < ((pq.gives.map V.str).length : Int):=by rw [hL]; omega
   obtain ⟨x30,x31⟩:=hx2 3 (by decide) (by decide)
   have hid0 : 0 ≤ (xs.getD (3 : Int).toNat 0 + (0 + (t : Int)) * (xs.getD (3 : Int).toNat 0 / 7 % 2)) % ((pq.gives.map V.str).length : Int):=Int.emod_nonneg _ (by omega)
   have hid1 : (xs.getD (3 : Int).toNat 0 + (0 + (t : Int)) * (xs.getD (3 : Int).toNat 0 / 7 % 2)) % ((pq.gives.map V.str).length : Int) < (pq.gives.length : Int):=by rw [← hL]; exact Int.emod_lt_of_pos _ hgp
   refine ⟨_,rfl,.inl ⟨rfl,_,SqL.of hd4⟩,_,rfl,_,rfl,x,_,_,_,rfl,rfl,SqL.of (k4 _ _ hxn hx),atI_map V.int xs 0 (by decide) (by omega),?_⟩
   refine ⟨_,rfl,_,rfl,x,_,_,_,rfl,rfl,SqL.of (k4 _ _ hxn hx),atI_map V.int xs 0 (by decide) (by omega),_,_,rfl,rfl,⟨by decide,by decide⟩,_,_,rfl,rfl,(by show (0 : Int) < 2; decide),_,_,rfl,rfl,.inl ⟨by omega,by omega⟩,_,_,rfl,rfl,?_⟩
   refine ⟨_,rfl,qj.g,_,rfl,.inl (SqL.of Pj4.g),_,_,rfl,rfl,hgp,qj.g,_,_,_,rfl,rfl,SqL.of Pj4.g,atI_map V.str pq.gives "" hid0 hid1,_,rfl,leS2,fun tp htp=>?_⟩
   have s5 : Same H4 (upd H4 tp (.tup [.str (pq.gives.getD ((xs.getD (3 : Int).toNat 0 + (0 + (t : Int)) * (xs.getD (3 : Int).toNat 0 / 7 % 2)) % ((pq.gives.map V.str).length : Int)).toNat ""),.str (nameM b0 ((((n + t : Nat) : Int) + pp.sh) % 24))])):=(Same.refl H4).new htp
   refine ⟨d,_,_,rfl,rfl,s5 _ _ hd4,small1000 (by rw [Paired.length ps4,hpl2]; omega),?_⟩
   have hdt : tp ≠ d:=fun z=>by rw [z,hd4] at htp; cases htp
   have T6:=s5.tups.trans (Tups.lst (ys:=vs ++ [.ref tp]) (s5 _ _ hd4))
   refine ⟨ps ++ [(pq.gives.getD ((xs.getD (3 : Int).toNat 0 + (0 + (t : Int)) * (xs.getD (3 : Int).toNat 0 / 7 % 2)) % ((pq.gives.map V.str).length : Int)).toNat "",nameM b0 ((((n + t : Nat) : Int) + pp.sh) % 24))],vs ++ [.ref tp],_,_,rfl,(h4'.same s5).other List.mem_cons_self (s5 _ _ hd4),fun a o ha e=>?_,upd_same,Paired.snoc (ps4.mono T6) ⟨tp,rfl,?_,?_,?_⟩,by rw [List.length_append,hpl2]; rfl,?_,fun p hp=>?_⟩
   ·rw [upd_ne (fun z=>by rw [z,hd] at e; cases e)]
    exact s5 _ _ (k4 a o ha e)
   ·rw [upd_ne hdt,upd_same]
   ·have hlt : ((xs.getD (3 : Int).toNat 0 + (0 + (t : Int)) * (xs.getD (3 : Int).toNat 0 / 7 % 2)) % ((pq.gives.map V.str).length : Int)).toNat < pq.gives.length:=by omega
    rw [List.getD_eq_getElem?_getD,List.getElem?_eq_getElem hlt]
    exact hgo _ (List.getElem_mem hlt)
   ·exact nameM_ok hpl.r0.1
   ·rw [List.map_append,← List.append_assoc,hdr,← Nat.add_assoc,drawnN_succ]; rfl
   ·rcases List.mem_append.mp hp with z | z
    ·exact hgv p z
    ·rw [List.mem_singleton.mp z]
     have hlt : ((xs.getD (3 : Int).toNat 0 + (0 + (t : Int)) * (xs.getD (3 : Int).toNat 0 / 7 % 2)) % ((pq.gives.map V.str).length : Int)).toNat < pq.gives.length:=by omega
     show pq.gives.getD _ "" ∈ _
     rw [List.getD_eq_getElem?_getD,List.getElem?_eq_getElem hlt]
     exact List.getElem_mem hlt
  ·rintro σ H2 ⟨ps,vs,v8,v9,rfl,h2,k2,hd2,hps,hpl2,hdr,hgv⟩
   refine ⟨_,rfl,d,_,rfl,.inl ⟨SqL.of hd2,fun b gb=>?_⟩⟩
   have s3 : Same H2 (upd H2 b (.tup vs)):=(Same.refl H2).new gb
   exact q M.toNat ps b _ (by omega) hpl2 hdr hgv ⟨⟨vs,upd_same,hps.mono s3.tups⟩,by omega⟩ ((h2.same s3).back) (fun a o ha e=>s3 _ _ (k2 a o ha e))
def spPools (K : PySem.W.Frag) : Sp:=fun vs H Q _=>∃ (a : Addr) (ns : List Int),vs = [.ref a]∧SqL K H a (ns.map V.int)∧∀ (l : Addr) (b0 b1 b2 : Int) (H' : Hp),Same H H'→H l = none→H' l = some (.lst [.int b0,.int b1,.int b2])→(0 ≤ b0∧b0 < 2147483647)→(0 ≤ b1∧b1 < 2147483647)→(0 ≤ b2∧b2 < 2147483647)→Q (.ref l) H'
theorem pick2 (x y : Int) {k : Int} (h0 : 0 ≤ k) (h1 : k < 2) : atI [V.int x,V.int y] k = some (V.int (if k = 0 then x else y)):=by
 have : k = 0∨k = 1:=by omega
 rcases this with rfl | rfl <;> rfl
theorem ok_pools (T : Txt K mg) : L2.Cl P w K mg base 3 "_law_pools" ["_law_script"] (spPools K):=by
 have C_law_cell_at:=ok_cell (P:=P) (w:=w) (base:=base) T
 have C_law_pool:=ok_pool (P:=P) (w:=w) (base:=base) T
 refine Cl.of T.d_law_pools sc_law_pools (fun vs H Q E h=>?_) (fun _ _ _ _ _ _ us hl=>by obtain ⟨a,rfl⟩:=len1 hl; rfl) (fun f cdv A outer s H vs Q E hr h=>?_)
 ·obtain ⟨a,ns,rfl,_⟩:=h
  rfl
 ·obtain ⟨a,ns,rfl,hS,q⟩:=h
  refine ⟨_,(pss_cons (ps_set (i:=1) sc_law_pools.nd rfl (Or.inl rfl) (pe_fn C_law_cell_at hr (by rfl) (pa_cons (pv 0) (pa_cons pe_int pa_nil))))
   (pss_cons (ps_set (i:=2) sc_law_pools.nd rfl (Or.inl rfl) (pe_fn C_law_pool hr (by rfl) (pa_cons (pv 0) (pa_cons pe_int pa_nil))))
   (pss_cons (ps_set (i:=3) sc_law_pools.nd rfl (Or.inl rfl) (pe_fn C_law_pool hr (by rfl) (pa_cons (pv 0) (pa_cons pe_int pa_nil))))
   (pss_one (ps_ret (pe_lst (pa_cons (pv 2) (pa_cons (pe_ix ix_list (pe_lst (pa_cons (pv 2) (pa_cons (pv 3) pa_nil))) (pe_op op_mod (pe_op op_fdiv (pv 1) pe_int) pe_int) (fun _ _=>rfl)) (pa_cons (pe_ix ix_list (pe_lst (pa_cons (pv 2) (pa_cons (pv 3) pa_nil))) (pe_op op_mod (pe_op op_fdiv (pv 1) pe_int) pe_int) (fun _ _=>rfl)) pa_nil))))))))),?_⟩
  refine ⟨_,rfl,a,ns,0,rfl,hS,(by decide),fun c=>?_⟩
  refine ⟨_,rfl,a,ns,1,rfl,hS,(by decide),fun x hx0 hx1=>?_⟩
  refine ⟨_,rfl,a,ns,2,rfl,hS,(by decide),fun y hy0 hy1=>?_⟩
  refine ⟨_,rfl,_,rfl,_,rfl,leS2,fun u hu=>?_⟩
  refine ⟨_,rfl,_,_,rfl,rfl,⟨by decide,by decide⟩,_,_,rfl,rfl,(by show (0 : Int) < 2; decide),u,_,_,_,rfl,rfl,SqL.of upd_same,pick2 x y (by omega) (by omega),?_⟩
  refine ⟨_,rfl,_,rfl,leS2,fun v hv=>?_⟩
  refine ⟨_,rfl,_,_,rfl,rfl,⟨by decide,by decide⟩,_,_,rfl,rfl,(by show (0 : Int) < 2; decide),v,_,_,_,rfl,rfl,SqL.of upd_same,pick2 x y (by omega) (by omega),?_⟩
  refine ⟨leS3,fun l hl=>?_⟩
  have s2:=(((Same.refl H).new (o:=.lst [.int x,.int y]) hu).new (o:=.lst [.int x,.int y]) hv)
  refine q l _ _ _ _ (s2.new hl) (s2.free hl) upd_same ⟨hx0,hx1⟩ ?_ ?_
  ·split <;> constructor <;> assumption
  ·split <;> constructor <;> assumption
theorem inV_strs (x : Str) : ∀ l : List Str,inV (.str x) (l.map V.str) = decide (x ∈ l)
 | []=>by simp [inV]
 | a :: r=>by
  have ih:=inV_strs x r
  unfold inV at ih ⊢
  rw [List.map_cons,List.any_cons,ih]
  by_cases e : a = x
  ·subst e; simp [eqV]
  ·have h2 : ¬ x = a:=fun z=>e z.symm
   simp [eqV,e,h2]
theorem flat_strs (l : List Str) : (l.map V.str).all flatV = true:=by
 induction l with
 | nil=>rfl
 | cons a r ih=>rw [List.map_cons,List.all_cons,ih]; rfl
theorem xs_rng {xs : List Int} (h6 : xs.length = 6) (hb : Bnd xs) (k : Int) (h0 : 0 ≤ k) (h1 : k < 6) : 0 ≤ xs.getD k.toNat 0∧xs.getD k.toNat 0 < 2147483647:=by
 have hk : k.toNat < xs.length:=by omega
 rw [List.getD_eq_getElem?_getD,List.getElem?_eq_getElem hk]
 exact hb _ (List.getElem_mem hk)
def spSum : Sp:=fun vs H Q _=>∃ (o x : Addr) (ws : List Str) (xs : List Int),vs = [.ref o,.ref x]∧H o = some (.lst (ws.map V.str))∧(∀ y ∈ ws,NameOk y)∧H x = some (.lst (xs.map V.int))∧xs.length = 6∧Bnd xs ∧
 ∀ (t : Addr) (ts : List (Int × Th)) (H' : Hp),Same H H'→TermsAt H' t ts→SumOk ts→(∀ d ∈ ts,∀ y,d.2 = Th.nam y→y ∈ ws)→Q (.ref t) H'
theorem sgn_at (t n : Int) (h0 : 0 ≤ t) : atI [V.int 1,V.int 1,V.int (-1)] ((if (1 : Int) < t then 1 else t) * (1 + n / 7 % 2)) = some (.int (if t = 0 then 1 else if n / 7 % 2 = 0 then 1 else -1)):=by
 have h7 : n / 7 % 2 = 0∨n / 7 % 2 = 1:=by omega
 by_cases e : t = 0
 ·subst e
  rcases h7 with z | z <;> rw [z] <;> rfl
 ·have : (if (1 : Int) < t then 1 else t) = 1:=by split <;> omega
  rw [this,if_neg e]
  rcases h7 with z | z <;> rw [z] <;> rfl
theorem gen_gName {i : Nat} {σ : L2.St} {H : Hp} {Q : L2.St→Hp→Prop} (C : Int→Prop) (k0 : Int) (h0 : C k0) (h : ∀ kd : Int,C kd→gName i (V.int kd) σ H Q) : gName i (V.int k0) σ H Q:=h k0 h0
theorem sum_leaf {H H2 H5 : Hp} {o x l tp : Addr} {ws : List Str} {vs : List V} {ts : List (Int × Th)} {i : Nat} {n : Int} {a b c : Option V} (hl : H l = none) (s2 : Same H H2) (hl2 : H2 l = some (.lst vs)) (hts : Terms H2 vs ts) (hlen : ts.length = i) (hsg : ∀ d ∈ ts,d.1 = 1∨d.1 = -1) (hhd : ∀ d,ts.head? = some d→d.1 = 1) (hth : ∀ d ∈ ts,ThOk d.2) (hnm : ∀ d ∈ ts,∀ y,d.2 = Th.nam y→y ∈ ws)
  (s5 : Same H2 H5) {th : Th} (htp : H5 tp = some (.tup [.int (if (i : Int) = 0 then 1 else if n / 7 % 2 = 0 then 1 else -1),thV th])) (hok : ThOk th) (hin : ∀ y,th = .nam y→y ∈ ws) :
  ∃ (vs' : List V) (ts' : List (Int × Th)) (v3 v4 v5 : Option V),[some (V.ref o),some (V.ref x),some (V.ref l),a,b,c] = [some (.ref o),some (.ref x),some (.ref l),v3,v4,v5]∧Same H (upd H5 l (.lst (vs ++ [.ref tp])))∧upd H5 l (.lst (vs ++ [.ref tp])) l = some (.lst vs')∧Terms (upd H5 l (.lst (vs ++ [.ref tp]))) vs' ts'∧ts'.length = i + 1∧(∀ d ∈ ts',d.1 = 1∨d.1 = -1)∧(∀ d,ts'.head? = some d→d.1 = 1)∧(∀ d ∈ ts',ThOk d.2)∧(∀ d ∈ ts',∀ y,d.2 = Th.nam y→y ∈ ws):=by
 have h5l:=s5 _ _ hl2
 have T : Tups H2 (upd H5 l (.lst (vs ++ [.ref tp]))):=s5.tups.trans (Tups.lst h5l)
 have hne : tp ≠ l:=fun z=>by rw [z,h5l] at htp; cases htp
 have hsn : (if (i : Int) = 0 then (1 : Int) else if n / 7 % 2 = 0 then 1 else -1) = 1∨(if (i : Int) = 0 then (1 : Int) else if n / 7 % 2 = 0 then 1 else -1) = -1:=by
  split
  ·exact .inl rfl
  ·split
   ·exact .inl rfl
   ·exact .inr rfl
 refine ⟨vs ++ [.ref tp],ts ++ [((if (i : Int) = 0 then 1 else if n / 7 % 2 = 0 then 1 else -1),th)],a,b,c,rfl,(s2.trans s5).put hl,upd_same,Paired.snoc (hts.mono T) ⟨tp,rfl,by rw [upd_ne hne]; exact htp,hok⟩,by rw [List.length_append,hlen]; rfl,fun d hd=>?_,fun d hd=>?_,fun d hd=>?_,fun d hd=>?_⟩
 ·rcases List.mem_append.mp hd with z | z
  ·exact hsg d z
  ·rw [List.mem_singleton.mp z]; exact hsn
 ·cases ts with
  | nil =>
   simp only [List.nil_append,List.head?_cons,Option.some.injEq] at hd
   rw [← hd,← hlen]
   rfl
  | cons p r=>exact hhd d hd
 ·rcases List.mem_append.mp hd with z | z
  ·exact hth d z
  ·rw [List.mem_singleton.mp z]; exact hok
 ·rcases List.mem_append.mp hd with z | z
  ·exact hnm d z
  ·rw [List.mem_singleton.mp z]; exact hin
theorem ok_sum (T : Txt K mg) : L2.Cl P w K mg base 1 "_law_sum" ["_law_owns", "_law_xs"] spSum:=by
 refine Cl.of T.d_law_sum sc_law_sum (fun vs H Q E h=>?_) (fun _ _ _ _ _ _ us hl=>by obtain ⟨a,b,rfl⟩:=len2 hl; rfl) (fun f cdv A outer s H vs Q E hr h=>?_)
 ·obtain ⟨o,x,ws,xs,rfl,_⟩:=h
  rfl
 ·obtain ⟨o,x,ws,xs,rfl,ho,hws,hx,h6,hb,q⟩:=h
  have hu0:=Nat.lt_of_succ_lt (hu_of hr)
  have R:=xs_rng h6 hb
  refine ⟨_,(pss_cons (ps_set (i:=2) sc_law_sum.nd rfl (Or.inl rfl) (pe_lst pa_nil))
   (pss_cons (ps_for PassesOwn.never rfl (pi_range1 (by rfl) T.n_range (pa_cons (pe_op op_add (pe_op op_add pe_int (pe_op op_mod (pe_op op_fdiv (pe_ix ix_list (pv 1) pe_int (fun _ _=>rfl)) pe_int) pe_int)) (pe_op op_mul (pe_op op_fdiv (pe_op op_mod (pe_op op_fdiv (pe_ix ix_list (pv 1) pe_int (fun _ _=>rfl)) pe_int) pe_int) pe_int) pe_int)) pa_nil)) (pg_name (i:=3) sc_law_sum.nd rfl (Or.inl rfl))
    (pss_cons (ps_set (i:=4) sc_law_sum.nd rfl (Or.inl rfl) (pe_op op_mod (pe_op op_mul (pe_op op_add (pe_ix ix_list (pv 1) pe_int (fun _ _=>rfl)) (pe_op op_mul (pe_op op_mul pe_int (pv 3)) (pv 3))) (pe_op op_add (pe_ix ix_list (pv 1) pe_int (fun _ _=>rfl)) (pv 3))) pe_int))
    (pss_cons (ps_set (i:=5) sc_law_sum.nd rfl (Or.inl rfl) (pe_op op_mod (pv 4) pe_int))
    (pss_cons (ps_if (pt_cmpR op_eq (pe_op op_mod (pe_op op_fdiv (pv 4) pe_int) pe_int) pe_int (nomark _))
     (pss_one (ps_set (i:=5) sc_law_sum.nd rfl (Or.inl rfl) (pe_op op_mod (pe_op op_mul (pe_op op_mul (pe_op op_mul (pe_op op_mul (pe_op op_mul (pe_op op_add (pv 4) pe_int) (pe_ix ix_list (pv 1) pe_int (fun _ _=>rfl))) (pe_ix ix_list (pv 1) pe_int (fun _ _=>rfl))) (pe_ix ix_list (pv 1) pe_int (fun _ _=>rfl))) (pe_ix ix_list (pv 1) pe_int (fun _ _=>rfl))) (pe_ix ix_list (pv 1) pe_int (fun _ _=>rfl))) (pe_op op_pow pe_int pe_int)))) pss_nil)
    (pss_cons (ps_if (PW.pt (pw_and (pt_cmpR (op_neL_nil hu0) (pv 0) (pe_lst pa_nil) (nomark _)) (pw_and1 (pt_cmpR op_gt (pe_op op_mod (pe_op op_fdiv (pv 4) pe_int) pe_int) pe_int (nomark _)))))
     (pss_one (ps_set (i:=5) sc_law_sum.nd rfl (Or.inl rfl) (pe_ix ix_list (pv 0) (pe_op op_mod (pe_op op_fdiv (pv 4) pe_int) (pe_callB call_len_seq (by rfl) T.n_len PySem.boot_len (pa_cons (pv 0) pa_nil))) (fun _ _=>rfl)))) pss_nil)
    (pss_one (ps_expr (pe_bm PySem.F.plainAttrs_list PySem.F.slot_list_append PySem.F.type_list_append mt_append (pv 2) (pa_cons (pe_tup (pa_cons (pe_ix ix_list (pe_lst (pa_cons pe_int (pa_cons pe_int (pa_cons (pe_un un_neg pe_int) pa_nil)))) (pe_op op_mul (pe_callB (call_min2 rfl) (by rfl) T.n_min boot_min (pa_cons (pv 3) (pa_cons pe_int pa_nil))) (pe_op op_add pe_int (pe_op op_mod (pe_op op_fdiv (pv 4) pe_int) pe_int))) (fun _ _=>rfl)) (pa_cons (pv 5) pa_nil))) pa_nil)))))))))
   (pss_one (ps_ret (pe_callTy call_tuple_of (by rfl) T.n_tuple boot_tuple (pa_cons (pv 2) pa_nil)))))),?_⟩
  refine ⟨leS0,fun l hl=>?_⟩
  have s1 : Same H (upd H l (.lst [])):=(Same.refl H).new hl
  refine ⟨_,rfl,x,_,_,_,rfl,rfl,SqL.of (s1 _ _ hx),atI_map V.int xs 0 (by decide) (by omega),_,_,rfl,rfl,⟨by decide,by decide⟩,_,_,rfl,rfl,(by show (0 : Int) < 3; decide),_,_,rfl,rfl,?_⟩
  refine ⟨_,rfl,x,_,_,_,rfl,rfl,SqL.of (s1 _ _ hx),atI_map V.int xs 0 (by decide) (by omega),_,_,rfl,rfl,⟨by decide,by decide⟩,_,_,rfl,rfl,(by show (0 : Int) < 4; decide),_,_,rfl,rfl,⟨by decide,by decide⟩,_,_,rfl,rfl,.inl ⟨by omega,by omega⟩,_,_,rfl,rfl,?_⟩
  have hM0 : 1 ≤ 1 + xs.getD (1 : Int).toNat 0 / 4 % 3 + xs.getD (1 : Int).toNat 0 / 12 % 4 / 3 * 3:=by omega
  have hM1 : 1 + xs.getD (1 : Int).toNat 0 / 4 % 3 + xs.getD (1 : Int).toNat 0 / 12 % 4 / 3 * 3 ≤ 6:=by omega
  generalize 1 + xs.getD (1 : Int).toNat 0 / 4 % 3 + xs.getD (1 : Int).toNat 0 / 12 % 4 / 3 * 3 = M at hM0 hM1 ⊢
  refine ⟨_,rfl,(by omega),(by omega),for_range (fun i σ H2=>∃ (vs : List V) (ts : List (Int × Th)) (v3 v4 v5 : Option V),σ = [some (.ref o),some (.ref x),some (.ref l),v3,v4,v5]∧Same H H2∧H2 l = some (.lst vs)∧Terms H2 vs ts∧ts.length = i∧(∀ d ∈ ts,d.1 = 1∨d.1 = -1)∧(∀ d,ts.head? = some d→d.1 = 1)∧(∀ d ∈ ts,ThOk d.2)∧(∀ d ∈ ts,∀ y,d.2 = Th.nam y→y ∈ ws))
   ⟨[],[],none,none,none,rfl,s1,upd_same,.nil,rfl,fun d hd=>by simp at hd,fun d hd=>by simp at hd,fun d hd=>by simp at hd,fun d hd=>by simp at hd⟩ ?_ ?_⟩
  ·rintro i σ H2 hi ⟨vs,ts,v3,v4,v5,rfl,s2,hl2,hts,hlen,hsg,hhd,hth,hnm⟩
   rw [Int.zero_add]
   have hi6 : (i : Int) ≤ 5:=by omega
   have hi0 : (0 : Int) ≤ i:=by omega
   have r2:=R 2 (by decide) (by decide)
   have r3:=R 3 (by decide) (by decide)
   have hii0 : 0 ≤ 613 * (i : Int) * i:=Int.mul_nonneg (by omega) hi0
   have hii1 : 613 * (i : Int) * i ≤ 613 * 5 * 5:=Int.mul_le_mul (by omega) hi6 hi0 (by decide)
   have hx2:=s2 _ _ hx
   have ho2:=s2 _ _ ho
   refine ⟨_,rfl,x,_,_,_,rfl,rfl,SqL.of hx2,atI_map V.int xs 0 (by decide) (by omega),_,rfl,_,_,rfl,rfl,.inl ⟨by omega,by omega⟩,_,rfl,_,_,rfl,rfl,.inl ⟨by omega,by omega⟩,_,_,rfl,rfl,?_⟩
   refine ⟨_,rfl,x,_,_,_,rfl,rfl,SqL.of hx2,atI_map V.int xs 0 (by decide) (by omega),_,rfl,_,_,rfl,rfl,_,_,rfl,rfl,.inl ⟨by omega,by omega⟩,_,_,rfl,rfl,(by show (0 : Int) < 2147483629; decide),?_⟩
   show gName 4 (V.int ((xs.getD (2 : Int).toNat 0 + 613 * (i : Int) * i) * (xs.getD (3 : Int).toNat 0 + i) % 2147483629)) _ _ _
   obtain ⟨n,hn0,hn1,hne⟩ : ∃ n : Int,0 ≤ n∧n < 2147483629∧(xs.getD (2 : Int).toNat 0 + 613 * (i : Int) * i) * (xs.getD (3 : Int).toNat 0 + i) % 2147483629 = n:=⟨_,by omega,by omega,rfl⟩
   rw [hne]
   clear hne
   refine ⟨_,rfl,_,_,rfl,rfl,(by show (0 : Int) < 10; decide),?_⟩
   refine ⟨_,rfl,_,_,rfl,rfl,⟨by decide,by decide⟩,_,_,rfl,rfl,(by show (0 : Int) < 4; decide),rfl,_,rfl,ite2I (fun e1=>?_) (fun e1=>?_)⟩
   ·have r0:=R 0 (by decide) (by decide)
    have r1:=R 1 (by decide) (by decide)
    have r4:=R 4 (by decide) (by decide)
    have r5:=R 5 (by decide) (by decide)
    refine ⟨_,rfl,_,_,rfl,rfl,_,rfl,x,_,_,_,rfl,rfl,SqL.of hx2,atI_map V.int xs 0 (by decide) (by omega),_,_,rfl,rfl,.inr ⟨by omega,by omega⟩,?_⟩
    refine ⟨_,rfl,x,_,_,_,rfl,rfl,SqL.of hx2,atI_map V.int xs 0 (by decide) (by omega),_,_,rfl,rfl,.inr ⟨by omega,by omega⟩,?_⟩
    refine ⟨_,rfl,x,_,_,_,rfl,rfl,SqL.of hx2,atI_map V.int xs 0 (by decide) (by omega),_,_,rfl,rfl,.inr ⟨by omega,by omega⟩,?_⟩
    refine ⟨_,rfl,x,_,_,_,rfl,rfl,SqL.of hx2,atI_map V.int xs 0 (by decide) (by omega),_,_,rfl,rfl,.inr ⟨by omega,by omega⟩,?_⟩
    refine ⟨_,rfl,x,_,_,_,rfl,rfl,SqL.of hx2,atI_map V.int xs 0 (by decide) (by omega),_,_,rfl,rfl,.inr ⟨by omega,by omega⟩,?_⟩
    refine ⟨_,_,rfl,rfl,⟨by decide,by decide,by decide⟩,_,_,rfl,rfl,(by show (0 : Int) < 10 ^ (60 : Int).toNat; decide),?_⟩
    refine gen_gName (fun m=>0 ≤ m∧m < 10 ^ 60) _ ⟨Int.emod_nonneg _ (by decide),Int.emod_lt_of_pos _ (by decide)⟩ (fun m hm=>?_)
    refine ⟨_,rfl,leS0,fun e he=>?_⟩
    have s3 : Same H2 (upd H2 e (.lst [])):=(Same.refl H2).new he
    refine ⟨o,e,_,rfl,rfl,SqL.of (s3 _ _ ho2),SqL.of upd_same,_,rfl,?_⟩
    refine ite2 (fun c1=>?_) (fun c1=>?_)
    ·have hwl : 0 < ((ws.map V.str).length : Int):=by
      cases ws with
      | nil=>exact absurd c1 (by decide)
      | cons a r=>rw [List.length_map,List.length_cons]; omega
     refine ⟨_,rfl,_,_,rfl,rfl,⟨by decide,by decide⟩,_,_,rfl,rfl,(by show (0 : Int) < 4; decide),_,_,rfl,rfl,_,rfl,?_⟩
     refine ite2 (fun c2=>?_) (fun c2=>?_)
     ·have hL : ((ws.map V.str).length : Int) = ws.length:=by rw [List.length_map]
      have hd0 : 0 ≤ n / 40 % ((ws.map V.str).length : Int):=Int.emod_nonneg _ (by omega)
      have hd1 : n / 40 % ((ws.map V.str).length : Int) < (ws.length : Int):=by rw [← hL]; exact Int.emod_lt_of_pos _ hwl
      refine ⟨_,rfl,_,rfl,_,_,rfl,rfl,⟨by decide,by decide⟩,_,rfl,o,_,rfl,.inl (SqL.of (s3 _ _ ho2)),_,_,rfl,rfl,hwl,o,_,_,_,rfl,rfl,SqL.of (s3 _ _ ho2),atI_map V.str ws "" hd0 hd1,?_⟩
      have hym : ws.getD (n / 40 % ((ws.map V.str).length : Int)).toNat "" ∈ ws:=by
       have hlt : (n / 40 % ((ws.map V.str).length : Int)).toNat < ws.length:=by omega
       rw [List.getD_eq_getElem?_getD,List.getElem?_eq_getElem hlt]
       exact List.getElem_mem hlt
      generalize ws.getD (n / 40 % ((ws.map V.str).length : Int)).toNat "" = y at hym ⊢
      refine ⟨_,rfl,.inl ⟨rfl,_,SqL.of (s3 _ _ hl2)⟩,_,rfl,leS3,fun g hg=>?_⟩
      have s4 : Same H2 (upd (upd H2 e (.lst [])) g (.lst [.int 1,.int 1,.int (-1)])):=(s3).new hg
      refine ⟨_,rfl,_,_,rfl,_,rfl,_,_,rfl,rfl,⟨by decide,by decide⟩,_,_,rfl,rfl,(by show (0 : Int) < 2; decide),_,_,rfl,rfl,_,_,rfl,rfl,.inl ⟨by split <;> omega,by split <;> omega⟩,g,_,_,_,rfl,rfl,SqL.of upd_same,sgn_at i n hi0,?_⟩
      refine ⟨_,rfl,leS2,fun tp htp=>?_⟩
      have s5:=s4.new (o:=.tup [.int (if (i : Int) = 0 then 1 else if n / 7 % 2 = 0 then 1 else -1),thV (.nam y)]) htp
      refine ⟨l,_,_,rfl,rfl,s5 _ _ hl2,small1000 (by rw [Paired.length hts,hlen]; omega),?_⟩
      exact sum_leaf hl s2 hl2 hts hlen hsg hhd hth hnm s5 upd_same (th:=.nam y) (hws y hym) (fun z ez=>by cases ez; exact hym)
     ·refine ⟨_,rfl,.inl ⟨rfl,_,SqL.of (s3 _ _ hl2)⟩,_,rfl,leS3,fun g hg=>?_⟩
      have s4 : Same H2 (upd (upd H2 e (.lst [])) g (.lst [.int 1,.int 1,.int (-1)])):=(s3).new hg
      refine ⟨_,rfl,_,_,rfl,_,rfl,_,_,rfl,rfl,⟨by decide,by decide⟩,_,_,rfl,rfl,(by show (0 : Int) < 2; decide),_,_,rfl,rfl,_,_,rfl,rfl,.inl ⟨by split <;> omega,by split <;> omega⟩,g,_,_,_,rfl,rfl,SqL.of upd_same,sgn_at i n hi0,?_⟩
      refine ⟨_,rfl,leS2,fun tp htp=>?_⟩
      have s5:=s4.new (o:=.tup [.int (if (i : Int) = 0 then 1 else if n / 7 % 2 = 0 then 1 else -1),thV (.num m)]) htp
      refine ⟨l,_,_,rfl,rfl,s5 _ _ hl2,small1000 (by rw [Paired.length hts,hlen]; omega),?_⟩
      exact sum_leaf hl s2 hl2 hts hlen hsg hhd hth hnm s5 upd_same (th:=.num m) hm (fun z ez=>by cases ez)
    ·refine iteF ?_
     refine ⟨_,rfl,.inl ⟨rfl,_,SqL.of (s3 _ _ hl2)⟩,_,rfl,leS3,fun g hg=>?_⟩
     have s4 : Same H2 (upd (upd H2 e (.lst [])) g (.lst [.int 1,.int 1,.int (-1)])):=(s3).new hg
     refine ⟨_,rfl,_,_,rfl,_,rfl,_,_,rfl,rfl,⟨by decide,by decide⟩,_,_,rfl,rfl,(by show (0 : Int) < 2; decide),_,_,rfl,rfl,_,_,rfl,rfl,.inl ⟨by split <;> omega,by split <;> omega⟩,g,_,_,_,rfl,rfl,SqL.of upd_same,sgn_at i n hi0,?_⟩
     refine ⟨_,rfl,leS2,fun tp htp=>?_⟩
     have s5:=s4.new (o:=.tup [.int (if (i : Int) = 0 then 1 else if n / 7 % 2 = 0 then 1 else -1),thV (.num m)]) htp
     refine ⟨l,_,_,rfl,rfl,s5 _ _ hl2,small1000 (by rw [Paired.length hts,hlen]; omega),?_⟩
     exact sum_leaf hl s2 hl2 hts hlen hsg hhd hth hnm s5 upd_same (th:=.num m) hm (fun z ez=>by cases ez)
   ·have hm : 0 ≤ n % 10∧n % 10 < 10 ^ 60:=⟨by omega,Int.lt_of_lt_of_le (show n % 10 < 10 by omega) (by decide)⟩
    show tNext _ [some (.ref o),some (.ref x),some (.ref l),some (.int i),some (.int n),some (.int (n % 10))] _
    generalize n % 10 = m at hm ⊢
    refine ⟨_,rfl,leS0,fun e he=>?_⟩
    have s3 : Same H2 (upd H2 e (.lst [])):=(Same.refl H2).new he
    refine ⟨o,e,_,rfl,rfl,SqL.of (s3 _ _ ho2),SqL.of upd_same,_,rfl,?_⟩
    refine ite2 (fun c1=>?_) (fun c1=>?_)
    ·have hwl : 0 < ((ws.map V.str).length : Int):=by
      cases ws with
      | nil=>exact absurd c1 (by decide)
      | cons a r=>rw [List.length_map,List.length_cons]; omega
     refine ⟨_,rfl,_,_,rfl,rfl,⟨by decide,by decide⟩,_,_,rfl,rfl,(by show (0 : Int) < 4; decide),_,_,rfl,rfl,_,rfl,?_⟩
     refine ite2 (fun c2=>?_) (fun c2=>?_)
     ·have hL : ((ws.map V.str).length : Int) = ws.length:=by rw [List.length_map]
      have hd0 : 0 ≤ n / 40 % ((ws.map V.str).length : Int):=Int.emod_nonneg _ (by omega)
      have hd1 : n / 40 % ((ws.map V.str).length : Int) < (ws.length : Int):=by rw [← hL]; exact Int.emod_lt_of_pos _ hwl
      refine ⟨_,rfl,_,rfl,_,_,rfl,rfl,⟨by decide,by decide⟩,_,rfl,o,_,rfl,.inl (SqL.of (s3 _ _ ho2)),_,_,rfl,rfl,hwl,o,_,_,_,rfl,rfl,SqL.of (s3 _ _ ho2),atI_map V.str ws "" hd0 hd1,?_⟩
      have hym : ws.getD (n / 40 % ((ws.map V.str).length : Int)).toNat "" ∈ ws:=by
       have hlt : (n / 40 % ((ws.map V.str).length : Int)).toNat < ws.length:=by omega
       rw [List.getD_eq_getElem?_getD,List.getElem?_eq_getElem hlt]
       exact List.getElem_mem hlt
      generalize ws.getD (n / 40 % ((ws.map V.str).length : Int)).toNat "" = y at hym ⊢
      refine ⟨_,rfl,.inl ⟨rfl,_,SqL.of (s3 _ _ hl2)⟩,_,rfl,leS3,fun g hg=>?_⟩
      have s4 : Same H2 (upd (upd H2 e (.lst [])) g (.lst [.int 1,.int 1,.int (-1)])):=(s3).new hg
      refine ⟨_,rfl,_,_,rfl,_,rfl,_,_,rfl,rfl,⟨by decide,by decide⟩,_,_,rfl,rfl,(by show (0 : Int) < 2; decide),_,_,rfl,rfl,_,_,rfl,rfl,.inl ⟨by split <;> omega,by split <;> omega⟩,g,_,_,_,rfl,rfl,SqL.of upd_same,sgn_at i n hi0,?_⟩
      refine ⟨_,rfl,leS2,fun tp htp=>?_⟩
      have s5:=s4.new (o:=.tup [.int (if (i : Int) = 0 then 1 else if n / 7 % 2 = 0 then 1 else -1),thV (.nam y)]) htp
      refine ⟨l,_,_,rfl,rfl,s5 _ _ hl2,small1000 (by rw [Paired.length hts,hlen]; omega),?_⟩
      exact sum_leaf hl s2 hl2 hts hlen hsg hhd hth hnm s5 upd_same (th:=.nam y) (hws y hym) (fun z ez=>by cases ez; exact hym)
     ·refine ⟨_,rfl,.inl ⟨rfl,_,SqL.of (s3 _ _ hl2)⟩,_,rfl,leS3,fun g hg=>?_⟩
      have s4 : Same H2 (upd (upd H2 e (.lst [])) g (.lst [.int 1,.int 1,.int (-1)])):=(s3).new hg
      refine ⟨_,rfl,_,_,rfl,_,rfl,_,_,rfl,rfl,⟨by decide,by decide⟩,_,_,rfl,rfl,(by show (0 : Int) < 2; decide),_,_,rfl,rfl,_,_,rfl,rfl,.inl ⟨by split <;> omega,by split <;> omega⟩,g,_,_,_,rfl,rfl,SqL.of upd_same,sgn_at i n hi0,?_⟩
      refine ⟨_,rfl,leS2,fun tp htp=>?_⟩
      have s5:=s4.new (o:=.tup [.int (if (i : Int) = 0 then 1 else if n / 7 % 2 = 0 then 1 else -1),thV (.num m)]) htp
      refine ⟨l,_,_,rfl,rfl,s5 _ _ hl2,small1000 (by rw [Paired.length hts,hlen]; omega),?_⟩
      exact sum_leaf hl s2 hl2 hts hlen hsg hhd hth hnm s5 upd_same (th:=.num m) hm (fun z ez=>by cases ez)
    ·refine iteF ?_
     refine ⟨_,rfl,.inl ⟨rfl,_,SqL.of (s3 _ _ hl2)⟩,_,rfl,leS3,fun g hg=>?_⟩
     have s4 : Same H2 (upd (upd H2 e (.lst [])) g (.lst [.int 1,.int 1,.int (-1)])):=(s3).new hg
     refine ⟨_,rfl,_,_,rfl,_,rfl,_,_,rfl,rfl,⟨by decide,by decide⟩,_,_,rfl,rfl,(by show (0 : Int) < 2; decide),_,_,rfl,rfl,_,_,rfl,rfl,.inl ⟨by split <;> omega,by split <;> omega⟩,g,_,_,_,rfl,rfl,SqL.of upd_same,sgn_at i n hi0,?_⟩
     refine ⟨_,rfl,leS2,fun tp htp=>?_⟩
     have s5:=s4.new (o:=.tup [.int (if (i : Int) = 0 then 1 else if n / 7 % 2 = 0 then 1 else -1),thV (.num m)]) htp
     refine ⟨l,_,_,rfl,rfl,s5 _ _ hl2,small1000 (by rw [Paired.length hts,hlen]; omega),?_⟩
     exact sum_leaf hl s2 hl2 hts hlen hsg hhd hth hnm s5 upd_same (th:=.num m) hm (fun z ez=>by cases ez)
  ·rintro σ H2 ⟨vs,ts,v3,v4,v5,rfl,s2,hl2,hts,hlen,hsg,hhd,hth,hnm⟩
   refine ⟨_,rfl,l,_,rfl,.inl ⟨SqL.of hl2,fun b gb=>?_⟩⟩
   have s3 : Same H2 (upd H2 b (.tup vs)):=(Same.refl H2).new gb
   exact q b ts _ (s2.trans s3) ⟨⟨vs,upd_same,hts.mono s3.tups⟩,by omega,by omega⟩ ⟨by omega,by omega,hth,hsg,hhd⟩ hnm
theorem paired_app {α β : Type} {F : α→β→Prop} : ∀ {xs xs' : List α} {ys ys' : List β},Paired F xs ys→Paired F xs' ys'→Paired F (xs ++ xs') (ys ++ ys')
 | _,_,_,_,.nil,h=>h
 | _,_,_,_,.cons r t,h=>.cons r (paired_app t h)
theorem paired_take {α β : Type} {F : α→β→Prop} : ∀ {xs : List α} {ys : List β} (n : Nat),Paired F xs ys→Paired F (xs.take n) (ys.take n)
 | _,_,0,_=>by simp only [List.take_zero]; exact .nil
 | _,_,n + 1,.nil=>by simp only [List.take_nil]; exact .nil
 | _,_,n + 1,.cons r t=>.cons r (paired_take n t)
theorem paired_drop {α β : Type} {F : α→β→Prop} : ∀ {xs : List α} {ys : List β} (n : Nat),Paired F xs ys→Paired F (xs.drop n) (ys.drop n)
 | _,_,0,h=>h
 | _,_,n + 1,.nil=>by simp only [List.drop_nil]; exact .nil
 | _,_,n + 1,.cons r t=>paired_drop n t
theorem KeepH.refl (l : Addr) (A : List Q4) (H : Hp) : KeepH l A H H:=fun _ _ _ e=>e
theorem KeepH.same {l : Addr} {A : List Q4} {H H1 H2 : Hp} (k : KeepH l A H H1) (s : Same H1 H2) : KeepH l A H H2:=fun a o ha e=>s _ _ (k a o ha e)
theorem KeepH.trans {l : Addr} {A : List Q4} {H H1 H2 : Hp} (k : KeepH l A H H1) (s : KeepH l A H1 H2) : KeepH l A H H2:=fun a o ha e=>s _ _ ha (k a o ha e)
theorem KeepH.put {l : Addr} {A : List Q4} {H H1 : Hp} (k : KeepH l A H H1) {i : Nat} {q : Q4} {x : Nat} {o : HO} (e : A[i]? = some q) (hx : x < 4) : KeepH l A H (upd H1 (q.nth x) o):=fun a c ha ec=>by
 rw [upd_ne (fun z=>ha (Or.inr (Or.inr ⟨i,q,x,e,hx,z.symm⟩)))]
 exact k a c ha ec
theorem house_row {H : Hp} {l : Addr} {A : List Q4} {hs : List Pp} (h : HouseAt H l A [] hs) {i : Nat} {q : Q4} {pp : Pp} {vs : List V} {v : V} {pr : Pr} (k : Nat) (e1 : A[i]? = some q) (e2 : hs[i]? = some pp) (hv : H q.r = some (.lst vs)) (hp : PrAt H (inH l A []) v pr) :
  HouseAt (upd H q.r (.lst (vs.take k ++ v :: vs.drop k))) l A [] (hs.set i { pp with rows:=pp.rows.take k ++ pr :: pp.rows.drop k }):=by
 refine h.put (x:=1) e1 e2 (by omega) (fun H' eH TT KK o4=>?_) ⟨_,hv⟩
 have P:=h.pt i q pp e1 e2
 obtain ⟨vs',r1,r2⟩:=P.r
 have ev : vs' = vs:=by
  have : some (HO.lst vs') = some (HO.lst vs):=r1.symm.trans hv
  injection this with this
  injection this
 subst ev
 have kp : ∀ {w : V} {z : Pr},PrAt H (inH l A []) w z→PrAt H' (inH l A []) w z:=fun y=>y.keep TT fun a as ha hva=>⟨KK a as ha hva,ha⟩
 refine ⟨(o4 0 (by omega) (by omega)).trans P.p,⟨vs'.take k ++ v :: vs'.drop k,?_,?_⟩,(o4 2 (by omega) (by omega)).trans P.o,(o4 3 (by omega) (by omega)).trans P.g⟩
 ·rw [eH]; exact upd_same
 ·have r3:=Paired.mapP r2 fun _ _ y=>kp y
  exact paired_app (paired_take k r3) (.cons (kp hp) (paired_drop k r3))
theorem house_own {H : Hp} {l : Addr} {A : List Q4} {hs : List Pp} (h : HouseAt H l A [] hs) {i : Nat} {q : Q4} {pp : Pp} (y : Str) (e1 : A[i]? = some q) (e2 : hs[i]? = some pp) :
  HouseAt (upd H q.o (.lst (pp.owns.map V.str ++ [.str y]))) l A [] (hs.set i { pp with owns:=pp.owns ++ [y] }):=by
 have P:=h.pt i q pp e1 e2
 refine h.put (x:=2) e1 e2 (by omega) (fun H' eH TT KK o4=>?_) ⟨_,P.o⟩
 obtain ⟨vs',r1,r2⟩:=P.r
 refine ⟨(o4 0 (by omega) (by omega)).trans P.p,⟨vs',(o4 1 (by omega) (by omega)).trans r1,Paired.mapP r2 fun _ _ y=>y.keep TT fun a as ha hva=>⟨KK a as ha hva,ha⟩⟩,?_,(o4 3 (by omega) (by omega)).trans P.g⟩
 rw [eH]
 show upd H q.o _ q.o = _
 rw [upd_same,List.map_append]
 rfl
theorem house_give {H : Hp} {l : Addr} {A : List Q4} {hs : List Pp} (h : HouseAt H l A [] hs) {i : Nat} {q : Q4} {pp : Pp} (y : Str) (e1 : A[i]? = some q) (e2 : hs[i]? = some pp) :
  HouseAt (upd H q.g (.lst (pp.gives.map V.str ++ [.str y]))) l A [] (hs.set i { pp with gives:=pp.gives ++ [y] }):=by
 have P:=h.pt i q pp e1 e2
 refine h.put (x:=3) e1 e2 (by omega) (fun H' eH TT KK o4=>?_) ⟨_,P.g⟩
 obtain ⟨vs',r1,r2⟩:=P.r
 refine ⟨(o4 0 (by omega) (by omega)).trans P.p,⟨vs',(o4 1 (by omega) (by omega)).trans r1,Paired.mapP r2 fun _ _ y=>y.keep TT fun a as ha hva=>⟨KK a as ha hva,ha⟩⟩,(o4 2 (by omega) (by omega)).trans P.o,?_⟩
 rw [eH]
 show upd H q.g _ q.g = _
 rw [upd_same,List.map_append]
 rfl
def madeP : Pr→List Str
 | .own _ n _=>[n]
 | .bring _ ps _=>ps.map (·.2)
 | _=>[]
def giveP : Pr→List Str
 | .give _ g _=>[g]
 | _=>[]
def XsOk (xs : List Int) : Prop:=xs.length = 6∧Bnd xs
def PrOk (hs : List Pp) (i : Nat) : Pr→Prop
 | .own k n xs=>(k = "set" ∨ k = "take")∧XsOk xs
 | .bring j ps xs=>j < hs.length∧j ≠ i∧ps.length ≤ 6∧(∀ p ∈ ps,∃ pq,hs[j]? = some pq∧p.1 ∈ pq.gives)∧XsOk xs
 | .give o g xs=>(∃ pp,hs[i]? = some pp∧o ∈ pp.owns)∧XsOk xs
 | .ask j xs=>j < hs.length∧j ≠ i∧XsOk xs
 | .sum k xs=>(k = "say" ∨ k = "need")∧XsOk xs
structure PpOk (b0 b1 : Int) (hs : List Pp) (i : Nat) (pp : Pp) : Prop where
 n : ∃ n,pp.owns = drawnN b0 pp.sh n∧n ≤ 23
 m : ∃ m,pp.gives = drawnN b1 pp.sh m∧m ≤ 23
 r : pp.rows.length ≤ 40
 md : (pp.rows.flatMap madeP).Perm pp.owns
 gv : (pp.rows.flatMap giveP).Perm pp.gives
 ok : ∀ pr ∈ pp.rows,PrOk hs i pr
def HInv (b0 b1 : Int) (hs : List Pp) : Prop:=∀ i pp,hs[i]? = some pp→PpOk b0 b1 hs i pp
theorem PrOk.mono {hs hs' : List Pp} (hl : hs'.length = hs.length) (hg : ∀ (j : Nat) pq,hs[j]? = some pq→∃ pq',hs'[j]? = some pq'∧(∀ y ∈ pq.owns,y ∈ pq'.owns)∧(∀ y ∈ pq.gives,y ∈ pq'.gives)) {i : Nat} {pr : Pr} (h : PrOk hs i pr) : PrOk hs' i pr:=by
 cases pr with
 | own k n xs=>exact h
 | bring j ps xs =>
  obtain ⟨h1,h2,h3,h4,h5⟩:=h
  refine ⟨by rw [hl]; exact h1,h2,h3,fun p hp=>?_,h5⟩
  obtain ⟨pq,e,m⟩:=h4 p hp
  obtain ⟨pq',e',_,m'⟩:=hg j pq e
  exact ⟨pq',e',m' _ m⟩
 | give o g xs =>
  obtain ⟨⟨pp,e,m⟩,h5⟩:=h
  obtain ⟨pq',e',m',_⟩:=hg i pp e
  exact ⟨⟨pq',e',m' _ m⟩,h5⟩
 | ask j xs=>exact ⟨by rw [hl]; exact h.1,h.2⟩
 | sum k xs=>exact h
theorem flat_ins {β : Type} (f : Pr→List β) (rs : List Pr) (k : Nat) (y : Pr) : ((rs.take k ++ y :: rs.drop k).flatMap f).Perm (f y ++ rs.flatMap f):=by
 rw [List.flatMap_append,List.flatMap_cons]
 refine (List.perm_append_comm_assoc _ _ _).trans ?_
 rw [← List.flatMap_append,List.take_append_drop]
theorem HInv.put {b0 b1 : Int} {hs : List Pp} (h : HInv b0 b1 hs) {i : Nat} {pp pp' : Pp} {k : Nat} {y : Pr} (e : hs[i]? = some pp) (hn : ∃ n,pp'.owns = drawnN b0 pp'.sh n∧n ≤ 23) (hm : ∃ m,pp'.gives = drawnN b1 pp'.sh m∧m ≤ 23) (hr : pp'.rows = pp.rows.take k ++ y :: pp.rows.drop k) (h39 : pp.rows.length ≤ 39)
  (ho : (madeP y ++ pp.owns).Perm pp'.owns) (hg : (giveP y ++ pp.gives).Perm pp'.gives) (hy : PrOk (hs.set i pp') i y) : HInv b0 b1 (hs.set i pp'):=by
 have hi:=(List.getElem?_eq_some_iff.mp e).1
 have G : ∀ (j : Nat) pq,hs[j]? = some pq→∃ pq',(hs.set i pp')[j]? = some pq'∧(∀ y ∈ pq.owns,y ∈ pq'.owns)∧(∀ y ∈ pq.gives,y ∈ pq'.gives):=fun j pq ej=>by
  by_cases hij : i = j
  ·subst hij
   rw [e] at ej
   cases ej
   exact ⟨pp',List.getElem?_set_self hi,fun z hz=>ho.mem_iff.mp (List.mem_append_right _ hz),fun z hz=>hg.mem_iff.mp (List.mem_append_right _ hz)⟩
  ·exact ⟨pq,by rw [List.getElem?_set_ne hij]; exact ej,fun z hz=>hz,fun z hz=>hz⟩
 intro j pq ej
 by_cases hij : i = j
 ·subst hij
  rw [List.getElem?_set_self hi] at ej
  cases ej
  have P:=h i pp e
  refine ⟨hn,hm,?_,?_,?_,fun pr hpr=>?_⟩
  ·rw [hr,List.length_append,List.length_cons,List.length_take,List.length_drop]; omega
  ·rw [hr]
   exact (flat_ins madeP pp.rows k y).trans ((List.Perm.append_left _ P.md).trans ho)
  ·rw [hr]
   exact (flat_ins giveP pp.rows k y).trans ((List.Perm.append_left _ P.gv).trans hg)
  ·rw [hr] at hpr
   rcases List.mem_append.mp hpr with z | z
   ·exact (P.ok pr (List.mem_of_mem_take z)).mono (List.length_set ..) G
   ·rcases List.mem_cons.mp z with z | z
    ·rw [z]; exact hy
    ·exact (P.ok pr (List.mem_of_mem_drop z)).mono (List.length_set ..) G
 ·rw [List.getElem?_set_ne hij] at ej
  have P:=h j pq ej
  exact ⟨P.n,P.m,P.r,P.md,P.gv,fun pr hpr=>(P.ok pr hpr).mono (List.length_set ..) G⟩
def Giv (hs : List Pp) (j : Nat) (g o : Str) : Prop:=∃ pq xs,hs[j]? = some pq∧Pr.give o g xs ∈ pq.rows
def RInv (hs : List Pp) : Prop:=∃ (rk : Nat→Str→Nat) (B : Nat),(∀ i o,rk i o ≤ B)∧∀ i pp,hs[i]? = some pp→∀ j ps xs,Pr.bring j ps xs ∈ pp.rows→∀ q ∈ ps,∃ o,Giv hs j q.1 o∧rk j o < rk i q.2
theorem Giv.put {hs : List Pp} {i : Nat} {pp pp' : Pp} (e : hs[i]? = some pp) (hr : ∀ r ∈ pp.rows,r ∈ pp'.rows) {j : Nat} {g o : Str} (h : Giv hs j g o) : Giv (hs.set i pp') j g o:=by
 obtain ⟨pq,xs,e1,h1⟩:=h
 by_cases hij : i = j
 ·subst hij
  rw [e] at e1
  cases e1
  exact ⟨pp',xs,List.getElem?_set_self (List.getElem?_eq_some_iff.mp e).1,hr _ h1⟩
 ·exact ⟨pq,xs,by rw [List.getElem?_set_ne hij]; exact e1,h1⟩
theorem ins_mem {α : Type} {l : List α} {k : Nat} {y : α} : ∀ r,r ∈ l.take k ++ y :: l.drop k↔r ∈ l∨r = y:=fun r=>by
 have h:=List.take_append_drop k l
 constructor
 ·intro z
  rcases List.mem_append.mp z with z | z
  ·exact .inl (List.mem_of_mem_take z)
  ·rcases List.mem_cons.mp z with z | z
   ·exact .inr z
   ·exact .inl (List.mem_of_mem_drop z)
 ·rintro (z | z)
  ·rw [← h] at z
   rcases List.mem_append.mp z with z | z
   ·exact List.mem_append_left _ z
   ·exact List.mem_append_right _ (List.mem_cons_of_mem _ z)
  ·rw [z]
   exact List.mem_append_right _ List.mem_cons_self
theorem RInv.put {hs : List Pp} (h : RInv hs) {i : Nat} {pp pp' : Pp} {k : Nat} {y : Pr} (e : hs[i]? = some pp) (hr : pp'.rows = pp.rows.take k ++ y :: pp.rows.drop k) (hy : ∀ j ps xs,y ≠ .bring j ps xs) : RInv (hs.set i pp'):=by
 obtain ⟨rk,B,hB,h⟩:=h
 have hi:=(List.getElem?_eq_some_iff.mp e).1
 have hrm : ∀ r ∈ pp.rows,r ∈ pp'.rows:=fun r z=>by rw [hr]; exact (ins_mem r).mpr (.inl z)
 refine ⟨rk,B,hB,fun a pa ea j ps xs hm q hq=>?_⟩
 by_cases hia : i = a
 ·subst hia
  rw [List.getElem?_set_self hi] at ea
  cases ea
  rw [hr] at hm
  rcases (ins_mem _).mp hm with z | z
  ·obtain ⟨o,h1,h2⟩:=h i pp e j ps xs z q hq
   exact ⟨o,h1.put e hrm,h2⟩
  ·exact absurd z.symm (hy j ps xs)
 ·rw [List.getElem?_set_ne hia] at ea
  obtain ⟨o,h1,h2⟩:=h a pa ea j ps xs hm q hq
  exact ⟨o,h1.put e hrm,h2⟩
theorem give_of {rows : List Pr} {g : Str} (h : g ∈ rows.flatMap giveP) : ∃ o xs,Pr.give o g xs ∈ rows:=by
 obtain ⟨pr,h1,h2⟩:=List.mem_flatMap.mp h
 cases pr with
 | give o g' xs =>
  have : g = g':=by simpa [giveP] using h2
  subst this
  exact ⟨o,xs,h1⟩
 | _=>simp [giveP] at h2
theorem RInv.bring {b0 b1 : Int} {hs : List Pp} (h : RInv hs) (hI : HInv b0 b1 hs) {i j : Nat} {pp pp' pq : Pp} {k : Nat} {ps : List (Str × Str)} {xs : List Int} (e : hs[i]? = some pp) (ej : hs[j]? = some pq) (hij : j ≠ i) (hr : pp'.rows = pp.rows.take k ++ Pr.bring j ps xs :: pp.rows.drop k) (hg : ∀ q ∈ ps,q.1 ∈ pq.gives) (hn : ∀ q ∈ ps,q.2 ∉ pp.owns) : RInv (hs.set i pp'):=by
 obtain ⟨rk,B,hB,h⟩:=h
 have hi:=(List.getElem?_eq_some_iff.mp e).1
 have hrm : ∀ r ∈ pp.rows,r ∈ pp'.rows:=fun r z=>by rw [hr]; exact (ins_mem r).mpr (.inl z)
 have hnew : ∀ o ∈ pp.owns,o ∉ ps.map (·.2):=fun o ho z=>by
  obtain ⟨q,hq,z⟩:=List.mem_map.mp z
  exact hn q hq (by rw [z]; exact ho)
 have hgo : ∀ {a : Nat} {g o : Str},Giv hs a g o→¬ (a = i∧o ∈ ps.map (·.2)):=fun {a g o} hv z=>by
  obtain ⟨pa,ys,ea,hm⟩:=hv
  obtain ⟨⟨pa',ea',ho⟩,_⟩:=(hI a pa ea).ok _ hm
  rw [z.1,e] at ea'
  cases ea'
  exact hnew o ho z.2
 have hmade : ∀ {j' : Nat} {ps' : List (Str × Str)} {ys : List Int},Pr.bring j' ps' ys ∈ pp.rows→∀ q ∈ ps',q.2 ∉ ps.map (·.2):=fun {j' ps' ys} hm q hq=>by
  refine hnew q.2 ((hI i pp e).md.mem_iff.mp (List.mem_flatMap.mpr ⟨_,hm,?_⟩))
  exact List.mem_map_of_mem (f:=(·.2)) hq
 refine ⟨fun a o=>if a = i∧o ∈ ps.map (·.2) then B + 1 else rk a o,B + 1,fun a o=>?_,fun a pa ea j' ps' ys hm q hq=>?_⟩
 ·by_cases z : a = i∧o ∈ ps.map (·.2)
  ·simp only [if_pos z]; omega
  ·simp only [if_neg z]
   have:=hB a o
   omega
 ·by_cases hia : i = a
  ·subst hia
   rw [List.getElem?_set_self hi] at ea
   cases ea
   rw [hr] at hm
   rcases (ins_mem _).mp hm with z | z
   ·obtain ⟨o,h1,h2⟩:=h i pp e j' ps' ys z q hq
    refine ⟨o,h1.put e hrm,?_⟩
    show (if j' = i∧o ∈ ps.map (·.2) then B + 1 else rk j' o) < (if i = i∧q.2 ∈ ps.map (·.2) then B + 1 else rk i q.2)
    rw [if_neg (hgo h1),if_neg (fun y : i = i∧q.2 ∈ ps.map (·.2)=>hmade z q hq y.2)]
    exact h2
   ·cases z
    obtain ⟨o,ys',hgm⟩:=give_of ((hI j pq ej).gv.mem_iff.mpr (hg q hq))
    have h1 : Giv hs j q.1 o:=⟨pq,ys',ej,hgm⟩
    refine ⟨o,h1.put e hrm,?_⟩
    show (if j = i∧o ∈ ps.map (·.2) then B + 1 else rk j o) < (if i = i∧q.2 ∈ ps.map (·.2) then B + 1 else rk i q.2)
    rw [if_neg (hgo h1),if_pos (show i = i∧q.2 ∈ ps.map (·.2) from ⟨rfl,List.mem_map_of_mem (f:=(·.2)) hq⟩)]
    have:=hB j o
    omega
  ·rw [List.getElem?_set_ne hia] at ea
   obtain ⟨o,h1,h2⟩:=h a pa ea j' ps' ys hm q hq
   refine ⟨o,h1.put e hrm,?_⟩
   show (if j' = i∧o ∈ ps.map (·.2) then B + 1 else rk j' o) < (if a = i∧q.2 ∈ ps.map (·.2) then B + 1 else rk a q.2)
   rw [if_neg (hgo h1),if_neg (fun y : a = i∧q.2 ∈ ps.map (·.2)=>hia y.1.symm)]
   exact h2
def spAdded : Sp:=fun vs H Q _=>∃ (l pl x : Addr) (A : List Q4) (hs : List Pp) (b0 b1 b2 : Int) (xs : List Int),vs = [.ref l,.ref pl,.ref x]∧HouseAt H l A [] hs∧PoolsAt H pl l A b0 b1 b2∧XsAt H (inH l A []) x xs∧XsOk xs∧1 ≤ hs.length∧hs.length ≤ 24∧HInv b0 b1 hs∧RInv hs ∧
 ∀ (hs' : List Pp) (H' : Hp),HouseAt H' l A [] hs'→hs'.length = hs.length→HInv b0 b1 hs'→RInv hs'→KeepH l A H H'→Q .non H'
theorem tand_pure {t u : TT} {σ : L2.St} {H : Hp} {a b : Bool} (ht : ∀ Q : Bool→Hp→Prop,Q a H→t σ H Q) (hu : ∀ Q : Bool→Hp→Prop,Q b H→u σ H Q) : ∀ Q : Bool→Hp→Prop,Q (a && b) H→tAnd t u σ H Q:=fun Q h=>by
 refine ht _ ?_
 cases a with
 | true=>exact iteT (hu _ h)
 | false=>exact iteF h
theorem tor_pure {t u : TT} {σ : L2.St} {H : Hp} {a b : Bool} {Q : Bool→Hp→Prop} (ht : ∀ Q : Bool→Hp→Prop,Q a H→t σ H Q) (hu : ∀ Q : Bool→Hp→Prop,Q b H→u σ H Q) (h : Q (a || b) H) : tOr t u σ H Q:=by
 refine ht _ ?_
 cases a with
 | true=>exact iteT h
 | false=>exact iteF (hu _ h)
theorem seq_if_or {t u : TT} {A B R : TS} {D : Ends} {σ : L2.St} {H : Hp} {a b : Bool} (ht : ∀ Q : Bool→Hp→Prop,Q a H→t σ H Q) (hu : ∀ Q : Bool→Hp→Prop,Q b H→u σ H Q) (h : if (a || b) = true then A { D with nx:=R D } σ H else B { D with nx:=R D } σ H) : tSeq (tIfS (tOr t u) A B) R D σ H:=tor_pure ht hu h
theorem nx_if_or {t u : TT} {A B R : TS} {D D2 : Ends} {σ : L2.St} {H : Hp} {a b : Bool} (e : D2.nx = tSeq (tIfS (tOr t u) A B) R D) (ht : ∀ Q : Bool→Hp→Prop,Q a H→t σ H Q) (hu : ∀ Q : Bool→Hp→Prop,Q b H→u σ H Q) (h : if (a || b) = true then A { D with nx:=R D } σ H else B { D with nx:=R D } σ H) : tNext D2 σ H:=by
 show D2.nx σ H
 rw [e]
 exact seq_if_or ht hu h
theorem if_and {t u : TT} {A B : TS} {D : Ends} {σ : L2.St} {H : Hp} {a b : Bool} (ht : ∀ Q : Bool→Hp→Prop,Q a H→t σ H Q) (hu : ∀ Q : Bool→Hp→Prop,Q b H→u σ H Q) (h : if (a && b) = true then A D σ H else B D σ H) : tIfS (tAnd t u) A B D σ H:=tand_pure ht hu _ h
theorem if_andS {t u : TT} {A B : TS} {D : Ends} {σ : L2.St} {H : Hp} {a b : Bool} (ht : ∀ Q : Bool→Hp→Prop,Q a H→t σ H Q) (hu : ∀ Q : Bool→Hp→Prop,(∀ H1,Same H H1→Q b H1)→u σ H Q) (h : ∀ H1,Same H H1→if (a && b) = true then A D σ H1 else B D σ H1) : tIfS (tAnd t u) A B D σ H:=by
 refine ht _ ?_
 cases a with
 | true=>exact iteT (hu _ h)
 | false=>exact iteF (h H (Same.refl H))
theorem kinds_at {c : Int} (h0 : 0 ≤ c) (h1 : c < 4) : ∃ k : Str,atI [V.str "set",V.str "set",V.str "set",V.str "take"] c = some (.str k)∧(k = "set" ∨ k = "take"):=by
 have : c = 0∨c = 1∨c = 2∨c = 3:=by omega
 rcases this with rfl | rfl | rfl | rfl
 ·exact ⟨_,rfl,.inl rfl⟩
 ·exact ⟨_,rfl,.inl rfl⟩
 ·exact ⟨_,rfl,.inl rfl⟩
 ·exact ⟨_,rfl,.inr rfl⟩
theorem sayneed_at {c : Int} (h0 : 0 ≤ c) (h1 : c < 2) : ∃ k : Str,atI [V.str "say",V.str "need"] c = some (.str k)∧(k = "say" ∨ k = "need"):=by
 have : c = 0∨c = 1:=by omega
 rcases this with rfl | rfl
 ·exact ⟨_,rfl,.inl rfl⟩
 ·exact ⟨_,rfl,.inr rfl⟩
theorem other_ok {a L y : Int} {i : Nat} (hL : 0 < L) (hi : (i : Int) < L) (h0 : 0 ≤ y) : ∃ j : Nat,((i : Int) + 1 + y % (if L - 1 > 1 then L - 1 else 1)) % L = j∧(j : Int) < L∧(1 < L→j ≠ i):=by
 have hm : (0 : Int) < (if L - 1 > 1 then L - 1 else 1):=by split <;> omega
 have r0:=Int.emod_nonneg y (Int.ne_of_gt hm)
 have r1:=Int.emod_lt_of_pos y hm
 have r2 : 1 < L→y % (if L - 1 > 1 then L - 1 else 1) < L - 1:=fun h=>by
  have : (if L - 1 > 1 then L - 1 else 1) ≤ L - 1:=by split <;> omega
  omega
 have r3 : ¬ 1 < L→y % (if L - 1 > 1 then L - 1 else 1) = 0:=fun h=>by
  have : (if L - 1 > 1 then L - 1 else 1) = 1:=by rw [if_neg (by omega)]
  rw [this] at r0 r1 ⊢
  omega
 generalize y % (if L - 1 > 1 then L - 1 else 1) = r at *
 have e0:=Int.emod_nonneg ((i : Int) + 1 + r) (Int.ne_of_gt hL)
 have e1:=Int.emod_lt_of_pos ((i : Int) + 1 + r) hL
 refine ⟨(((i : Int) + 1 + r) % L).toNat,by omega,by omega,fun h z=>?_⟩
 have r2':=r2 h
 by_cases hc : (i : Int) + 1 + r < L
 ·rw [Int.emod_eq_of_lt (by omega) hc] at z
  omega
 ·have e2 : ((i : Int) + 1 + r) % L = (i : Int) + 1 + r - L:=by
   rw [show (i : Int) + 1 + r = ((i : Int) + 1 + r - L) + L by omega,Int.add_emod_right,Int.emod_eq_of_lt (by omega) (by omega)]
   omega
  rw [e2] at z
  omega
theorem PoolsAt.keep {H H' : Hp} {pl l : Addr} {A : List Q4} {b0 b1 b2 : Int} (h : PoolsAt H pl l A b0 b1 b2) (k : KeepH l A H H') : PoolsAt H' pl l A b0 b1 b2:=⟨k _ _ h.n h.h,h.n,h.r0,h.r1,h.r2⟩
theorem join_set {c : Bool} {N : L2.St→Hp→Prop} {H : Hp} (S : Int→L2.St) (C : Int→Prop) (k1 k2 : Int) (h1 : c = true→C k1) (h2 : c = false→C k2) (h : ∀ k,C k→N (S k) H) : if c = true then N (S k1) H else N (S k2) H:=by
 cases c with
 | true=>exact iteT (h _ (h1 rfl))
 | false=>exact iteF (h _ (h2 rfl))
theorem drawnN_nodup0 {b sh : Int} (hb : 0 ≤ b) {n : Nat} (hn : n ≤ 24) : (drawnN b sh n).Nodup:=by
 unfold drawnN
 rw [List.nodup_iff_pairwise_ne,List.pairwise_map]
 refine List.Pairwise.imp_of_mem (fun {i j} hi hj hne h=>hne ?_) List.nodup_range
 have h1:=List.mem_range.mp hi
 have h2:=List.mem_range.mp hj
 have:=nameM_inj hb (by omega) (by omega) (by omega) (by omega) h
 omega
theorem ok_added (T : Txt K mg) : L2.Cl P w K mg base 4 "_law_added" ["_law_house", "_law_pools_here", "_law_xs"] spAdded:=by
 have C_law_fresh:=ok_fresh (P:=P) (w:=w) (base:=base) T
 have C_law_pairs:=ok_pairs (P:=P) (w:=w) (base:=base) T
 refine Cl.of T.d_law_added sc_law_added (fun vs H Q E h=>?_) (fun _ _ _ _ _ _ us hl=>by obtain ⟨a,b,c,rfl⟩:=len3 hl; rfl) (fun f cdv A' outer s H vs Q E hr h=>?_)
 ·obtain ⟨l,pl,x,A,hs,b0,b1,b2,xs,rfl,_⟩:=h
  rfl
 ·obtain ⟨l,pl,x,A,hs,b0,b1,b2,xs,rfl,hh,hpl,⟨hx,hxn⟩,⟨h6,hb⟩,hs1,hs2,hI,hR,q⟩:=h
  have hu0:=Nat.lt_of_succ_lt (hu_of hr)
  have R:=xs_rng h6 hb
  have hAl : ((A.map fun q=>V.ref q.p).length : Int) = hs.length:=by rw [List.length_map,hh.len]
  have hlp : (0 : Int) < ((A.map fun q=>V.ref q.p).length : Int):=by rw [hAl]; omega
  refine ⟨_,(pss_cons (ps_set (i:=3) sc_law_added.nd rfl (Or.inl rfl) (pe_op op_mod (pe_ix ix_list (pv 2) pe_int (fun _ _=>rfl)) (pe_callB call_len_seq (by rfl) T.n_len PySem.boot_len (pa_cons (pv 0) pa_nil))))
   (pss_cons (ps_set (i:=4) sc_law_added.nd rfl (Or.inl rfl) (pe_ix ix_list (pv 0) (pv 3) (fun _ _=>rfl)))
   (pss_cons (ps_set (i:=5) sc_law_added.nd rfl (Or.inl rfl) (pe_op op_mod (pe_ix ix_list (pv 2) pe_int (fun _ _=>rfl)) (pe_op op_add (pe_callB call_len_seq (by rfl) T.n_len PySem.boot_len (pa_cons (pe_ix ix_list (pv 4) pe_int (fun _ _=>rfl)) pa_nil)) pe_int)))
   (pss_cons (ps_set (i:=6) sc_law_added.nd rfl (Or.inl rfl) (pe_op op_mod (pe_ix ix_list (pv 2) pe_int (fun _ _=>rfl)) pe_int))
   (pss_cons (ps_set (i:=7) sc_law_added.nd rfl (Or.inl rfl) (pe_op op_mod (pe_op op_add (pe_op op_add (pv 3) pe_int) (pe_op op_mod (pe_ix ix_list (pv 2) pe_int (fun _ _=>rfl)) (pe_callB (call_max2 rfl) (by rfl) T.n_max boot_max (pa_cons pe_int (pa_cons (pe_op op_sub (pe_callB call_len_seq (by rfl) T.n_len PySem.boot_len (pa_cons (pv 0) pa_nil)) pe_int) pa_nil))))) (pe_callB call_len_seq (by rfl) T.n_len PySem.boot_len (pa_cons (pv 0) pa_nil))))
   (pss_cons (ps_if (pt_cmpR op_gt (pe_callB call_len_seq (by rfl) T.n_len PySem.boot_len (pa_cons (pe_ix ix_list (pv 4) pe_int (fun _ _=>rfl)) pa_nil)) pe_int (nomark _))
    (pss_one ps_retN) pss_nil)
   (pss_cons (ps_if (PW.pt (pw_or (PW.pt (pw_and (pt_cmpR op_gt (pe_callB call_len_seq (by rfl) T.n_len PySem.boot_len (pa_cons (pe_ix ix_list (pv 4) pe_int (fun _ _=>rfl)) pa_nil)) pe_int (nomark _)) (pw_and1 (pt_cmpR op_lt (pv 6) pe_int (nomark _))))) (pw_or1 (PW.pt (pw_and (pt_cmpR op_gt (pe_callB call_len_seq (by rfl) T.n_len PySem.boot_len (pa_cons (pe_ix ix_list (pv 4) pe_int (fun _ _=>rfl)) pa_nil)) pe_int (nomark _)) (pw_and1 (pt_cmpR op_lt (pv 6) pe_int (nomark _))))))))
    (pss_one (ps_set (i:=6) sc_law_added.nd rfl (Or.inl rfl) pe_int)) pss_nil)
   (pss_one (ps_if (pt_cmpR op_lt (pv 6) pe_int (nomark _))
    (pss_cons (ps_set (i:=8) sc_law_added.nd rfl (Or.inl rfl) (pe_fn C_law_fresh hr (by rfl) (pa_cons (pv 4) (pa_cons (pe_ix ix_list (pv 1) pe_int (fun _ _=>rfl)) (pa_cons (pe_callB call_len_seq (by rfl) T.n_len PySem.boot_len (pa_cons (pe_ix ix_list (pv 4) pe_int (fun _ _=>rfl)) pa_nil)) pa_nil)))))
    (pss_cons (ps_expr (pe_bm PySem.F.plainAttrs_list PySem.F.slot_list_append PySem.F.type_list_append mt_append (pe_ix ix_list (pv 4) pe_int (fun _ _=>rfl)) (pa_cons (pv 8) pa_nil)))
    (pss_one (ps_expr (pe_bm PySem.F.plainAttrs_list PySem.F.slot_list_insert PySem.F.type_list_insert mt_insert (pe_ix ix_list (pv 4) pe_int (fun _ _=>rfl)) (pa_cons (pv 5) (pa_cons (pe_tup (pa_cons (pe_ix ix_list (pe_lst (pa_strs (.cons (.cons (.cons (.cons .nil)))))) (pv 6) (fun _ _=>rfl)) (pa_cons (pv 8) (pa_cons (pv 2) pa_nil)))) pa_nil))))))) (pss_one (ps_if (PW.pt (pw_and (pt_cmpR op_lt (pv 6) pe_int (nomark _)) (pw_and1 (pt_cmpR op_gt (pe_callB call_len_seq (by rfl) T.n_len PySem.boot_len (pa_cons (pv 0) pa_nil)) pe_int (nomark _)))))
     (pss_one (ps_expr (pe_bm PySem.F.plainAttrs_list PySem.F.slot_list_insert PySem.F.type_list_insert mt_insert (pe_ix ix_list (pv 4) pe_int (fun _ _=>rfl)) (pa_cons (pv 5) (pa_cons (pe_tup (pa_cons pe_str (pa_cons (pe_tup (pa_cons (pv 7) (pa_cons (pe_fn C_law_pairs hr (by rfl) (pa_cons (pv 0) (pa_cons (pv 1) (pa_cons (pv 3) (pa_cons (pv 7) (pa_cons (pv 2) pa_nil)))))) pa_nil))) (pa_cons (pv 2) pa_nil)))) pa_nil))))) (pss_one (ps_if (PW.pt (pw_and (pt_cmpR op_lt (pv 6) pe_int (nomark _)) (pw_and1 (pt_cmpR (op_neL_nil hu0) (pe_ix ix_list (pv 4) pe_int (fun _ _=>rfl)) (pe_lst pa_nil) (nomark _)))))
      (pss_cons (ps_set (i:=9) sc_law_added.nd rfl (Or.inl rfl) (pe_fn C_law_fresh hr (by rfl) (pa_cons (pv 4) (pa_cons (pe_ix ix_list (pv 1) pe_int (fun _ _=>rfl)) (pa_cons (pe_callB call_len_seq (by rfl) T.n_len PySem.boot_len (pa_cons (pe_ix ix_list (pv 4) pe_int (fun _ _=>rfl)) pa_nil)) pa_nil)))))
      (pss_cons (ps_expr (pe_bm PySem.F.plainAttrs_list PySem.F.slot_list_append PySem.F.type_list_append mt_append (pe_ix ix_list (pv 4) pe_int (fun _ _=>rfl)) (pa_cons (pv 9) pa_nil)))
      (pss_one (ps_expr (pe_bm PySem.F.plainAttrs_list PySem.F.slot_list_insert PySem.F.type_list_insert mt_insert (pe_ix ix_list (pv 4) pe_int (fun _ _=>rfl)) (pa_cons (pv 5) (pa_cons (pe_tup (pa_cons pe_str (pa_cons (pe_tup (pa_cons (pe_ix ix_list (pe_ix ix_list (pv 4) pe_int (fun _ _=>rfl)) (pe_op op_mod (pe_ix ix_list (pv 2) pe_int (fun _ _=>rfl)) (pe_callB call_len_seq (by rfl) T.n_len PySem.boot_len (pa_cons (pe_ix ix_list (pv 4) pe_int (fun _ _=>rfl)) pa_nil))) (fun _ _=>rfl)) (pa_cons (pv 9) pa_nil))) (pa_cons (pv 2) pa_nil)))) pa_nil))))))) (pss_one (ps_if (PW.pt (pw_and (pt_cmpR op_eq (pv 6) pe_int (nomark _)) (pw_and1 (pt_cmpR op_gt (pe_callB call_len_seq (by rfl) T.n_len PySem.boot_len (pa_cons (pv 0) pa_nil)) pe_int (nomark _)))))
       (pss_one (ps_expr (pe_bm PySem.F.plainAttrs_list PySem.F.slot_list_insert PySem.F.type_list_insert mt_insert (pe_ix ix_list (pv 4) pe_int (fun _ _=>rfl)) (pa_cons (pv 5) (pa_cons (pe_tup (pa_cons pe_str (pa_cons (pv 7) (pa_cons (pv 2) pa_nil)))) pa_nil))))) (pss_one (ps_expr (pe_bm PySem.F.plainAttrs_list PySem.F.slot_list_insert PySem.F.type_list_insert mt_insert (pe_ix ix_list (pv 4) pe_int (fun _ _=>rfl)) (pa_cons (pv 5) (pa_cons (pe_tup (pa_cons (pe_ix ix_list (pe_lst (pa_cons pe_str (pa_cons pe_str pa_nil))) (pe_op op_mod (pe_ix ix_list (pv 2) pe_int (fun _ _=>rfl)) pe_int) (fun _ _=>rfl)) (pa_cons pe_non (pa_cons (pv 2) pa_nil)))) pa_nil)))))))))))))))))))),?_⟩
  refine ⟨_,rfl,x,_,_,_,rfl,rfl,SqL.of hx,atI_map V.int xs 0 (by decide) (by omega),_,rfl,l,_,rfl,.inl (SqL.of hh.ll),_,_,rfl,rfl,hlp,?_⟩
  show gName 3 (V.int (xs.getD (5 : Int).toNat 0 % ((A.map fun q=>V.ref q.p).length : Int))) _ _ _
  obtain ⟨i,hi,hie⟩ : ∃ i : Nat,i < hs.length∧xs.getD (5 : Int).toNat 0 % ((A.map fun q=>V.ref q.p).length : Int) = i:=⟨(xs.getD (5 : Int).toNat 0 % ((A.map fun q=>V.ref q.p).length : Int)).toNat,by have:=Int.emod_lt_of_pos (xs.getD (5 : Int).toNat 0) hlp; have:=Int.emod_nonneg (xs.getD (5 : Int).toNat 0) (Int.ne_of_gt hlp); omega,by have:=Int.emod_nonneg (xs.getD (5 : Int).toNat 0) (Int.ne_of_gt hlp); omega⟩
  rw [hie]
  clear hie
  obtain ⟨pp,ei⟩ : ∃ pp,hs[i]? = some pp:=⟨hs[i],by simp [hi]⟩
  obtain ⟨qi,eqi⟩ : ∃ q,A[i]? = some q:=⟨A[i]'(by rw [hh.len]; exact hi),by simp [hh.len,hi]⟩
  have mi : (A.map fun q=>V.ref q.p)[i]? = some (.ref qi.p):=by rw [List.getElem?_map,eqi]; rfl
  have Pi:=hh.pt i qi pp eqi ei
  obtain ⟨rv,hrv,hrp⟩:=Pi.r
  have hrl : rv.length = pp.rows.length:=Paired.length hrp
  have OK:=hI i pp ei
  obtain ⟨n,hn,hn23⟩:=OK.n
  obtain ⟨m,hm,hm23⟩:=OK.m
  have hol : (pp.owns.map V.str).length = n:=by rw [List.length_map,hn,drawnN_len]
  have hgl : (pp.gives.map V.str).length = m:=by rw [List.length_map,hm,drawnN_len]
  refine ⟨_,rfl,_,rfl,l,_,_,_,rfl,rfl,SqL.of hh.ll,atI_nat mi,?_⟩
  refine ⟨_,rfl,x,_,_,_,rfl,rfl,SqL.of hx,atI_map V.int xs 0 (by decide) (by omega),_,rfl,qi.p,_,_,_,rfl,rfl,SqL.of Pi.p,rfl,qi.r,_,rfl,.inl (SqL.of hrv),_,_,rfl,rfl,_,_,rfl,rfl,(by show (0 : Int) < (rv.length : Int) + 1; omega),?_⟩
  show gName 5 (V.int (xs.getD (4 : Int).toNat 0 % ((rv.length : Int) + 1))) _ _ _
  obtain ⟨k,hk,hke⟩ : ∃ k : Nat,k ≤ rv.length∧xs.getD (4 : Int).toNat 0 % ((rv.length : Int) + 1) = k:=⟨(xs.getD (4 : Int).toNat 0 % ((rv.length : Int) + 1)).toNat,by have:=Int.emod_lt_of_pos (xs.getD (4 : Int).toNat 0) (show (0 : Int) < (rv.length : Int) + 1 by omega); have:=Int.emod_nonneg (xs.getD (4 : Int).toNat 0) (show (rv.length : Int) + 1 ≠ 0 by omega); omega,by have:=Int.emod_nonneg (xs.getD (4 : Int).toNat 0) (show (rv.length : Int) + 1 ≠ 0 by omega); omega⟩
  rw [hke]
  clear hke
  refine ⟨_,rfl,x,_,_,_,rfl,rfl,SqL.of hx,atI_map V.int xs 0 (by decide) (by omega),_,_,rfl,rfl,(by show (0 : Int) < 10; decide),?_⟩
  refine gen_gName (fun d=>0 ≤ d∧d < 10) _ ⟨by omega,by omega⟩ (fun d hd=>?_)
  have hmx : (0 : Int) < (if ((A.map fun q=>V.ref q.p).length : Int) - 1 > 1 then ((A.map fun q=>V.ref q.p).length : Int) - 1 else 1):=by split <;> omega
  refine ⟨_,rfl,_,_,rfl,rfl,_,rfl,x,_,_,_,rfl,rfl,SqL.of hx,atI_map V.int xs 0 (by decide) (by omega),_,rfl,l,_,rfl,.inl (SqL.of hh.ll),_,_,rfl,rfl,_,_,rfl,_,_,rfl,rfl,hmx,_,_,rfl,rfl,_,rfl,l,_,rfl,.inl (SqL.of hh.ll),_,_,rfl,rfl,hlp,?_⟩
  refine gen_gName (fun j=>∃ j' : Nat,j = j'∧j' < hs.length∧(1 < hs.length→j' ≠ i)) _ ?_ (fun j hj=>?_)
  ·obtain ⟨j',e1,e2,e3⟩:=other_ok (a:=0) (y:=xs.getD (1 : Int).toNat 0) (i:=i) hlp (by omega) (R 1 (by decide) (by decide)).1
   exact ⟨j',e1,by omega,fun h=>e3 (by omega)⟩
  obtain ⟨j,rfl,hj,hji⟩:=hj
  refine ⟨_,rfl,qi.p,_,_,_,rfl,rfl,SqL.of Pi.p,rfl,qi.r,_,rfl,.inl (SqL.of hrv),_,_,rfl,rfl,_,rfl,?_⟩
  refine ite2 (fun c0=>?_) (fun c0=>?_)
  ·exact q hs H hh rfl hI hR (KeepH.refl l A H)
  have h39 : pp.rows.length ≤ 39:=by
   have : ¬ ((rv.length : Int) > 39):=by simpa using c0
   omega
  apply nx_if_or
  ·with_reducible_and_instances rfl
  ·exact tand_pure (a:=decide (((pp.owns.map V.str).length : Int) > 17)) (b:=decide (d < 6)) (fun Q' h=>⟨_,rfl,qi.p,_,_,_,rfl,rfl,SqL.of Pi.p,rfl,qi.o,_,rfl,.inl (SqL.of Pi.o),_,_,rfl,rfl,_,rfl,h⟩) (fun Q' h=>⟨_,rfl,_,_,rfl,rfl,_,rfl,h⟩)
  ·exact tand_pure (a:=decide (((pp.gives.map V.str).length : Int) > 22)) (b:=decide (d < 8)) (fun Q' h=>⟨_,rfl,qi.p,_,_,_,rfl,rfl,SqL.of Pi.p,rfl,qi.g,_,rfl,.inl (SqL.of Pi.g),_,_,rfl,rfl,_,rfl,h⟩) (fun Q' h=>⟨_,rfl,_,_,rfl,rfl,_,rfl,h⟩)
  refine join_set (S:=fun e=>[some (.ref l),some (.ref pl),some (.ref x),some (.int i),some (.ref qi.p),some (.int k),some (.int e),some (.int j),none,none]) (fun c=>0 ≤ c∧c < 10∧(c < 6→n ≤ 17)∧(c < 8→m ≤ 22)) 8 d ?_ ?_ (fun c hc=>?_)
  ·exact fun _=>⟨by decide,by decide,fun h=>absurd h (by decide),fun h=>absurd h (by decide)⟩
  ·intro hf
   simp only [Bool.or_eq_false_iff,Bool.and_eq_false_iff,decide_eq_false_iff_not] at hf
   exact ⟨hd.1,hd.2,fun h=>by omega,fun h=>by omega⟩
  obtain ⟨hc0,hc1,hc6,hc8⟩:=hc
  have hset : ∀ pp' : Pp,(hs.set i pp')[i]? = some pp':=fun pp'=>List.getElem?_set_self hi
  refine ⟨_,rfl,_,_,rfl,rfl,_,rfl,?_⟩
  refine ite2 (fun c1=>?_) (fun c1=>?_)
  ·have c1' : c < 4:=by simpa using c1
   obtain ⟨kk,hat,hkk⟩:=kinds_at hc0 c1'
   refine ⟨_,rfl,_,rfl,pl,_,_,_,rfl,rfl,SqL.of hpl.h,rfl,_,rfl,qi.p,_,_,_,rfl,rfl,SqL.of Pi.p,rfl,qi.o,_,rfl,.inl (SqL.of Pi.o),?_⟩
   refine ⟨qi.p,qi.r,qi.o,qi.g,b0,_,pp.sh,rfl,Pi.p,hpl.r0.1,hpl.r0.2,by omega,fun H3 s3=>?_⟩
   rw [hol]
   have h3:=hh.same s3
   have P3:=h3.pt i qi pp eqi ei
   refine ⟨_,rfl,qi.p,_,_,_,rfl,rfl,SqL.of P3.p,rfl,.inl ⟨rfl,_,SqL.of P3.o⟩,_,rfl,qi.o,_,_,rfl,rfl,P3.o,small1000 (by rw [hol]; omega),?_⟩
   have h4:=house_own h3 (nameM b0 (((n : Int) + pp.sh) % 24)) eqi ei
   have k4 : KeepH l A H (upd H3 qi.o (.lst (pp.owns.map V.str ++ [.str (nameM b0 (((n : Int) + pp.sh) % 24))]))):=((KeepH.refl l A H).same s3).put (x:=2) eqi (by omega)
   generalize upd H3 qi.o (.lst (pp.owns.map V.str ++ [.str (nameM b0 (((n : Int) + pp.sh) % 24))])) = H4 at h4 k4 ⊢
   have P4:=h4.pt i qi _ eqi (hset _)
   obtain ⟨rv4,hrv4,hrp4⟩:=P4.r
   have hrl4 : rv4.length = pp.rows.length:=Paired.length hrp4
   refine ⟨_,rfl,qi.p,_,_,_,rfl,rfl,SqL.of P4.p,rfl,.inl ⟨rfl,_,SqL.of hrv4⟩,_,rfl,(by show 4 ≤ sizeLine; decide),fun g hg=>?_⟩
   have s5 : Same H4 (upd H4 g (.lst [.str "set",.str "set",.str "set",.str "take"])):=(Same.refl H4).new hg
   refine ⟨_,rfl,g,_,_,_,rfl,rfl,SqL.of upd_same,hat,_,rfl,_,rfl,leS3,fun tp htp=>?_⟩
   have s6:=s5.new (o:=.tup [.str kk,.str (nameM b0 (((n : Int) + pp.sh) % 24)),.ref x]) htp
   refine ⟨qi.r,_,_,_,rfl,rfl,s6 _ _ hrv4,(by omega),(by show (k : Int) ≤ (rv4.length : Int); omega),small1000 (by omega),?_⟩
   have h7:=house_row (h4.same s6) (pr:=.own kk (nameM b0 (((n : Int) + pp.sh) % 24)) xs) k eqi (hset _) (s6 _ _ hrv4) ⟨tp,x,rfl,upd_same,(k4.same s6) _ _ hxn hx,hxn⟩
   rw [List.set_set] at h7
   refine q _ _ h7 (List.length_set ..) ?_ (hR.put (k:=k) (y:=.own kk (nameM b0 (((n : Int) + pp.sh) % 24)) xs) ei rfl (fun _ _ _ z=>by cases z)) ((k4.same s6).put (x:=1) eqi (by omega))
   exact hI.put (k:=k) (y:=.own kk (nameM b0 (((n : Int) + pp.sh) % 24)) xs) ei ⟨n + 1,by show pp.owns ++ [_] = _; rw [hn,drawnN_succ],by have:=hc6 (by omega); omega⟩ ⟨m,hm,hm23⟩ rfl h39 List.perm_append_comm (List.Perm.refl _) ⟨hkk,h6,hb⟩
  have c1' : ¬ c < 4:=by simpa using c1
  with_reducible apply if_and
  ·exact fun Q' h=>⟨_,rfl,_,_,rfl,rfl,_,rfl,h⟩
  ·exact fun Q' h=>⟨_,rfl,l,_,rfl,.inl (SqL.of hh.ll),_,_,rfl,rfl,_,rfl,h⟩
  refine ite2 (fun c2=>?_) (fun c2=>?_)
  ·simp only [Bool.and_eq_true,decide_eq_true_eq] at c2
   obtain ⟨pq,ej⟩ : ∃ pq,hs[j]? = some pq:=⟨hs[j],by simp [hj]⟩
   have hjn:=hji (by have:=c2.2; omega)
   obtain ⟨m',hm',hm23'⟩:=(hI j pq ej).m
   have hn17:=hc6 c2.1
   refine ⟨_,rfl,qi.p,_,_,_,rfl,rfl,SqL.of Pi.p,rfl,.inl ⟨rfl,_,SqL.of hrv⟩,_,rfl,_,rfl,_,rfl,_,rfl,_,rfl,_,rfl,_,rfl,?_⟩
   refine ⟨l,pl,x,A,hs,b0,b1,b2,i,j,n,pp,pq,xs,rfl,hh,hpl,⟨hx,hxn⟩,h6,hb,ei,ej,hjn.symm,hn,hn17,(by rw [hm']; exact drawnN_ok hpl.r1.1),(by rw [hm',drawnN_len]; omega),fun mm ps q' H4 hmm hpl4 hdr hgv hpa h4 k4=>?_⟩
   have P4:=h4.pt i qi _ eqi (hset _)
   obtain ⟨rv4,hrv4,hrp4⟩:=P4.r
   have hrl4 : rv4.length = pp.rows.length:=Paired.length hrp4
   refine ⟨leS2,fun u hu'=>?_⟩
   have s5 : Same H4 (upd H4 u (.tup [.int j,.ref q'])):=(Same.refl H4).new hu'
   refine ⟨_,rfl,leS3,fun tp htp=>?_⟩
   have s6:=s5.new (o:=.tup [.str "bring",.ref u,.ref x]) htp
   refine ⟨qi.r,_,_,_,rfl,rfl,s6 _ _ hrv4,(by omega),(by show (k : Int) ≤ (rv4.length : Int); omega),small1000 (by omega),?_⟩
   have h7:=house_row (h4.same s6) (pr:=.bring j ps xs) k eqi (hset _) (s6 _ _ hrv4) ⟨tp,u,q',x,rfl,upd_same,upd_keep upd_same htp,hpa.mono s6.tups,(k4.same s6) _ _ hxn hx,hxn⟩
   rw [List.set_set] at h7
   refine q _ _ h7 (List.length_set ..) ?_ (hR.bring hI (k:=k) (ps:=ps) (xs:=xs) ei ej hjn rfl hgv ?_) ((k4.same s6).put (x:=1) eqi (by omega))
   rotate_left
   ·intro p hp z
    have h1 : (drawnN b0 pp.sh (n + mm)).Nodup:=drawnN_nodup0 hpl.r0.1 (by omega)
    rw [← hdr] at h1
    exact (List.nodup_append.mp h1).2.2 _ (by rw [← hn]; exact z) _ (List.mem_map_of_mem (f:=(·.2)) hp) rfl
   refine hI.put (k:=k) (y:=.bring j ps xs) ei ⟨n + mm,rfl,by omega⟩ ⟨m,hm,hm23⟩ rfl h39 ?_ (List.Perm.refl _) ⟨by rw [List.length_set]; exact hj,hjn,by omega,fun p hp=>⟨pq,by rw [List.getElem?_set_ne hjn.symm]; exact ej,hgv p hp⟩,h6,hb⟩
   show (ps.map (·.2) ++ pp.owns).Perm (drawnN b0 pp.sh (n + mm))
   rw [← hdr,← hn]
   exact List.perm_append_comm
  with_reducible apply if_andS (b:=!(pp.owns.map V.str).isEmpty)
  ·exact fun Q' h=>⟨_,rfl,_,_,rfl,rfl,_,rfl,h⟩
  ·exact fun Q' h=>⟨_,rfl,qi.p,_,_,_,rfl,rfl,SqL.of Pi.p,rfl,leS0,fun e he=>⟨qi.o,e,_,rfl,rfl,SqL.of (((Same.refl H).new he) _ _ Pi.o),SqL.of upd_same,_,rfl,h _ ((Same.refl H).new he)⟩⟩
  intro H1 s1
  have h1:=hh.same s1
  have k1:=(KeepH.refl l A H).same s1
  have P1:=h1.pt i qi pp eqi ei
  have hpl1:=hpl.keep k1
  refine ite2 (fun c3=>?_) (fun c3=>?_)
  ·simp only [Bool.and_eq_true,decide_eq_true_eq] at c3
   have hop : 0 < ((pp.owns.map V.str).length : Int):=by
    cases e : pp.owns.map V.str with
    | nil=>rw [e] at c3; exact absurd c3.2 (by decide)
    | cons a r=>rw [List.length_cons]; omega
   have hm22:=hc8 c3.1
   refine ⟨_,rfl,_,rfl,pl,_,_,_,rfl,rfl,SqL.of hpl1.h,rfl,_,rfl,qi.p,_,_,_,rfl,rfl,SqL.of P1.p,rfl,qi.g,_,rfl,.inl (SqL.of P1.g),?_⟩
   refine ⟨qi.p,qi.r,qi.o,qi.g,b1,_,pp.sh,rfl,P1.p,hpl.r1.1,hpl.r1.2,by omega,fun H3 s3=>?_⟩
   rw [hgl]
   have h3:=h1.same s3
   have P3:=h3.pt i qi pp eqi ei
   refine ⟨_,rfl,qi.p,_,_,_,rfl,rfl,SqL.of P3.p,rfl,.inl ⟨rfl,_,SqL.of P3.g⟩,_,rfl,qi.g,_,_,rfl,rfl,P3.g,small1000 (by rw [hgl]; omega),?_⟩
   have h4:=house_give h3 (nameM b1 (((m : Int) + pp.sh) % 24)) eqi ei
   have k4 : KeepH l A H (upd H3 qi.g (.lst (pp.gives.map V.str ++ [.str (nameM b1 (((m : Int) + pp.sh) % 24))]))):=(k1.same s3).put (x:=3) eqi (by omega)
   generalize upd H3 qi.g (.lst (pp.gives.map V.str ++ [.str (nameM b1 (((m : Int) + pp.sh) % 24))])) = H4 at h4 k4 ⊢
   have P4:=h4.pt i qi _ eqi (hset _)
   obtain ⟨rv4,hrv4,hrp4⟩:=P4.r
   have hrl4 : rv4.length = pp.rows.length:=Paired.length hrp4
   have hL : ((pp.owns.map V.str).length : Int) = pp.owns.length:=by rw [List.length_map]
   have hd0 : 0 ≤ xs.getD (1 : Int).toNat 0 % ((pp.owns.map V.str).length : Int):=Int.emod_nonneg _ (by omega)
   have hd1 : xs.getD (1 : Int).toNat 0 % ((pp.owns.map V.str).length : Int) < (pp.owns.length : Int):=by rw [← hL]; exact Int.emod_lt_of_pos _ hop
   refine ⟨_,rfl,qi.p,_,_,_,rfl,rfl,SqL.of P4.p,rfl,.inl ⟨rfl,_,SqL.of hrv4⟩,_,rfl,_,rfl,qi.p,_,_,_,rfl,rfl,SqL.of P4.p,rfl,?_⟩
   refine ⟨_,rfl,x,_,_,_,rfl,rfl,SqL.of (k4 _ _ hxn hx),atI_map V.int xs 0 (by decide) (by omega),_,rfl,qi.p,_,_,_,rfl,rfl,SqL.of P4.p,rfl,qi.o,_,rfl,.inl (SqL.of P4.o),_,_,rfl,rfl,hop,qi.o,_,_,_,rfl,rfl,SqL.of P4.o,atI_map V.str pp.owns "" hd0 hd1,?_⟩
   have hym : pp.owns.getD (xs.getD (1 : Int).toNat 0 % ((pp.owns.map V.str).length : Int)).toNat "" ∈ pp.owns:=by
    have hlt : (xs.getD (1 : Int).toNat 0 % ((pp.owns.map V.str).length : Int)).toNat < pp.owns.length:=by omega
    rw [List.getD_eq_getElem?_getD,List.getElem?_eq_getElem hlt]
    exact List.getElem_mem hlt
   generalize pp.owns.getD (xs.getD (1 : Int).toNat 0 % ((pp.owns.map V.str).length : Int)).toNat "" = y at hym ⊢
   refine ⟨_,rfl,leS2,fun u hu'=>?_⟩
   have s5 : Same H4 (upd H4 u (.tup [.str y,.str (nameM b1 (((m : Int) + pp.sh) % 24))])):=(Same.refl H4).new hu'
   refine ⟨_,rfl,leS3,fun tp htp=>?_⟩
   have s6:=s5.new (o:=.tup [.str "give",.ref u,.ref x]) htp
   refine ⟨qi.r,_,_,_,rfl,rfl,s6 _ _ hrv4,(by omega),(by show (k : Int) ≤ (rv4.length : Int); omega),small1000 (by omega),?_⟩
   have h7:=house_row (h4.same s6) (pr:=.give y (nameM b1 (((m : Int) + pp.sh) % 24)) xs) k eqi (hset _) (s6 _ _ hrv4) ⟨tp,u,x,rfl,upd_same,upd_keep upd_same htp,(k4.same s6) _ _ hxn hx,hxn⟩
   rw [List.set_set] at h7
   refine q _ _ h7 (List.length_set ..) ?_ (hR.put (k:=k) (y:=.give y (nameM b1 (((m : Int) + pp.sh) % 24)) xs) ei rfl (fun _ _ _ z=>by cases z)) ((k4.same s6).put (x:=1) eqi (by omega))
   exact hI.put (k:=k) (y:=.give y (nameM b1 (((m : Int) + pp.sh) % 24)) xs) ei ⟨n,hn,hn23⟩ ⟨m + 1,by show pp.gives ++ [_] = _; rw [hm,drawnN_succ],by omega⟩ rfl h39 (List.Perm.refl _) List.perm_append_comm ⟨⟨_,hset _,hym⟩,h6,hb⟩
  with_reducible apply if_and
  ·exact fun Q' h=>⟨_,rfl,rfl,_,rfl,h⟩
  ·exact fun Q' h=>⟨_,rfl,l,_,rfl,.inl (SqL.of h1.ll),_,_,rfl,rfl,_,rfl,h⟩
  obtain ⟨rv1,hrv1,hrp1⟩:=P1.r
  have hrl1 : rv1.length = pp.rows.length:=Paired.length hrp1
  refine ite2 (fun c4=>?_) (fun c4=>?_)
  ·simp only [Bool.and_eq_true,decide_eq_true_eq] at c4
   refine ⟨_,rfl,qi.p,_,_,_,rfl,rfl,SqL.of P1.p,rfl,.inl ⟨rfl,_,SqL.of hrv1⟩,_,rfl,_,rfl,_,rfl,leS3,fun tp htp=>?_⟩
   have s6 : Same H1 (upd H1 tp (.tup [.str "ask",.int j,.ref x])):=(Same.refl H1).new htp
   refine ⟨qi.r,_,_,_,rfl,rfl,s6 _ _ hrv1,(by omega),(by show (k : Int) ≤ (rv1.length : Int); omega),small1000 (by omega),?_⟩
   have h7:=house_row (h1.same s6) (pr:=.ask j xs) k eqi ei (s6 _ _ hrv1) ⟨tp,x,rfl,upd_same,(k1.same s6) _ _ hxn hx,hxn⟩
   refine q _ _ h7 (List.length_set ..) ?_ (hR.put (k:=k) (y:=.ask j xs) ei rfl (fun _ _ _ z=>by cases z)) ((k1.same s6).put (x:=1) eqi (by omega))
   exact hI.put (k:=k) (y:=.ask j xs) ei ⟨n,hn,hn23⟩ ⟨m,hm,hm23⟩ rfl h39 (List.Perm.refl _) (List.Perm.refl _) ⟨by rw [List.length_set]; exact hj,hji (by have:=c4.2; omega),h6,hb⟩
  ·obtain ⟨kk,hat,hkk⟩:=sayneed_at (c:=xs.getD (1 : Int).toNat 0 % 2) (by omega) (by omega)
   refine ⟨_,rfl,qi.p,_,_,_,rfl,rfl,SqL.of P1.p,rfl,.inl ⟨rfl,_,SqL.of hrv1⟩,_,rfl,leS2,fun g hg=>?_⟩
   have s5 : Same H1 (upd H1 g (.lst [.str "say",.str "need"])):=(Same.refl H1).new hg
   refine ⟨_,rfl,x,_,_,_,rfl,rfl,SqL.of ((k1.same s5) _ _ hxn hx),atI_map V.int xs 0 (by decide) (by omega),_,_,rfl,rfl,(by show (0 : Int) < 2; decide),g,_,_,_,rfl,rfl,SqL.of upd_same,hat,?_⟩
   refine ⟨_,rfl,leS3,fun tp htp=>?_⟩
   have s6:=s5.new (o:=.tup [.str kk,.non,.ref x]) htp
   refine ⟨qi.r,_,_,_,rfl,rfl,s6 _ _ hrv1,(by omega),(by show (k : Int) ≤ (rv1.length : Int); omega),small1000 (by omega),?_⟩
   have h7:=house_row (h1.same s6) (pr:=.sum kk xs) k eqi ei (s6 _ _ hrv1) ⟨tp,x,rfl,upd_same,(k1.same s6) _ _ hxn hx,hxn⟩
   refine q _ _ h7 (List.length_set ..) ?_ (hR.put (k:=k) (y:=.sum kk xs) ei rfl (fun _ _ _ z=>by cases z)) ((k1.same s6).put (x:=1) eqi (by omega))
   exact hI.put (k:=k) (y:=.sum kk xs) ei ⟨n,hn,hn23⟩ ⟨m,hm,hm23⟩ rfl h39 (List.Perm.refl _) (List.Perm.refl _) ⟨hkk,h6,hb⟩
def kindP : Pr→Str
 | .own k _ _=>k
 | .bring _ _ _ => "bring"
 | .give _ _ _ => "give"
 | .ask _ _ => "ask"
 | .sum k _=>k
def xsP : Pr→List Int
 | .own _ _ xs=>xs
 | .bring _ _ xs=>xs
 | .give _ _ xs=>xs
 | .ask _ xs=>xs
 | .sum _ xs=>xs
def oneP (H : Hp) (one : V) : Pr→Prop
 | .own _ n _=>one = .str n
 | .bring j ps _=>∃ u q,one = .ref u∧H u = some (.tup [.int j,.ref q])∧PairsAt H q ps
 | .give o g _=>∃ u,one = .ref u∧H u = some (.tup [.str o,.str g])
 | .ask j _=>one = .int j
 | .sum _ _=>one = .non
theorem pr_parts {H : Hp} {F : Addr→Prop} {v : V} {pr : Pr} (h : PrAt H F v pr) : ∃ t x one,v = .ref t∧H t = some (.tup [.str (kindP pr),one,.ref x])∧H x = some (.lst ((xsP pr).map V.int))∧oneP H one pr:=by
 cases pr with
 | own k n xs=>obtain ⟨t,x,e,h1,h2⟩:=h; exact ⟨t,x,_,e,h1,h2.1,rfl⟩
 | bring j ps xs=>obtain ⟨t,u,q,x,e,h1,h2,h3,h4⟩:=h; exact ⟨t,x,_,e,h1,h4.1,u,q,rfl,h2,h3⟩
 | give o g xs=>obtain ⟨t,u,x,e,h1,h2,h3⟩:=h; exact ⟨t,x,_,e,h1,h3.1,u,rfl,h2⟩
 | ask j xs=>obtain ⟨t,x,e,h1,h2⟩:=h; exact ⟨t,x,_,e,h1,h2.1,rfl⟩
 | sum k xs=>obtain ⟨t,x,e,h1,h2⟩:=h; exact ⟨t,x,_,e,h1,h2.1,rfl⟩
theorem prOk_xs {hs : List Pp} {i : Nat} {pr : Pr} (h : PrOk hs i pr) : XsOk (xsP pr):=by
 cases pr with
 | own k n xs=>exact h.2
 | bring j ps xs=>exact h.2.2.2.2
 | give o g xs=>exact h.2
 | ask j xs=>exact h.2.2
 | sum k xs=>exact h.2
def InS (owns : List Str) (ts : List (Int × Th)) : Prop:=∀ d ∈ ts,∀ y,d.2 = Th.nam y→y ∈ owns
def InO (owns : List Str) (w : Option Str) : Prop:=∀ y,w = some y→y ∈ owns
def FinR (nms owns : List Str) : Pr→Rw→Prop
 | .own k n _,rw=>(k = "take" ∧ rw = .take n)∨(k = "set" ∧ ∃ ts,rw = .set n ts∧SumOk ts∧InS owns ts)
 | .bring j ps _,rw=>∃ nm,nms[j]? = some nm∧rw = .bring nm ps
 | .give o g _,rw=>rw = .give o g
 | .ask j _,rw=>∃ nm w,nms[j]? = some nm∧rw = .ask nm w∧InO owns w
 | .sum k _,rw=>(k = "need" ∧ ∃ ts,rw = .need ts∧SumOk ts∧InS owns ts)∨(k = "say" ∧ ∃ ts w,rw = .say ts w∧SumOk ts∧InS owns ts∧InO owns w)
def spRow : Sp:=fun vs H Q _=>∃ (v : V) (nl : Addr) (F : Addr→Prop) (ol : Addr) (owns : List Str) (pr : Pr) (i : Nat) (hs : List Pp) (nms : List Str),vs = [v,.ref ol,.ref nl]∧PrAt H F v pr∧H ol = some (.lst (owns.map V.str))∧PrOk hs i pr∧(∀ y ∈ owns,NameOk y)∧H nl = some (.lst (nms.map V.str))∧nms.length = hs.length ∧
 ∀ (r : Addr) (rw : Rw) (H' : Hp),Same H H'→RowAt H' r rw→FinR nms owns pr rw→Q (.ref r) H'
theorem nx_when {t u : TT} {A R : TS} {D : Ends} {N : L2.St→Hp→Prop} {σ : L2.St} {H : Hp} {a b : Bool} (S : V→L2.St) (C : Option Str→Prop) (e : N = tSeq (tAsg (tC .non) (gName 6)) (tSeq (tIfS (tAnd t u) A tNext) R) D) (e6 : σ.set 6 (some .non) = S .non) (ht : ∀ Q : Bool→Hp→Prop,(∀ H1,Same H H1→Q a H1)→t (S .non) H Q) (hu : ∀ H1,Same H H1→∀ Q : Bool→Hp→Prop,Q b H1→u (S .non) H1 Q)
  (hA : ∀ H1,Same H H1→(a && b) = true→(∀ y,C (some y)→R D (S (.str y)) H1)→A { D with nx:=R D } (S .non) H1) (hC : C none) (hR : ∀ w H1,C w→Same H H1→R D (S (optV w)) H1) : N σ H:=by
 rw [e]
 show tIfS (tAnd t u) A tNext { D with nx:=R D } (σ.set 6 (some .non)) H
 rw [e6]
 refine ht _ fun H1 s1=>?_
 cases a with
 | false=>exact iteF (iteF (hR none H1 hC s1))
 | true =>
  refine iteT (hu H1 s1 _ ?_)
  cases b with
  | false=>exact iteF (hR none H1 hC s1)
  | true=>exact iteT (hA H1 s1 rfl fun y hy=>hR (some y) H1 hy s1)
theorem ok_row (T : Txt K mg) : L2.Cl P w K mg base 2 "_law_row" ["_law_row_here", "_law_owns", "_law_names"] spRow:=by
 have C_law_sum:=ok_sum (P:=P) (w:=w) (base:=base) T
 refine Cl.of T.d_law_row sc_law_row (fun vs H Q E h=>?_) (fun _ _ _ _ _ _ us hl=>by obtain ⟨a,b,c,rfl⟩:=len3 hl; rfl) (fun f cdv A' outer s H vs Q E hr h=>?_)
 ·obtain ⟨v,nl,F,ol,owns,pr,i,hs,nms,rfl,_⟩:=h
  rfl
 ·obtain ⟨v,nl,F,ol,owns,pr,i,hs,nms,rfl,hpr,hpp,hok,hon,hnl,hnl2,q⟩:=h
  have hu0:=Nat.lt_of_succ_lt (hu_of hr)
  obtain ⟨t,x,one,rfl,ht,hx,hone⟩:=pr_parts hpr
  obtain ⟨h6,hb⟩:=prOk_xs hok
  have R:=xs_rng h6 hb
  refine ⟨_,(@pss_cons _ _ _ _ _ (@ps_asg _ _ _ _ _ _ (@pv _ 0 _ _ (by rfl) (by first   | exact Or.inl rfl   | exact Or.inr (Or.inl rfl)   | exact Or.inr (Or.inr rfl)) (by decide) (by decide)) (@pg_tup _ _ _ _ _ _ rfl (@pgs_cons _ _ _ _ _ (@pg_name _ _ (3) _ sc_law_row.nd rfl (Or.inl rfl) (by first   | exact .inl rfl   | exact .inr rfl   | assumption)) (@pgs_cons _ _ _ _ _ (@pg_name _ _ (4) _ sc_law_row.nd rfl (Or.inl rfl) (by first   | exact .inl rfl   | exact .inr rfl   | assumption)) (@pgs_cons _ _ _ _ _ (@pg_name _ _ (5) _ sc_law_row.nd rfl (Or.inl rfl) (by first   | exact .inl rfl   | exact .inr rfl   | assumption)) (@pgs_nil _) (by rfl)) (by rfl)) (by rfl)) (by rfl) (by rfl)) (by rfl) (by rfl) (by rfl)) (@pss_cons _ _ _ _ _ (@ps_set _ _ (6) _ _ _ _ sc_law_row.nd rfl (Or.inl rfl) (@pe_non _ _ _) (by rfl) (by first   | exact .inl rfl   | exact .inr rfl   | assumption)) (@pss_cons _ _ _ _ _ (@ps_if _ _ _ _ _ _ _ _ (PW.pt (@pw_and _ _ _ _ _ _ _ (@pt_cmpR _ _ _ _ _ _ _ _ (@op_neL_nil _ hu0) (@pv _ 1 _ _ (by rfl) (by first   | exact Or.inl rfl   | exact Or.inr (Or.inl rfl)   | exact Or.inr (Or.inr rfl)) (by decide) (by decide)) (@pe_lst _ _ _ _ (@pa_nil _)) (nomark _)) (@pw_and1 _ _ _ _ (@pt_cmpR _ _ _ _ _ _ _ _ (@op_eq _) (@pe_op _ _ _ _ _ _ _ _ (@op_mod _) (@pe_op _ _ _ _ _ _ _ _ (@op_fdiv _) (@pe_ix _ _ _ _ _ _ _ ix_list (@pv _ 5 _ _ (by rfl) (by first   | exact Or.inl rfl   | exact Or.inr (Or.inl rfl)   | exact Or.inr (Or.inr rfl)) (by decide) (by decide)) (@pe_int _ _ _ _) (fun _ _=>rfl)) (@pe_int _ _ _ _)) (@pe_int _ _ _ _)) (@pe_int _ _ _ _) (nomark _))))) (@pss_one _ _ _ (@ps_set _ _ (6) _ _ _ _ sc_law_row.nd rfl (Or.inl rfl) (@pe_ix _ _ _ _ _ _ _ ix_list (@pv _ 1 _ _ (by rfl) (by first   | exact Or.inl rfl   | exact Or.inr (Or.inl rfl)   | exact Or.inr (Or.inr rfl)) (by decide) (by decide)) (@pe_op _ _ _ _ _ _ _ _ (@op_mod _) (@pe_op _ _ _ _ _ _ _ _ (@op_fdiv _) (@pe_ix _ _ _ _ _ _ _ ix_list (@pv _ 5 _ _ (by rfl) (by first   | exact Or.inl rfl   | exact Or.inr (Or.inl rfl)   | exact Or.inr (Or.inr rfl)) (by decide) (by decide)) (@pe_int _ _ _ _) (fun _ _=>rfl)) (@pe_int _ _ _ _)) (@pe_callB _ _ _ _ _ _ _ _ _ (@call_len_seq _) (by rfl) T.n_len PySem.boot_len (@pa_cons _ _ _ _ _ (@pv _ 1 _ _ (by rfl) (by first   | exact Or.inl rfl   | exact Or.inr (Or.inl rfl)   | exact Or.inr (Or.inr rfl)) (by decide) (by decide)) (@pa_nil _) (by rfl)) (by decide) (by decide) (by rfl) (by rfl))) (fun _ _=>rfl)) (by rfl) (by first   | exact .inl rfl   | exact .inr rfl   | assumption))) (@pss_nil _)) (@pss_cons _ _ _ _ _ (@ps_if _ _ _ _ _ _ _ _ (@pt_cmpR _ _ _ _ _ _ _ _ (@op_eq _) (@pv _ 3 _ _ (by rfl) (by first   | exact Or.inl rfl   | exact Or.inr (Or.inl rfl)   | exact Or.inr (Or.inr rfl)) (by decide) (by decide)) (@pe_str _ _ _ _) (nomark _)) (@pss_one _ _ _ (@ps_ret _ _ _ _ (@pe_tup _ _ _ _ _ (@pa_cons _ _ _ _ _ (@pe_str _ _ _ _) (@pa_cons _ _ _ _ _ (@pv _ 4 _ _ (by rfl) (by first   | exact Or.inl rfl   | exact Or.inr (Or.inl rfl)   | exact Or.inr (Or.inr rfl)) (by decide) (by decide)) (@pa_nil _) (by rfl)) (by rfl))))) (@pss_nil _)) (@pss_cons _ _ _ _ _ (@ps_if _ _ _ _ _ _ _ _ (@pt_cmpR _ _ _ _ _ _ _ _ (@op_eq _) (@pv _ 3 _ _ (by rfl) (by first   | exact Or.inl rfl   | exact Or.inr (Or.inl rfl)   | exact Or.inr (Or.inr rfl)) (by decide) (by decide)) (@pe_str _ _ _ _) (nomark _)) (@pss_one _ _ _ (@ps_ret _ _ _ _ (@pe_tup _ _ _ _ _ (@pa_cons _ _ _ _ _ (@pe_str _ _ _ _) (@pa_cons _ _ _ _ _ (@pe_ix _ _ _ _ _ _ _ ix_list (@pv _ 2 _ _ (by rfl) (by first   | exact Or.inl rfl   | exact Or.inr (Or.inl rfl)   | exact Or.inr (Or.inr rfl)) (by decide) (by decide)) (@pe_ix _ _ _ _ _ _ _ (@ix_tup _) (@pv _ 4 _ _ (by rfl) (by first   | exact Or.inl rfl   | exact Or.inr (Or.inl rfl)   | exact Or.inr (Or.inr rfl)) (by decide) (by decide)) (@pe_int _ _ _ _) (fun _ _=>rfl)) (fun _ _=>rfl)) (@pa_cons _ _ _ _ _ (@pe_ix _ _ _ _ _ _ _ (@ix_tup _) (@pv _ 4 _ _ (by rfl) (by first   | exact Or.inl rfl   | exact Or.inr (Or.inl rfl)   | exact Or.inr (Or.inr rfl)) (by decide) (by decide)) (@pe_int _ _ _ _) (fun _ _=>rfl)) (@pa_nil _) (by rfl)) (by rfl)) (by rfl))))) (@pss_nil _)) (@pss_cons _ _ _ _ _ (@ps_if _ _ _ _ _ _ _ _ (@pt_cmpR _ _ _ _ _ _ _ _ (@op_eq _) (@pv _ 3 _ _ (by rfl) (by first   | exact Or.inl rfl   | exact Or.inr (Or.inl rfl)   | exact Or.inr (Or.inr rfl)) (by decide) (by decide)) (@pe_str _ _ _ _) (nomark _)) (@pss_one _ _ _ (@ps_ret _ _ _ _ (@pe_tup _ _ _ _ _ (@pa_cons _ _ _ _ _ (@pe_str _ _ _ _) (@pa_cons _ _ _ _ _ (@pe_ix _ _ _ _ _ _ _ (@ix_tup _) (@pv _ 4 _ _ (by rfl) (by first   | exact Or.inl rfl   | exact Or.inr (Or.inl rfl)   | exact Or.inr (Or.inr rfl)) (by decide) (by decide)) (@pe_int _ _ _ _) (fun _ _=>rfl)) (@pa_cons _ _ _ _ _ (@pe_ix _ _ _ _ _ _ _ (@ix_tup _) (@pv _ 4 _ _ (by rfl) (by first   | exact Or.inl rfl   | exact Or.inr (Or.inl rfl)   | exact Or.inr (Or.inr rfl)) (by decide) (by decide)) (@pe_int _ _ _ _) (fun _ _=>rfl)) (@pa_nil _) (by rfl)) (by rfl)) (by rfl))))) (@pss_nil _)) (@pss_cons _ _ _ _ _ (@ps_if _ _ _ _ _ _ _ _ (@pt_cmpR _ _ _ _ _ _ _ _ (@op_eq _) (@pv _ 3 _ _ (by rfl) (by first   | exact Or.inl rfl   | exact Or.inr (Or.inl rfl)   | exact Or.inr (Or.inr rfl)) (by decide) (by decide)) (@pe_str _ _ _ _) (nomark _)) (@pss_one _ _ _ (@ps_ret _ _ _ _ (@pe_tup _ _ _ _ _ (@pa_cons _ _ _ _ _ (@pe_str _ _ _ _) (@pa_cons _ _ _ _ _ (@pe_ix _ _ _ _ _ _ _ ix_list (@pv _ 2 _ _ (by rfl) (by first   | exact Or.inl rfl   | exact Or.inr (Or.inl rfl)   | exact Or.inr (Or.inr rfl)) (by decide) (by decide)) (@pv _ 4 _ _ (by rfl) (by first   | exact Or.inl rfl   | exact Or.inr (Or.inl rfl)   | exact Or.inr (Or.inr rfl)) (by decide) (by decide)) (fun _ _=>rfl)) (@pa_cons _ _ _ _ _ (@pv _ 6 _ _ (by rfl) (by first   | exact Or.inl rfl   | exact Or.inr (Or.inl rfl)   | exact Or.inr (Or.inr rfl)) (by decide) (by decide)) (@pa_nil _) (by rfl)) (by rfl)) (by rfl))))) (@pss_nil _)) (@pss_cons _ _ _ _ _ (@ps_set _ _ (7) _ _ _ _ sc_law_row.nd rfl (Or.inl rfl) (@pe_fn _ _ _ _ _ _ _ _ _ _ _ C_law_sum hr (by rfl) (@pa_cons _ _ _ _ _ (@pv _ 1 _ _ (by rfl) (by first   | exact Or.inl rfl   | exact Or.inr (Or.inl rfl)   | exact Or.inr (Or.inr rfl)) (by decide) (by decide)) (@pa_cons _ _ _ _ _ (@pv _ 5 _ _ (by rfl) (by first   | exact Or.inl rfl   | exact Or.inr (Or.inl rfl)   | exact Or.inr (Or.inr rfl)) (by decide) (by decide)) (@pa_nil _) (by rfl)) (by rfl)) (by decide) (by decide) (by rfl) (by rfl)) (by rfl) (by first   | exact .inl rfl   | exact .inr rfl   | assumption)) (@pss_cons _ _ _ _ _ (@ps_if _ _ _ _ _ _ _ _ (@pt_cmpR _ _ _ _ _ _ _ _ (@op_eq _) (@pv _ 3 _ _ (by rfl) (by first   | exact Or.inl rfl   | exact Or.inr (Or.inl rfl)   | exact Or.inr (Or.inr rfl)) (by decide) (by decide)) (@pe_str _ _ _ _) (nomark _)) (@pss_one _ _ _ (@ps_ret _ _ _ _ (@pe_tup _ _ _ _ _ (@pa_cons _ _ _ _ _ (@pe_str _ _ _ _) (@pa_cons _ _ _ _ _ (@pv _ 4 _ _ (by rfl) (by first   | exact Or.inl rfl   | exact Or.inr (Or.inl rfl)   | exact Or.inr (Or.inr rfl)) (by decide) (by decide)) (@pa_cons _ _ _ _ _ (@pv _ 7 _ _ (by rfl) (by first   | exact Or.inl rfl   | exact Or.inr (Or.inl rfl)   | exact Or.inr (Or.inr rfl)) (by decide) (by decide)) (@pa_nil _) (by rfl)) (by rfl)) (by rfl))))) (@pss_nil _)) (@pss_cons _ _ _ _ _ (@ps_if _ _ _ _ _ _ _ _ (@pt_cmpR _ _ _ _ _ _ _ _ (@op_eq _) (@pv _ 3 _ _ (by rfl) (by first   | exact Or.inl rfl   | exact Or.inr (Or.inl rfl)   | exact Or.inr (Or.inr rfl)) (by decide) (by decide)) (@pe_str _ _ _ _) (nomark _)) (@pss_one _ _ _ (@ps_ret _ _ _ _ (@pe_tup _ _ _ _ _ (@pa_cons _ _ _ _ _ (@pe_str _ _ _ _) (@pa_cons _ _ _ _ _ (@pv _ 7 _ _ (by rfl) (by first   | exact Or.inl rfl   | exact Or.inr (Or.inl rfl)   | exact Or.inr (Or.inr rfl)) (by decide) (by decide)) (@pa_nil _) (by rfl)) (by rfl))))) (@pss_nil _)) (@pss_one _ _ _ (@ps_ret _ _ _ _ (@pe_tup _ _ _ _ _ (@pa_cons _ _ _ _ _ (@pe_str _ _ _ _) (@pa_cons _ _ _ _ _ (@pv _ 7 _ _ (by rfl) (by first   | exact Or.inl rfl   | exact Or.inr (Or.inl rfl)   | exact Or.inr (Or.inr rfl)) (by decide) (by decide)) (@pa_cons _ _ _ _ _ (@pv _ 6 _ _ (by rfl) (by first   | exact Or.inl rfl   | exact Or.inr (Or.inl rfl)   | exact Or.inr (Or.inr rfl)) (by decide) (by decide)) (@pa_nil _) (by rfl)) (by rfl)) (by rfl))))))))))))))),?_⟩
  refine ⟨_,rfl,t,_,rfl,SqT.of ht,rfl,_,_,rfl,_,_,rfl,_,_,rfl,rfl,?_⟩
  apply nx_when (S:=fun v=>[some (.ref t),some (.ref ol),some (.ref nl),some (.str (kindP pr)),some one,some (.ref x),some v,none]) (C:=InO owns) (a:=!(owns.map V.str).isEmpty) (b:=decide ((xsP pr).getD (1 : Int).toNat 0 / 2 % 2 = 1))
  ·with_reducible_and_instances rfl
  ·rfl
  ·exact fun Q' h=>⟨_,rfl,leS0,fun e he=>⟨ol,e,_,rfl,rfl,SqL.of (((Same.refl H).new he) _ _ hpp),SqL.of upd_same,_,rfl,h _ ((Same.refl H).new he)⟩⟩
  ·intro H1 s1 Q' h
   refine ⟨_,rfl,x,_,_,_,rfl,rfl,SqL.of (s1 _ _ hx),atI_map V.int (xsP pr) 0 (by decide) (by omega),_,_,rfl,rfl,⟨by decide,by decide⟩,_,_,rfl,rfl,(by show (0 : Int) < 2; decide),rfl,_,rfl,?_⟩
   have e : decide (V.int ((xsP pr).getD (1 : Int).toNat 0 / 2 % 2) = V.int 1) = decide ((xsP pr).getD (1 : Int).toNat 0 / 2 % 2 = 1):=by
    by_cases z : (xsP pr).getD (1 : Int).toNat 0 / 2 % 2 = 1
    ·rw [z]; rfl
    ·rw [decide_eq_false z,decide_eq_false (fun y=>z (V.int.inj y))]
   rw [e]
   exact h
  ·intro H1 s1 hc hN
   simp only [Bool.and_eq_true] at hc
   have hop : 0 < ((owns.map V.str).length : Int):=by
    cases e : owns.map V.str with
    | nil=>rw [e] at hc; exact absurd hc.1 (by decide)
    | cons a r=>rw [List.length_cons]; omega
   have hL : ((owns.map V.str).length : Int) = owns.length:=by rw [List.length_map]
   have hd0 : 0 ≤ (xsP pr).getD (2 : Int).toNat 0 / 32 % ((owns.map V.str).length : Int):=Int.emod_nonneg _ (by omega)
   have hd1 : (xsP pr).getD (2 : Int).toNat 0 / 32 % ((owns.map V.str).length : Int) < (owns.length : Int):=by rw [← hL]; exact Int.emod_lt_of_pos _ hop
   have hym : owns.getD ((xsP pr).getD (2 : Int).toNat 0 / 32 % ((owns.map V.str).length : Int)).toNat "" ∈ owns:=by
    have hlt : ((xsP pr).getD (2 : Int).toNat 0 / 32 % ((owns.map V.str).length : Int)).toNat < owns.length:=by omega
    rw [List.getD_eq_getElem?_getD,List.getElem?_eq_getElem hlt]
    exact List.getElem_mem hlt
   refine ⟨_,rfl,_,rfl,x,_,_,_,rfl,rfl,SqL.of (s1 _ _ hx),atI_map V.int (xsP pr) 0 (by decide) (by omega),_,_,rfl,rfl,⟨by decide,by decide⟩,?_⟩
   refine ⟨_,rfl,ol,_,rfl,.inl (SqL.of (s1 _ _ hpp)),_,_,rfl,rfl,hop,ol,_,_,_,rfl,rfl,SqL.of (s1 _ _ hpp),atI_map V.str owns "" hd0 hd1,?_⟩
   exact hN _ fun y hy=>by cases hy; exact hym
  ·exact fun y hy=>by cases hy
  ·intro w H1 hw s1
   cases pr with
   | own k n xs =>
    have hone' : one = .str n:=hone
    subst hone'
    rcases hok.1 with hk | hk
    ·subst hk
     refine ⟨_,rfl,rfl,_,rfl,iteSN (show ¬ ("set" : Str) = "take" by decide +kernel) ?_⟩
     refine ⟨_,rfl,rfl,_,rfl,iteSN (show ¬ ("set" : Str) = "bring" by decide +kernel) ?_⟩
     refine ⟨_,rfl,rfl,_,rfl,iteSN (show ¬ ("set" : Str) = "give" by decide +kernel) ?_⟩
     refine ⟨_,rfl,rfl,_,rfl,iteSN (show ¬ ("set" : Str) = "ask" by decide +kernel) ?_⟩
     refine ⟨_,rfl,_,rfl,?_⟩
     refine ⟨ol,x,owns,xs,rfl,s1 _ _ hpp,hon,s1 _ _ hx,h6,hb,fun tt ts H2 s2 hts hso hin=>?_⟩
     refine ⟨_,rfl,rfl,_,rfl,iteSE ?_⟩
     refine ⟨_,rfl,_,rfl,leS3,fun r hr'=>?_⟩
     exact q r (.set n ts) _ ((s1.trans s2).new hr') ⟨tt,upd_same,hts.mono (Tups.new hr')⟩ (.inr ⟨rfl,ts,rfl,hso,hin⟩)
    ·subst hk
     refine ⟨_,rfl,rfl,_,rfl,iteSE ?_⟩
     refine ⟨_,rfl,leS2,fun r hr'=>?_⟩
     exact q r (.take n) _ (s1.new hr') upd_same (.inl ⟨rfl,rfl⟩)
   | bring j ps xs =>
    obtain ⟨u,qq,hone',hu',hps⟩:=hone
    subst hone'
    obtain ⟨nm,hnm⟩ : ∃ nm,nms[j]? = some nm:=⟨nms[j]'(by rw [hnl2]; exact hok.1),by simp [hnl2,hok.1]⟩
    have mj : (nms.map V.str)[j]? = some (.str nm):=by rw [List.getElem?_map,hnm]; rfl
    refine ⟨_,rfl,rfl,_,rfl,iteSN (show ¬ ("bring" : Str) = "take" by decide +kernel) ?_⟩
    refine ⟨_,rfl,rfl,_,rfl,iteSE ?_⟩
    refine ⟨_,rfl,_,rfl,u,_,_,_,rfl,rfl,SqT.of (s1 _ _ hu'),rfl,nl,_,_,_,rfl,rfl,SqL.of (s1 _ _ hnl),atI_nat mj,_,rfl,u,_,_,_,rfl,rfl,SqT.of (s1 _ _ hu'),rfl,leS3,fun r hr'=>?_⟩
    exact q r (.bring nm ps) _ (s1.new hr') ⟨qq,upd_same,hps.mono (s1.new hr').tups⟩ ⟨nm,hnm,rfl⟩
   | give o g xs =>
    obtain ⟨u,hone',hu'⟩:=hone
    subst hone'
    refine ⟨_,rfl,rfl,_,rfl,iteSN (show ¬ ("give" : Str) = "take" by decide +kernel) ?_⟩
    refine ⟨_,rfl,rfl,_,rfl,iteSN (show ¬ ("give" : Str) = "bring" by decide +kernel) ?_⟩
    refine ⟨_,rfl,rfl,_,rfl,iteSE ?_⟩
    refine ⟨_,rfl,u,_,_,_,rfl,rfl,SqT.of (s1 _ _ hu'),rfl,_,rfl,u,_,_,_,rfl,rfl,SqT.of (s1 _ _ hu'),rfl,leS3,fun r hr'=>?_⟩
    exact q r (.give o g) _ (s1.new hr') upd_same rfl
   | ask j xs =>
    have hone' : one = .int j:=hone
    subst hone'
    obtain ⟨nm,hnm⟩ : ∃ nm,nms[j]? = some nm:=⟨nms[j]'(by rw [hnl2]; exact hok.1),by simp [hnl2,hok.1]⟩
    have mj : (nms.map V.str)[j]? = some (.str nm):=by rw [List.getElem?_map,hnm]; rfl
    refine ⟨_,rfl,rfl,_,rfl,iteSN (show ¬ ("ask" : Str) = "take" by decide +kernel) ?_⟩
    refine ⟨_,rfl,rfl,_,rfl,iteSN (show ¬ ("ask" : Str) = "bring" by decide +kernel) ?_⟩
    refine ⟨_,rfl,rfl,_,rfl,iteSN (show ¬ ("ask" : Str) = "give" by decide +kernel) ?_⟩
    refine ⟨_,rfl,rfl,_,rfl,iteSE ?_⟩
    refine ⟨_,rfl,_,rfl,nl,_,_,_,rfl,rfl,SqL.of (s1 _ _ hnl),atI_nat mj,_,rfl,leS3,fun r hr'=>?_⟩
    exact q r (.ask nm w) _ (s1.new hr') upd_same ⟨nm,w,hnm,rfl,hw⟩
   | sum k xs =>
    have hone' : one = .non:=hone
    subst hone'
    rcases hok.1 with hk | hk
    ·subst hk
     refine ⟨_,rfl,rfl,_,rfl,iteSN (show ¬ ("say" : Str) = "take" by decide +kernel) ?_⟩
     refine ⟨_,rfl,rfl,_,rfl,iteSN (show ¬ ("say" : Str) = "bring" by decide +kernel) ?_⟩
     refine ⟨_,rfl,rfl,_,rfl,iteSN (show ¬ ("say" : Str) = "give" by decide +kernel) ?_⟩
     refine ⟨_,rfl,rfl,_,rfl,iteSN (show ¬ ("say" : Str) = "ask" by decide +kernel) ?_⟩
     refine ⟨_,rfl,_,rfl,?_⟩
     refine ⟨ol,x,owns,xs,rfl,s1 _ _ hpp,hon,s1 _ _ hx,h6,hb,fun tt ts H2 s2 hts hso hin=>?_⟩
     refine ⟨_,rfl,rfl,_,rfl,iteSN (show ¬ ("say" : Str) = "set" by decide +kernel) ?_⟩
     refine ⟨_,rfl,rfl,_,rfl,iteSN (show ¬ ("say" : Str) = "need" by decide +kernel) ?_⟩
     refine ⟨_,rfl,_,rfl,leS3,fun r hr'=>?_⟩
     exact q r (.say ts w) _ ((s1.trans s2).new hr') ⟨tt,upd_same,hts.mono (Tups.new hr')⟩ (.inr ⟨rfl,ts,w,rfl,hso,hin,hw⟩)
    ·subst hk
     refine ⟨_,rfl,rfl,_,rfl,iteSN (show ¬ ("need" : Str) = "take" by decide +kernel) ?_⟩
     refine ⟨_,rfl,rfl,_,rfl,iteSN (show ¬ ("need" : Str) = "bring" by decide +kernel) ?_⟩
     refine ⟨_,rfl,rfl,_,rfl,iteSN (show ¬ ("need" : Str) = "give" by decide +kernel) ?_⟩
     refine ⟨_,rfl,rfl,_,rfl,iteSN (show ¬ ("need" : Str) = "ask" by decide +kernel) ?_⟩
     refine ⟨_,rfl,_,rfl,?_⟩
     refine ⟨ol,x,owns,xs,rfl,s1 _ _ hpp,hon,s1 _ _ hx,h6,hb,fun tt ts H2 s2 hts hso hin=>?_⟩
     refine ⟨_,rfl,rfl,_,rfl,iteSN (show ¬ ("need" : Str) = "set" by decide +kernel) ?_⟩
     refine ⟨_,rfl,rfl,_,rfl,iteSE ?_⟩
     refine ⟨_,rfl,leS2,fun r hr'=>?_⟩
     exact q r (.need ts) _ ((s1.trans s2).new hr') ⟨tt,upd_same,hts.mono (Tups.new hr')⟩ (.inl ⟨rfl,ts,rfl,hso,hin⟩)
theorem FinR.mono {nms owns owns' : List Str} (h : ∀ y ∈ owns,y ∈ owns') {pr : Pr} {rw : Rw} (f : FinR nms owns pr rw) : FinR nms owns' pr rw:=by
 have hS : ∀ {ts : List (Int × Th)},InS owns ts→InS owns' ts:=fun hi d hd y e=>h y (hi d hd y e)
 have hO : ∀ {w : Option Str},InO owns w→InO owns' w:=fun hi y e=>h y (hi y e)
 cases pr with
 | own k n xs =>
  rcases f with f | ⟨e,ts,e2,e3,e4⟩
  ·exact .inl f
  ·exact .inr ⟨e,ts,e2,e3,hS e4⟩
 | bring j ps xs=>exact f
 | give o g xs=>exact f
 | ask j xs =>
  obtain ⟨nm,w,e1,e2,e3⟩:=f
  exact ⟨nm,w,e1,e2,hO e3⟩
 | sum k xs =>
  rcases f with ⟨e,ts,e2,e3,e4⟩ | ⟨e,ts,w,e2,e3,e4,e5⟩
  ·exact .inl ⟨e,ts,e2,e3,hS e4⟩
  ·exact .inr ⟨e,ts,w,e2,e3,hS e4,hO e5⟩
def ownedR : Rw→List Str
 | .bring _ ps=>ps.map (·.2)
 | .set n _=>[n]
 | .take n=>[n]
 | _=>[]
theorem FinR.owned {nms owns : List Str} {pr : Pr} {rw : Rw} (f : FinR nms owns pr rw) : ownedR rw = madeP pr:=by
 cases pr with
 | own k n xs=>rcases f with ⟨_,e⟩ | ⟨_,ts,e,_⟩ <;> subst e <;> rfl
 | bring j ps xs=>obtain ⟨nm,_,e⟩:=f; subst e; rfl
 | give o g xs=>rw [show rw = .give o g from f]; rfl
 | ask j xs=>obtain ⟨nm,w,_,e,_⟩:=f; subst e; rfl
 | sum k xs=>rcases f with ⟨_,ts,e,_⟩ | ⟨_,ts,w,e,_⟩ <;> subst e <;> rfl
theorem call_tuple_ofF {X : Cx} : CallR X (.type "tuple") (fun xs H Q=>∃ p ys,xs = [.ref p]∧SqL X.K H p ys∧∀ l o,H l = none→o.dict = none→Q (.ref l) (upd H l (.frz o (.tup ys)))):=by
 intro pins s σ H xs us Q I r h
 obtain ⟨p,ys,rfl,hq,q⟩:=h
 obtain ⟨u,rfl,rx⟩:=vals1 r
 cases rx
 obtain ⟨its,r',pl,hz⟩:=I.list hq
 have hlen:=r'.length
 refine call_tuple_list pl.isList (fun h' kp=>?_) (by simp only [List.size_toArray] <;> omega)
 have I1 : Inv X pins σ H { s with heap:=h' }:=I.kept (t':=s.toks) kp
 have I2 : Inv X pins σ (upd H h'.objs.size (.frz { cls:=.type "tuple",data:=.seq its.toArray } (.tup ys))) { s with heap:=h'.push { cls:=.type "tuple",data:=.seq its.toArray } } :=
  I1.laid (t':=s.toks) (fun b o e=>Heap.get?_push_of_some _ e) (Nat.le_refl _) ⟨Heap.get?_push_size _ rfl,hz,its,r',⟨_,Heap.get?_push_size _ rfl,rfl,_,rfl⟩⟩
 exact ⟨.ref h'.objs.size,_,I2,rfl,q _ _ (I1.hok.fresh (Nat.le_refl _)) rfl⟩
def nmsOf (b : Int) (n : Nat) : List Str:=(List.range n).map fun (j : Nat)=>nameM b (j : Int)
theorem nmsOf_len (b : Int) (n : Nat) : (nmsOf b n).length = n:=by unfold nmsOf; simp
theorem nmsOf_succ (b : Int) (n : Nat) : nmsOf b (n + 1) = nmsOf b n ++ [nameM b (n : Int)]:=by unfold nmsOf; rw [List.range_succ,List.map_append]; rfl
theorem nmsOf_get (b : Int) (n : Nat) {i : Nat} (h : i < n) : (nmsOf b n)[i]? = some (nameM b (i : Int)):=by unfold nmsOf; rw [List.getElem?_map,List.getElem?_range h]; rfl
def FinI (b : Int) (hs : List Pp) (ps : List Pt) : Prop:=∀ (i : Nat) (pp : Pp) (pt : Pt),hs[i]? = some pp→ps[i]? = some pt→pt.1 = nameM b (i : Int)∧Paired (FinR (nmsOf b hs.length) pp.owns) pp.rows pt.2
theorem comp_tup {K : PySem.W.Frag} {a : Addr} {xs : List V} {g : TG} {tt : TT} {te : TE} {Q : Hp→Prop} {σ : L2.St} {H : Hp} {D : Addr} (Pv : Nat→L2.St→Hp→Prop) (h0 : Pv 0 σ (upd H D (.lst [])))
  (hl : ∀ i σ2 H2,Pv i σ2 H2→SqT K H2 a xs)
  (hs : ∀ i x σ2 H2,xs[i]? = some x→Pv i σ2 H2→g x σ2 H2 fun σ4 H4=>tt σ4 H4 fun b H5 =>
   if b = true then te σ4 H5 fun y H6=>∃ ys,H6 D = some (.lst ys)∧ys.length < sizeLine∧Pv (i + 1) σ4 (upd H6 D (.lst (ys ++ [y]))) else Pv (i + 1) σ4 H5)
  (hd : ∀ σ2 H2,Pv xs.length σ2 H2→Q H2) :
  ∃ W : Nat→Nat→L2.St→Hp→Prop,(∃ m,W 0 m σ (upd H D (.lst [])))∧∀ i m σ2 H2,W i m σ2 H2 →
   ((Itt K a).stop i H2∧Q H2)∨((Itt K a).go i H2∧∃ N : L2.St→Hp→Prop,(∀ σ' H',N σ' H'→∃ m',m' < m∧W (i + 1) m' σ' H')∧∀ x H3,(Itt K a).yld i H2 x H3→g x σ2 H3 fun σ4 H4=>tt σ4 H4 fun b H5 =>
    if b = true then te σ4 H5 fun y H6=>∃ ys,H6 D = some (.lst ys)∧ys.length < sizeLine∧N σ4 (upd H6 D (.lst (ys ++ [y]))) else N σ4 H5):=by
 refine comp_by xs.length Pv h0 (fun i σ2 H2 hi p=>?_) fun σ2 H2 p=>⟨⟨xs,hl _ _ _ p,Nat.le_refl _⟩,hd _ _ p⟩
 have e:=List.getElem?_eq_getElem hi
 refine ⟨⟨xs,_,hl _ _ _ p,e⟩,fun x H3 hy=>?_⟩
 obtain ⟨rfl,hx⟩:=hy
 exact hs i x σ2 H3 (hx xs (hl _ _ _ p)) p
theorem kinds4 (rw : Rw) : (∃ m prs,rw = .bring m prs)∨(∃ n ts,rw = .set n ts)∨(∃ n,rw = .take n)∨(¬ kindS rw = "bring" ∧ ¬ kindS rw = "set" ∧ ¬ kindS rw = "take" ∧ ownedR rw = []):=by
 cases rw with
 | bring m prs=>exact .inl ⟨m,prs,rfl⟩
 | set n ts=>exact .inr (.inl ⟨n,ts,rfl⟩)
 | take n=>exact .inr (.inr (.inl ⟨n,rfl⟩))
 | _=>exact .inr (.inr (.inr ⟨by simp only [kindS]; decide +kernel,by simp only [kindS]; decide +kernel,by simp only [kindS]; decide +kernel,rfl⟩))
def spOwned : Sp:=fun vs H Q _=>∃ (r : Addr) (rw : Rw),vs = [.ref r]∧RowAt H r rw∧∀ (l : Addr) (H' : Hp),Same H H'→H l = none→H' l = some (.lst ((ownedR rw).map V.str))→Q (.ref l) H'
theorem ok_owned (T : Txt K mg) : L2.Cl P w K mg base 1 "_law_owned" ["_law_row_here"] spOwned:=by
 refine Cl.of T.d_law_owned sc_law_owned (fun vs H Q E h=>?_) (fun _ _ _ _ _ _ us hl=>by obtain ⟨a,rfl⟩:=len1 hl; rfl) (fun f cdv A outer s H vs Q E hr h=>?_)
 ·obtain ⟨r,rw,rfl,_⟩:=h
  rfl
 ·obtain ⟨r,rw,rfl,hra,q⟩:=h
  refine ⟨_,(pss_cons (ps_if (pt_cmpR op_eq (pe_ix ix_tup (pv 0) pe_int (fun _ _=>rfl)) pe_str (nomark _))
    (pss_one (ps_ret (pe_comp (M:=["_law_given", "_law_own"]) (ρ:=[none,none]) (defScope s_law_owned) ["_law_row_here"] ⟨rfl,by decide +kernel,by decide +kernel,by decide +kernel,rfl,by decide +kernel,by decide +kernel⟩ (pi_tup (pe_ix ix_tup (pv 0) pe_int (fun _ _=>rfl))) (fun _ _ _ _ _ _=>(pg_tupK (K:=K) (n:=2) rfl rfl (pgs_cons (pg_name (i:=0) (show (["_law_given", "_law_own"] : List Str).Nodup by decide +kernel) rfl (Or.inl rfl)) (pgs_cons (pg_name (i:=1) (show (["_law_given", "_law_own"] : List Str).Nodup by decide +kernel) rfl (Or.inl rfl)) pgs_nil)))) (fun _ _ _ _ _ _=>pts_nil) (fun _ _ _ _ _ _=>(pv 1))))) pss_nil)
   (pss_cons (ps_if (PW.pt (pw_or (pt_cmpR op_eq (pe_ix ix_tup (pv 0) pe_int (fun _ _=>rfl)) pe_str (nomark _)) (pw_or1 (pt_cmpR op_eq (pe_ix ix_tup (pv 0) pe_int (fun _ _=>rfl)) pe_str (nomark _)))))
    (pss_one (ps_ret (pe_lst (pa_cons (pe_ix ix_tup (pv 0) pe_int (fun _ _=>rfl)) pa_nil)))) pss_nil)
   (pss_one (ps_ret (pe_lst pa_nil))))),?_⟩
  rcases kinds4 rw with ⟨m,prs,e⟩ | ⟨n,ts,e⟩ | ⟨n,e⟩ | ⟨h1,h2,h3,h4⟩
  ·subst e
   obtain ⟨t,hrt,⟨vs,ht,hps⟩,hp6⟩:=hra
   have hvl : vs.length = prs.length:=Paired.length hps
   refine ⟨_,rfl,r,_,_,_,rfl,rfl,SqT.of hrt,rfl,rfl,_,rfl,iteSE ?_⟩
   refine ⟨_,rfl,r,_,_,_,rfl,rfl,SqT.of hrt,rfl,t,rfl,⟨_,SqT.of ht⟩,fun D hD=>?_⟩
   refine comp_tup (K:=K) (a:=t) (xs:=vs) (fun i σ H2=>∃ (v0 v1 : Option V),σ = [v0,v1]∧Same H H2∧H2 D = some (.lst (((prs.take i).map (·.2)).map V.str))) ⟨_,_,rfl,(Same.refl H).new hD,by rw [List.take_zero]; exact upd_same⟩ (fun i σ2 H2 ⟨_,_,_,s2,_⟩=>SqT.of (s2 _ _ ht)) ?_ ?_
   ·rintro i x σ H2 hx ⟨v0,v1,rfl,s2,hD2⟩
    obtain ⟨d,hd,c,ex,hc,_⟩:=Paired.get? hps hx
    subst ex
    have hi:=(List.getElem?_eq_some_iff.mp hd).1
    refine ⟨c,_,rfl,SqT.of (s2 _ _ hc),rfl,_,_,rfl,_,_,rfl,rfl,?_⟩
    refine ⟨_,rfl,_,hD2,small1000 (by rw [List.length_map,List.length_map,List.length_take]; omega),_,_,rfl,s2.put hD,?_⟩
    rw [upd_same,take_succ_get hd,List.map_append,List.map_append]
    rfl
   ·rintro σ H2 ⟨v0,v1,rfl,s2,hD2⟩
    rw [hvl,List.take_length] at hD2
    exact q D H2 s2 hD hD2
  ·subst e
   obtain ⟨t,hrt,_⟩:=hra
   refine ⟨_,rfl,r,_,_,_,rfl,rfl,SqT.of hrt,rfl,rfl,_,rfl,iteSN (show ¬ ("set" : Str) = "bring" by decide +kernel) ?_⟩
   refine ⟨_,rfl,r,_,_,_,rfl,rfl,SqT.of hrt,rfl,rfl,_,rfl,iteSE ?_⟩
   refine iteT ?_
   exact ⟨_,rfl,r,_,_,_,rfl,rfl,SqT.of hrt,rfl,leS1,fun l gl=>q l _ ((Same.refl H).new gl) gl upd_same⟩
  ·subst e
   have hrt : H r = some (.tup [.str "take",.str n]):=hra
   refine ⟨_,rfl,r,_,_,_,rfl,rfl,SqT.of hrt,rfl,rfl,_,rfl,iteSN (show ¬ ("take" : Str) = "bring" by decide +kernel) ?_⟩
   refine ⟨_,rfl,r,_,_,_,rfl,rfl,SqT.of hrt,rfl,rfl,_,rfl,iteSN (show ¬ ("take" : Str) = "set" by decide +kernel) ?_⟩
   refine ⟨_,rfl,r,_,_,_,rfl,rfl,SqT.of hrt,rfl,rfl,_,rfl,iteSE ?_⟩
   exact ⟨_,rfl,r,_,_,_,rfl,rfl,SqT.of hrt,rfl,leS1,fun l gl=>q l _ ((Same.refl H).new gl) gl upd_same⟩
  ·obtain ⟨x1,rs,hrt⟩:=hra.kind
   have z0 : atI (V.str (kindS rw) :: x1 :: rs) 0 = some (.str (kindS rw)):=atI_nat (j:=0) rfl
   refine ⟨_,rfl,r,_,_,_,rfl,rfl,SqT.of hrt,z0,rfl,_,rfl,iteSN h1 ?_⟩
   refine ⟨_,rfl,r,_,_,_,rfl,rfl,SqT.of hrt,z0,rfl,_,rfl,iteSN h2 ?_⟩
   refine ⟨_,rfl,r,_,_,_,rfl,rfl,SqT.of hrt,z0,rfl,_,rfl,iteSN h3 ?_⟩
   exact ⟨leS0,fun l gl=>q l _ ((Same.refl H).new gl) gl (by rw [upd_same,h4]; rfl)⟩
theorem atI_end {α : Type} {xs : List α} {v : α} (h : xs[xs.length - 1]? = some v) : atI xs (-1) = some v:=by
 have hl : 0 < xs.length:=by
  cases xs with
  | nil=>simp at h
  | cons a b=>simp
 unfold atI ixN
 rw [if_neg (by decide),if_pos (by omega),show ((-1 : Int) + (xs.length : Int)).toNat = xs.length - 1 by omega]
 exact h
theorem row_if {t : TT} {te : TE} {R : TS} {D : Ends} {i j : Nat} {σ : L2.St} {H : Hp} {v : V} (S : V→L2.St) (C : V→Prop) (x0 : V) (e0 : σ.set i (some v) = S x0) (eS : ∀ x,(S x0).set j (some x) = S x) (bb : Bool) (ht : ∀ Q : Bool→Hp→Prop,Q bb H→t (S x0) H Q) (hA : bb = true→∀ Q : VK,(∀ x,C x→Q x H)→te (S x0) H Q) (h0 : bb = false→C x0) (hR : ∀ x,C x→R D (S x) H) : gName i v σ H fun σ2 H2=>tSeq (tIfS t (tAsg te (gName j)) tNext) R D σ2 H2:=by
 show tSeq (tIfS t (tAsg te (gName j)) tNext) R D (σ.set i (some v)) H
 rw [e0]
 refine ht _ ?_
 cases bb with
 | true =>
  refine iteT (hA rfl _ fun x hx=>?_)
  show R D ((S x0).set j (some x)) H
  rw [eS]
  exact hR x hx
 | false=>exact iteF (hR x0 (h0 rfl))
theorem atI_m1 (us : List V) (x : V) : atI (us ++ [x]) (-1) = some x:=by
 refine atI_end ?_
 rw [List.length_append,List.getElem?_append_right (by simp)]
 simp
theorem small1000' {n : Nat} (h : n ≤ 1000) : n ≤ sizeLine:=by
 exact Nat.le_of_lt (small1000 h)
def spFinished : Sp:=fun vs H Q _=>∃ (l : Addr) (A : List Q4) (hs : List Pp) (b0 b1 b : Int) (nr : Bool),vs = [.ref l,.int b,.bl nr]∧HouseAt H l A [] hs∧(0 ≤ b∧b < 2147483647)∧0 ≤ b0∧1 ≤ hs.length∧hs.length ≤ 24∧HInv b0 b1 hs∧∀ (a : Addr) (ps : List Pt) (H' : Hp),Same H H'→PartsF H' a ps→ps.length = hs.length→FinI b hs ps→Q (.ref a) H'
theorem ok_finished (T : Txt K mg) : L2.Cl P w K mg base 3 "_law_finished" ["_law_house", "_law_pool_here", "_law_near"] spFinished:=by
 have C_law_name:=ok_name (P:=P) (w:=w) (base:=base) T
 have C_law_row:=ok_row (P:=P) (w:=w) (base:=base) T
 have C_law_owned:=ok_owned (P:=P) (w:=w) (base:=base) T
 refine Cl.of T.d_law_finished sc_law_finished (fun vs H Q E h=>?_) (fun _ _ _ _ _ _ us hl=>by obtain ⟨a,b,c,rfl⟩:=len3 hl; rfl) (fun f cdv A' outer s H vs Q E hr h=>?_)
 ·obtain ⟨l,A,hs,b0,b1,b,nr,rfl,_⟩:=h
  rfl
 ·obtain ⟨l,A,hs,b0,b1,b,nr,rfl,hh,hb,hb0,hs1,hs2,hI,q⟩:=h
  refine ⟨_,(@pss_cons _ _ _ _ _ (@ps_setC _ _ _ _ _ _ _ (["_law_k", "_law_pool_here"]) ([none,some 1]) _ _ _ _ (3) _ _ _ (defScope s_law_finished) ["_law_house", "_law_pool_here", "_law_near", "_law_names", "_law_parts_here", "_law_name_here", "_law_part", "_law_rows", "_law_above", "_law_row_here"] ⟨rfl,by decide +kernel,by decide +kernel,by decide +kernel,rfl,by decide +kernel,by decide +kernel⟩ sc_law_finished.nd rfl (Or.inl rfl) (@pi_range1 _ _ _ _ _ _ (by rfl) T.n_range (@pa_cons _ _ _ _ _ (@pe_callB _ _ _ _ _ _ _ _ _ (@call_len_seq _) (by rfl) T.n_len PySem.boot_len (@pa_cons _ _ _ _ _ (@pv _ 0 _ _ (by rfl) (by first   | exact Or.inl rfl   | exact Or.inr (Or.inl rfl)   | exact Or.inr (Or.inr rfl)) (by decide) (by decide)) (@pa_nil _) (by rfl)) (by decide) (by decide) (by rfl) (by rfl)) (@pa_nil _) (by rfl)) (by rfl)) (fun _ _ _ _ _ _=>(@pg_name _ _ (0) _ (show (["_law_k", "_law_pool_here"] : List Str).Nodup by decide +kernel) rfl (Or.inl rfl) (by first   | exact .inl rfl   | exact .inr rfl   | assumption))) (fun _ _ _ _ _ _=>@pts_nil _) (fun _ _ _ _ _ _=>(@pe_fn _ _ _ _ _ _ _ _ _ _ _ C_law_name hr (by rfl) (@pa_cons _ _ _ _ _ (@pv _ 1 _ _ (by rfl) (by first   | exact Or.inl rfl   | exact Or.inr (Or.inl rfl)   | exact Or.inr (Or.inr rfl)) (by decide) (by decide)) (@pa_cons _ _ _ _ _ (@pv _ 0 _ _ (by rfl) (by first   | exact Or.inl rfl   | exact Or.inr (Or.inl rfl)   | exact Or.inr (Or.inr rfl)) (by decide) (by decide)) (@pa_nil _) (by rfl)) (by rfl)) (by decide) (by decide) (by rfl) (by rfl))) (by rfl) (by rfl) (by rfl) (by rfl) (by intro _; rfl) (by first   | exact .inl rfl   | exact .inr rfl   | assumption)) (@pss_cons _ _ _ _ _ (@ps_set _ _ (4) _ _ _ _ sc_law_finished.nd rfl (Or.inl rfl) (@pe_lst _ _ _ _ (@pa_nil _)) (by rfl) (by first   | exact .inl rfl   | exact .inr rfl   | assumption)) (@pss_cons _ _ _ _ _ (@ps_for _ _ _ _ _ _ _ _ PassesOwn.never rfl (@pi_zipL _ _ _ _ _ _ _ _ _ (by rfl) T.n_zip (@pa_cons _ _ _ _ _ (@pv _ 3 _ _ (by rfl) (by first   | exact Or.inl rfl   | exact Or.inr (Or.inl rfl)   | exact Or.inr (Or.inr rfl)) (by decide) (by decide)) (@pa_cons _ _ _ _ _ (@pv _ 0 _ _ (by rfl) (by first   | exact Or.inl rfl   | exact Or.inr (Or.inl rfl)   | exact Or.inr (Or.inr rfl)) (by decide) (by decide)) (@pa_nil _) (by rfl)) (by rfl)) (by rfl) (by intro _; rfl)) (@pg_tup _ _ _ _ _ _ rfl (@pgs_cons _ _ _ _ _ (@pg_name _ _ (5) _ sc_law_finished.nd rfl (Or.inl rfl) (by first   | exact .inl rfl   | exact .inr rfl   | assumption)) (@pgs_cons _ _ _ _ _ (@pg_name _ _ (6) _ sc_law_finished.nd rfl (Or.inl rfl) (by first   | exact .inl rfl   | exact .inr rfl   | assumption)) (@pgs_nil _) (by rfl)) (by rfl)) (by rfl) (by rfl)) (@pss_cons _ _ _ _ _ (@ps_set _ _ (7) _ _ _ _ sc_law_finished.nd rfl (Or.inl rfl) (@pe_lst _ _ _ _ (@pa_nil _)) (by rfl) (by first   | exact .inl rfl   | exact .inr rfl   | assumption)) (@pss_cons _ _ _ _ _ (@ps_set _ _ (8) _ _ _ _ sc_law_finished.nd rfl (Or.inl rfl) (@pe_lst _ _ _ _ (@pa_nil _)) (by rfl) (by first   | exact .inl rfl   | exact .inr rfl   | assumption)) (@pss_cons _ _ _ _ _ (@ps_for _ _ _ _ _ _ _ _ PassesOwn.never rfl (@pi_list _ _ _ _ (@pe_ix _ _ _ _ _ _ _ ix_list (@pv _ 6 _ _ (by rfl) (by first   | exact Or.inl rfl   | exact Or.inr (Or.inl rfl)   | exact Or.inr (Or.inr rfl)) (by decide) (by decide)) (@pe_int _ _ _ _) (fun _ _=>rfl))) (@pg_name _ _ (9) _ sc_law_finished.nd rfl (Or.inl rfl) (by first   | exact .inl rfl   | exact .inr rfl   | assumption)) (@pss_cons _ _ _ _ _ (@ps_if _ _ _ _ _ _ _ _ (@pt_not _ _ _ _ (@pt_val _ _ _ (@pv _ 2 _ _ (by rfl) (by first   | exact Or.inl rfl   | exact Or.inr (Or.inl rfl)   | exact Or.inr (Or.inr rfl)) (by decide) (by decide)) (by intro _; rfl))) (@pss_one _ _ _ (@ps_set _ _ (8) _ _ _ _ sc_law_finished.nd rfl (Or.inl rfl) (@pe_ix _ _ _ _ _ _ _ ix_list (@pv _ 6 _ _ (by rfl) (by first   | exact Or.inl rfl   | exact Or.inr (Or.inl rfl)   | exact Or.inr (Or.inr rfl)) (by decide) (by decide)) (@pe_int _ _ _ _) (fun _ _=>rfl)) (by rfl) (by first   | exact .inl rfl   | exact .inr rfl   | assumption))) (@pss_nil _)) (@pss_cons _ _ _ _ _ (@ps_expr _ _ _ _ (@pe_bm _ _ _ _ _ _ _ _ _ _ _ _ PySem.F.plainAttrs_list PySem.F.slot_list_append PySem.F.type_list_append (@mt_append _) (@pv _ 7 _ _ (by rfl) (by first   | exact Or.inl rfl   | exact Or.inr (Or.inl rfl)   | exact Or.inr (Or.inr rfl)) (by decide) (by decide)) (@pa_cons _ _ _ _ _ (@pe_fn _ _ _ _ _ _ _ _ _ _ _ C_law_row hr (by rfl) (@pa_cons _ _ _ _ _ (@pv _ 9 _ _ (by rfl) (by first   | exact Or.inl rfl   | exact Or.inr (Or.inl rfl)   | exact Or.inr (Or.inr rfl)) (by decide) (by decide)) (@pa_cons _ _ _ _ _ (@pv _ 8 _ _ (by rfl) (by first   | exact Or.inl rfl   | exact Or.inr (Or.inl rfl)   | exact Or.inr (Or.inr rfl)) (by decide) (by decide)) (@pa_cons _ _ _ _ _ (@pv _ 3 _ _ (by rfl) (by first   | exact Or.inl rfl   | exact Or.inr (Or.inl rfl)   | exact Or.inr (Or.inr rfl)) (by decide) (by decide)) (@pa_nil _) (by rfl)) (by rfl)) (by rfl)) (by decide) (by decide) (by rfl) (by rfl)) (@pa_nil _) (by rfl)) (by rfl) (by rfl) (by rfl) (by rfl) (by rfl)) (by rfl)) (@pss_one _ _ _ (@ps_if _ _ _ _ _ _ _ _ (@pt_val _ _ _ (@pv _ 2 _ _ (by rfl) (by first   | exact Or.inl rfl   | exact Or.inr (Or.inl rfl)   | exact Or.inr (Or.inr rfl)) (by decide) (by decide)) (by intro _; rfl)) (@pss_one _ _ _ (@ps_set _ _ (8) _ _ _ _ sc_law_finished.nd rfl (Or.inl rfl) (@pe_op _ _ _ _ _ _ _ _ (@op_cat _) (@pv _ 8 _ _ (by rfl) (by first   | exact Or.inl rfl   | exact Or.inr (Or.inl rfl)   | exact Or.inr (Or.inr rfl)) (by decide) (by decide)) (@pe_fn _ _ _ _ _ _ _ _ _ _ _ C_law_owned hr (by rfl) (@pa_cons _ _ _ _ _ (@pe_ix _ _ _ _ _ _ _ ix_list (@pv _ 7 _ _ (by rfl) (by first   | exact Or.inl rfl   | exact Or.inr (Or.inl rfl)   | exact Or.inr (Or.inr rfl)) (by decide) (by decide)) (@pe_un _ _ _ _ _ _ un_neg (@pe_int _ _ _ _)) (fun _ _=>rfl)) (@pa_nil _) (by rfl)) (by decide) (by decide) (by rfl) (by rfl))) (by rfl) (by first   | exact .inl rfl   | exact .inr rfl   | assumption))) (@pss_nil _))))) (by intro _; rfl)) (@pss_one _ _ _ (@ps_expr _ _ _ _ (@pe_bm _ _ _ _ _ _ _ _ _ _ _ _ PySem.F.plainAttrs_list PySem.F.slot_list_append PySem.F.type_list_append (@mt_append _) (@pv _ 4 _ _ (by rfl) (by first   | exact Or.inl rfl   | exact Or.inr (Or.inl rfl)   | exact Or.inr (Or.inr rfl)) (by decide) (by decide)) (@pa_cons _ _ _ _ _ (@pe_tup _ _ _ _ _ (@pa_cons _ _ _ _ _ (@pv _ 5 _ _ (by rfl) (by first   | exact Or.inl rfl   | exact Or.inr (Or.inl rfl)   | exact Or.inr (Or.inr rfl)) (by decide) (by decide)) (@pa_cons _ _ _ _ _ (@pe_callTy _ _ _ _ _ _ _ _ _ (@call_tuple_of _) (by rfl) T.n_tuple boot_tuple (@pa_cons _ _ _ _ _ (@pv _ 7 _ _ (by rfl) (by first   | exact Or.inl rfl   | exact Or.inr (Or.inl rfl)   | exact Or.inr (Or.inr rfl)) (by decide) (by decide)) (@pa_nil _) (by rfl)) (by decide) (by decide) (by rfl) (by rfl)) (@pa_nil _) (by rfl)) (by rfl))) (@pa_nil _) (by rfl)) (by rfl) (by rfl) (by rfl) (by rfl) (by rfl)) (by rfl)))))) (by intro _; rfl)) (@pss_one _ _ _ (@ps_ret _ _ _ _ (@pe_callTy _ _ _ _ _ _ _ _ _ (@call_tuple_ofF _) (by rfl) T.n_tuple boot_tuple (@pa_cons _ _ _ _ _ (@pv _ 4 _ _ (by rfl) (by first   | exact Or.inl rfl   | exact Or.inr (Or.inl rfl)   | exact Or.inr (Or.inr rfl)) (by decide) (by decide)) (@pa_nil _) (by rfl)) (by decide) (by decide) (by rfl) (by rfl))))))),?_⟩
  have hAn : (A.map fun q=>V.ref q.p).length = hs.length:=by rw [List.length_map,hh.len]
  refine ⟨_,rfl,l,_,rfl,.inl (SqL.of hh.ll),_,rfl,(by omega),(by omega),fun D hD=>?_⟩
  refine comp_by (A.map fun q=>V.ref q.p).length (fun i σ H2=>∃ v0 : Option V,σ = [v0,some (.int b)]∧Same H H2∧H2 D = some (.lst ((nmsOf b i).map V.str))) ⟨_,rfl,(Same.refl H).new hD,upd_same⟩ ?_ ?_
  ·rintro i σ H2 hi ⟨v0,rfl,s2,hD2⟩
   refine ⟨hi,?_⟩
   rintro x H3 ⟨rfl,rfl⟩
   refine ntG ?_
   refine ⟨_,rfl,_,rfl,b,_,rfl,hb.1,hb.2,by omega,by omega,fun H4 s4=>?_⟩
   refine ⟨_,s4 _ _ hD2,small1000 (by rw [List.length_map,nmsOf_len]; omega),_,rfl,(s2.trans s4).put hD,?_⟩
   rw [upd_same,nmsOf_succ,List.map_append,Int.zero_add]
   rfl
  ·rintro σ H2 ⟨v0,rfl,s2,hD2⟩
   refine ⟨Nat.le_refl _,?_⟩
   rw [hAn] at hD2
   refine ⟨leS0,fun d hd=>?_⟩
   have s3 : Same H (upd H2 d (.lst [])):=s2.new hd
   have hD3 : upd H2 d (.lst []) D = some (.lst ((nmsOf b hs.length).map V.str)):=upd_keep hD2 hd
   have hdH : H d = none:=s2.free hd
   have hDd : D ≠ d:=fun z=>by rw [z,hd] at hD2; cases hD2
   have hll : ∀ {H' : Hp},Same H H'→H' l = some (.lst (A.map fun q=>V.ref q.p)):=fun s=>s _ _ hh.ll
   refine ⟨_,rfl,_,rfl,D,l,rfl,⟨_,SqL.of hD3⟩,⟨_,SqL.of (hll s3)⟩,for_zipL (K:=K) (a:=D) (b:=l) (xs:=(nmsOf b hs.length).map V.str) (ys:=A.map fun q=>V.ref q.p) (fun i σ H5=>∃ (ps : List Pt) (vs : List V) (v5 v6 v7 v8 v9 : Option V),σ = [some (.ref l),some (.int b),some (.bl nr),some (.ref D),some (.ref d),v5,v6,v7,v8,v9]∧Same H H5∧H5 D = some (.lst ((nmsOf b hs.length).map V.str))∧H5 d = some (.lst vs)∧Paired (PartAt H5) vs ps∧ps.length = i∧FinI b hs ps)
    (by rw [hAn,List.length_map,nmsOf_len]) ⟨[],[],none,none,none,none,none,rfl,s3,hD3,upd_same,.nil,rfl,fun i pp pt _ e=>by simp at e⟩ (fun i σ H5 _ ⟨_,_,_,_,_,_,_,_,s5,hD5,_⟩=>⟨SqL.of hD5,SqL.of (hll s5)⟩) ?_ ?_⟩
   ·rintro i x y p σ H5 hx hy ⟨ps,vs,v5,v6,v7,v8,v9,rfl,s5,hD5,hd5,hps,hlen,hfin⟩ hp
    have hi : i < hs.length:=by
     have:=(List.getElem?_eq_some_iff.mp hy).1
     omega
    obtain ⟨pp,ei⟩ : ∃ pp,hs[i]? = some pp:=⟨hs[i],by simp [hi]⟩
    obtain ⟨qi,eqi⟩ : ∃ q,A[i]? = some q:=⟨A[i]'(by rw [hh.len]; exact hi),by simp [hh.len,hi]⟩
    have ex : x = .str (nameM b (i : Int)):=by
     rw [List.getElem?_map,nmsOf_get b _ hi] at hx
     exact (Option.some.inj hx).symm
    have ey : y = .ref qi.p:=by
     rw [List.getElem?_map,eqi] at hy
     exact (Option.some.inj hy).symm
    subst ex ey
    have OK:=hI i pp ei
    obtain ⟨n,hn,hn23⟩:=OK.n
    have hon : ∀ y ∈ pp.owns,NameOk y:=by rw [hn]; exact drawnN_ok hb0
    have s6 : Same H5 (upd H5 p (.tup [.str (nameM b (i : Int)),.ref qi.p])):=(Same.refl H5).new hp
    refine ⟨p,_,rfl,SqT.of upd_same,rfl,_,_,rfl,_,_,rfl,rfl,?_⟩
    generalize upd H5 p (.tup [.str (nameM b (i : Int)),.ref qi.p]) = H6 at s6 ⊢
    have s06:=s5.trans s6
    have h6:=hh.same s06
    have P6:=h6.pt i qi pp eqi ei
    obtain ⟨rv,hrv,hrp⟩:=P6.r
    have hrl : rv.length = pp.rows.length:=Paired.length hrp
    have h40:=OK.r
    refine ⟨leS0,fun D2 hD2=>?_⟩
    refine ⟨leS0,fun a0 ha0=>?_⟩
    have hne0 : a0 ≠ D2:=fun z=>by rw [z,upd_same] at ha0; cases ha0
    have s60 : Same H6 (upd (upd H6 D2 (.lst [])) a0 (.lst [])):=((Same.refl H6).new hD2).new ha0
    refine ⟨_,rfl,qi.p,_,_,_,rfl,rfl,SqL.of (s60 _ _ P6.p),rfl,qi.r,rfl,⟨_,SqL.of (s60 _ _ hrv)⟩,for_list (K:=K) (a:=qi.r) (xs:=rv) (fun j σ H7=>∃ (ab : Addr) (as : List Str) (v9 : Option V) (us : List V) (rws : List Rw),σ = [some (.ref l),some (.int b),some (.bl nr),some (.ref D),some (.ref d),some (.str (nameM b (i : Int))),some (.ref qi.p),some (.ref D2),some (.ref ab),v9]∧Same H6 H7∧H7 D2 = some (.lst us)∧RowsAt H7 us rws∧rws.length = j∧Paired (FinR (nmsOf b hs.length) pp.owns) (pp.rows.take j) rws∧H7 ab = some (.lst (as.map V.str))∧(∀ y ∈ as,y ∈ pp.owns)∧as.length ≤ 23 + 6 * j∧ab ≠ D2)
     ⟨a0,[],_,[],[],rfl,s60,by rw [upd_ne (Ne.symm hne0),upd_same],.nil,rfl,by rw [List.take_zero]; exact .nil,upd_same,fun y hy=>by simp at hy,by simp,hne0⟩ (fun j σ H7 _ ⟨_,_,_,_,_,_,s7,_⟩=>SqL.of (s7 _ _ hrv)) ?_ ?_⟩
    ·rintro j v σ H7 hv' ⟨ab,as,v9,us,rws,rfl,s7,hD7,hrs,hrwl,hfr,hab,has,hal,hne⟩
     obtain ⟨pr,hpr,hprat⟩:=Paired.get? hrp hv'
     have hj : j < pp.rows.length:=(List.getElem?_eq_some_iff.mp hpr).1
     have h7:=h6.same s7
     have P7:=h7.pt i qi pp eqi ei
     refine row_if (S:=fun x=>[some (.ref l),some (.int b),some (.bl nr),some (.ref D),some (.ref d),some (.str (nameM b (i : Int))),some (.ref qi.p),some (.ref D2),some x,some v]) (C:=fun x=>∃ (ab' : Addr) (as' : List Str),x = .ref ab'∧H7 ab' = some (.lst (as'.map V.str))∧(∀ y ∈ as',y ∈ pp.owns)∧as'.length ≤ 23 + 6 * j∧ab' ≠ D2) (.ref ab) rfl (fun x=>rfl) (!nr) (fun Q' h=>⟨_,rfl,nr,rfl,h⟩) (fun hb Q' h=>?_) (fun hb=>⟨ab,as,rfl,hab,has,hal,hne⟩) ?_
     ·refine ⟨_,rfl,qi.p,_,_,_,rfl,rfl,SqL.of P7.p,rfl,h _ ⟨qi.o,pp.owns,rfl,P7.o,fun y hy=>hy,?_,fun z=>?_⟩⟩
      ·rw [hn]
       unfold drawnN
       rw [List.length_map,List.length_range]
       omega
      ·have:=P6.o
       rw [z,hD2] at this
       cases this
     ·rintro x ⟨ab',as',rfl,hab',has',hal',hne'⟩
      refine ⟨_,rfl,.inl ⟨rfl,_,SqL.of hD7⟩,_,rfl,_,rfl,_,rfl,?_⟩
      refine ⟨v,D,inH l A [],ab',as',pr,i,hs,nmsOf b hs.length,rfl,hprat.keep s7.tups (fun a as ha hva=>⟨s7 _ _ hva,ha⟩),hab',OK.ok pr (List.mem_of_getElem? hpr),(fun y hy=>hon y (has' y hy)),s7 _ _ (s6 _ _ hD5),nmsOf_len _ _,fun r rw H9 s8 hrow hfin8=>?_⟩
      have hul : us.length = rws.length:=Paired.length hrs
      have hD9:=s8 _ _ hD7
      refine ⟨D2,_,_,rfl,rfl,hD9,small1000 (by omega),?_⟩
      have T8 : Tups H7 (upd H9 D2 (.lst (us ++ [.ref r]))):=s8.tups.trans (Tups.lst hD9)
      have T9 : Tups H9 (upd H9 D2 (.lst (us ++ [.ref r]))):=Tups.lst hD9
      have hrs9 : RowsAt (upd H9 D2 (.lst (us ++ [.ref r]))) (us ++ [.ref r]) (rws ++ [rw]):=Paired.snoc (hrs.mono T8) ⟨r,rfl,hrow.mono T9⟩
      have hfr9 : Paired (FinR (nmsOf b hs.length) pp.owns) (pp.rows.take (j + 1)) (rws ++ [rw]):=by
       rw [take_succ_get hpr]
       exact Paired.snoc hfr (hfin8.mono has')
      have s79 : Same H6 (upd H9 D2 (.lst (us ++ [.ref r]))):=(s7.trans s8).put hD2
      have hab9 : upd H9 D2 (.lst (us ++ [.ref r])) ab' = some (.lst (as'.map V.str)):=by rw [upd_ne hne']; exact s8 _ _ hab'
      have hl9 : (rws ++ [rw]).length = j + 1:=by rw [List.length_append,hrwl]; rfl
      cases nr with
      | false=>exact ⟨_,rfl,_,rfl,iteF ⟨ab',as',_,_,_,rfl,s79,upd_same,hrs9,hl9,hfr9,hab9,has',by omega,hne'⟩⟩
      | true =>
       refine ⟨_,rfl,_,rfl,iteT ?_⟩
       have em : atI (us ++ [V.ref r]) (-1) = some (.ref r):=atI_m1 us _
       refine ⟨_,rfl,_,rfl,_,rfl,D2,_,_,_,rfl,rfl,SqL.of upd_same,em,?_⟩
       refine ⟨r,rw,rfl,hrow.mono T9,fun lo H10 s10 hlo hlo10=>?_⟩
       have hmp:=hfin8.owned
       have hml : (madeP pr).length ≤ 6:=by
        have:=OK.ok pr (List.mem_of_getElem? hpr)
        cases pr with
        | own k n xs=>simp [madeP]
        | bring jj prs xs=>simp only [madeP,List.length_map]; exact this.2.2.1
        | _=>simp [madeP]
       refine ⟨ab',lo,_,_,rfl,rfl,s10 _ _ hab9,hlo10,small1000' (by rw [List.length_map,List.length_map,hmp]; omega),fun pn hpn=>?_⟩
       have s11 : Same (upd H9 D2 (.lst (us ++ [.ref r]))) (upd H10 pn (.lst (as'.map V.str ++ (ownedR rw).map V.str))):=s10.new hpn
       refine ⟨pn,as' ++ ownedR rw,_,us ++ [.ref r],rws ++ [rw],rfl,s79.trans s11,s11 _ _ upd_same,hrs9.mono s11.tups,hl9,hfr9,by rw [upd_same,List.map_append],fun y hy=>?_,by rw [List.length_append,hmp]; omega,fun z=>?_⟩
       ·rcases List.mem_append.mp hy with z | z
        ·exact has' y z
        ·rw [hmp] at z
         exact OK.md.mem_iff.mp (List.mem_flatMap.mpr ⟨pr,List.mem_of_getElem? hpr,z⟩)
       ·have:=s10 _ _ (upd_same (H:=H9) (a:=D2) (o:=.lst (us ++ [.ref r])))
        rw [← z,hpn] at this
        cases this
    ·rintro σ H7 ⟨ab,as,v9,us,rws,rfl,s7,hD7,hrs,hrwl,hfr,_⟩
     rw [hrl,List.take_length] at hfr
     refine ⟨_,rfl,.inl ⟨rfl,_,SqL.of (s7 _ _ (s6 _ _ hd5))⟩,_,rfl,_,rfl,?_⟩
     refine ⟨D2,_,rfl,.inl ⟨SqL.of hD7,fun u hu=>?_⟩⟩
     have s8 : Same H7 (upd H7 u (.tup us)):=(Same.refl H7).new hu
     refine ⟨leS2,fun tp htp=>?_⟩
     have s9:=s8.new (o:=.tup [.str (nameM b (i : Int)),.ref u]) htp
     have s59 : Same H5 (upd (upd H7 u (.tup us)) tp (.tup [.str (nameM b (i : Int)),.ref u])):=(s6.trans s7).trans s9
     refine ⟨d,_,_,rfl,rfl,s59 _ _ hd5,small1000 (by rw [Paired.length hps,hlen]; omega),?_⟩
     have hd9:=s59 _ _ hd5
     have T9:=Tups.lst (ys:=vs ++ [.ref tp]) hd9
     have hne : ∀ {c : Addr} {ws : List V},(upd (upd H7 u (.tup us)) tp (.tup [.str (nameM b (i : Int)),.ref u])) c = some (.tup ws)→c ≠ d:=fun {c ws} e z=>by rw [z,hd9] at e; cases e
     refine ⟨ps ++ [(nameM b (i : Int),rws)],vs ++ [.ref tp],_,_,_,_,_,rfl,(s5.trans s59).put hdH,?_,upd_same,Paired.snoc (Paired.mapP hps fun _ _ z=>z.mono (s59.tups.trans T9)) ⟨tp,u,us,rfl,T9 _ _ upd_same,T9 _ _ (upd_keep upd_same htp),(hrs.mono (s9.tups.trans T9))⟩,by rw [List.length_append,hlen]; rfl,?_⟩
     ·rw [upd_ne hDd]
      exact s59 _ _ hD5
     ·intro i' pp' pt' e1 e2
      by_cases hlt : i' < ps.length
      ·rw [List.getElem?_append_left hlt] at e2
       exact hfin i' pp' pt' e1 e2
      ·rw [List.getElem?_append_right (by omega)] at e2
       have h0 : i' - ps.length = 0:=by
        have:=(List.getElem?_eq_some_iff.mp e2).1
        simp only [List.length_singleton] at this
        omega
       rw [h0] at e2
       simp only [List.getElem?_cons_zero,Option.some.injEq] at e2
       have hii : i' = i:=by omega
       subst hii
       rw [ei] at e1
       cases e1
       rw [← e2]
       exact ⟨rfl,hfr⟩
   ·rintro σ H5 ⟨ps,vs,v5,v6,v7,v8,v9,rfl,s5,hD5,hd5,hps,hlen,hfin⟩
    rw [List.length_map,nmsOf_len] at hlen
    refine ⟨_,rfl,d,_,rfl,SqL.of hd5,fun a o ha ho=>?_⟩
    have s6 : Same H5 (upd H5 a (.frz o (.tup vs))):=(Same.refl H5).new ha
    exact q a ps _ (s5.trans s6) ⟨o,vs,upd_same,ho,Paired.mapP hps fun _ _ z=>z.mono s6.tups⟩ hlen hfin
theorem house_free {H : Hp} {l x : Addr} {A : List Q4} {hs : List Pp} (h : HouseAt H l A [] hs) (hx : H x = none) : ¬ inH l A [] x:=by
 rintro (z | z | ⟨i,q,y,e,hy,z⟩)
 ·rw [z,h.ll] at hx; cases hx
 ·simp at z
 ·obtain ⟨xs,hxs⟩:=h.there e hy
  rw [z,hx] at hxs; cases hxs
theorem keep_same {H H1 H2 : Hp} {l : Addr} {A : List Q4} (n : New H l A) (s : Same H H1) (k : KeepH l A H1 H2) : Same H H2:=fun a o e=>by
 refine k a o ?_ (s _ _ e)
 rintro (z | z | ⟨i,q,y,e1,hy,z⟩)
 ·rw [z,n.1] at e; cases e
 ·simp at z
 ·rw [← z,n.2 i q y e1 hy] at e; cases e
theorem bare_inv {b0 b1 : Int} {hs : List Pp} (h : Bare hs) : HInv b0 b1 hs:=fun i pp e=>by
 obtain ⟨h1,h2,h3,_⟩:=h pp (List.mem_of_getElem? e)
 refine ⟨⟨0,by rw [h2]; rfl,by omega⟩,⟨0,by rw [h3]; rfl,by omega⟩,by rw [h1]; simp,by rw [h1,h2]; exact List.Perm.refl _,by rw [h1,h3]; exact List.Perm.refl _,fun pr hpr=>by rw [h1] at hpr; simp at hpr⟩
structure DrawnP (hs : List Pp) (b0 b1 b2 : Int) (ps : List Pt) : Prop where
 r0 : 0 ≤ b0∧b0 < 2147483647
 r1 : 0 ≤ b1∧b1 < 2147483647
 r2 : 0 ≤ b2∧b2 < 2147483647
 lo : 1 ≤ hs.length
 hi : hs.length ≤ 24
 inv : HInv b0 b1 hs
 len : ps.length = hs.length
 fin : FinI b2 hs ps
 rk : RInv hs
def spLawParts (K : PySem.W.Frag) : Sp:=fun vs H Q _=>∃ (a : Addr) (ns : List Int),vs = [.ref a]∧SqL K H a (ns.map V.int)∧ns.length ≤ 1000∧∀ (x : Addr) (hs : List Pp) (b0 b1 b2 : Int) (ps : List Pt) (H' : Hp),Same H H'→PartsF H' x ps→DrawnP hs b0 b1 b2 ps→Q (.ref x) H'
theorem ok_parts (T : Txt K mg) : L2.Cl P w K mg base 5 "_law_parts" ["_law_script"] (spLawParts K):=by
 have C_law_cell_at:=ok_cell (P:=P) (w:=w) (base:=base) T
 have C_law_stream:=ok_stream (P:=P) (w:=w) (base:=base) T
 have C_law_begun:=ok_begun (P:=P) (w:=w) (base:=base) T
 have C_law_pools:=ok_pools (P:=P) (w:=w) (base:=base) T
 have C_law_added:=ok_added (P:=P) (w:=w) (base:=base) T
 have C_law_finished:=ok_finished (P:=P) (w:=w) (base:=base) T
 refine Cl.of T.d_law_parts sc_law_parts (fun vs H Q E h=>?_) (fun _ _ _ _ _ _ us hl=>by obtain ⟨a,rfl⟩:=len1 hl; rfl) (fun f cdv A' outer s H vs Q E hr h=>?_)
 ·obtain ⟨a,ns,rfl,_⟩:=h
  rfl
 ·obtain ⟨a,ns,rfl,hS,hnl,q⟩:=h
  refine ⟨_,(pss_cons (ps_set (i:=1) sc_law_parts.nd rfl (Or.inl rfl) (pe_fn C_law_begun hr (by rfl) (pa_cons (pv 0) pa_nil)))
   (pss_cons (ps_set (i:=2) sc_law_parts.nd rfl (Or.inl rfl) (pe_fn C_law_pools hr (by rfl) (pa_cons (pv 0) pa_nil)))
   (pss_cons (ps_for PassesOwn.never rfl (pi_range2 (by rfl) T.n_range (pa_cons pe_int (pa_cons (pe_callB (call_min2 rfl) (by rfl) T.n_min boot_min (pa_cons (pe_callB (call_max2 rfl) (by rfl) T.n_max boot_max (pa_cons (pe_callB call_len_seq (by rfl) T.n_len PySem.boot_len (pa_cons (pv 0) pa_nil)) (pa_cons pe_int pa_nil))) (pa_cons pe_int pa_nil))) pa_nil))) (pg_name (i:=3) sc_law_parts.nd rfl (Or.inl rfl))
    (pss_one (ps_expr (pe_fn C_law_added hr (by rfl) (pa_cons (pv 1) (pa_cons (pv 2) (pa_cons (pe_fn C_law_stream hr (by rfl) (pa_cons (pe_fn C_law_cell_at hr (by rfl) (pa_cons (pv 0) (pa_cons (pv 3) pa_nil))) (pa_cons (pv 3) pa_nil))) pa_nil)))))))
   (pss_one (ps_ret (pe_fn C_law_finished hr (by rfl) (pa_cons (pv 1) (pa_cons (pe_ix ix_list (pv 2) pe_int (fun _ _=>rfl)) (pa_cons (pe_cmpR op_gt (pe_op op_mod (pe_op op_fdiv (pe_fn C_law_cell_at hr (by rfl) (pa_cons (pv 0) (pa_cons pe_int pa_nil))) pe_int) pe_int) pe_int (nomark _)) pa_nil))))))))),?_⟩
  refine ⟨_,rfl,a,ns,rfl,hS,fun l A hs H1 s1 hh hnew hs1 hs2 hbare=>?_⟩
  refine ⟨_,rfl,a,ns,rfl,s1.seq hS,fun pl b0 b1 b2 H2 s2 hpl0 hpl r0 r1 r2=>?_⟩
  have hP : PoolsAt H2 pl l A b0 b1 b2:=⟨hpl,house_free hh hpl0,r0,r1,r2⟩
  have s12:=s1.trans s2
  have hJ : ∀ M : Int,(if (83 : Int) < M then (83 : Int) else M) ≤ 83:=fun M=>by split <;> omega
  have hJ0 : (13 : Int) ≤ (if (83 : Int) < (if (13 : Int) > ((ns.map V.int).length : Int) then 13 else ((ns.map V.int).length : Int)) then (83 : Int) else (if (13 : Int) > ((ns.map V.int).length : Int) then 13 else ((ns.map V.int).length : Int))):=by split <;> split <;> omega
  refine ⟨_,rfl,a,_,rfl,.inl (s12.seq hS),_,_,rfl,_,_,rfl,?_⟩
  have hJ1:=hJ (if (13 : Int) > ((ns.map V.int).length : Int) then 13 else ((ns.map V.int).length : Int))
  generalize (if (83 : Int) < (if (13 : Int) > ((ns.map V.int).length : Int) then 13 else ((ns.map V.int).length : Int)) then (83 : Int) else (if (13 : Int) > ((ns.map V.int).length : Int) then 13 else ((ns.map V.int).length : Int))) = J at hJ0 hJ1 ⊢
  refine ⟨_,_,rfl,⟨by omega,by omega,by omega,by omega⟩,for_range (fun i σ H3=>∃ (hs' : List Pp) (v3 : Option V),σ = [some (.ref a),some (.ref l),some (.ref pl),v3]∧HouseAt H3 l A [] hs'∧hs'.length = hs.length∧HInv b0 b1 hs'∧RInv hs'∧KeepH l A H2 H3)
   ⟨hs,none,rfl,hh.same s2,rfl,bare_inv hbare,⟨fun _ _=>0,0,fun _ _=>Nat.le_refl _,fun i pp e j ps xs hm=>by rw [(hbare pp (List.mem_of_getElem? e)).1] at hm; simp at hm⟩,KeepH.refl l A H2⟩ ?_ ?_⟩
  ·rintro i σ H3 hi ⟨hs',v3,rfl,h3,hl3,hI3,hR3,k3⟩
   have S3:=keep_same hnew s12 k3
   refine ⟨_,rfl,_,rfl,_,rfl,_,rfl,a,ns,_,rfl,S3.seq hS,(by omega),fun c=>?_⟩
   refine ⟨_,rfl,c,_,rfl,(by omega),(by omega),fun x xs H4 s4 hx0 hx hx6 hxb=>?_⟩
   refine ⟨l,pl,x,A,hs',b0,b1,b2,xs,rfl,h3.same s4,hP.keep (k3.same s4),⟨hx,house_free h3 hx0⟩,⟨hx6,hxb⟩,by omega,by omega,hI3,hR3,fun hs5 H5 h5 hl5 hI5 hR5 k5=>?_⟩
   exact ⟨hs5,_,rfl,h5,by omega,hI5,hR5,(k3.same s4).trans k5⟩
  ·rintro σ H3 ⟨hs',v3,rfl,h3,hl3,hI3,hR3,k3⟩
   have S3:=keep_same hnew s12 k3
   refine ⟨_,rfl,_,rfl,pl,_,_,_,rfl,rfl,SqL.of (hP.keep k3).h,rfl,?_⟩
   refine ⟨_,rfl,a,ns,_,rfl,S3.seq hS,(by decide),fun c=>?_⟩
   refine ⟨_,_,rfl,rfl,⟨by decide,by decide⟩,_,_,rfl,rfl,(by show (0 : Int) < 3; decide),_,_,rfl,rfl,?_⟩
   refine ⟨l,A,hs',b0,b1,b2,_,rfl,h3,r2,r0.1,by omega,by omega,hI3,fun x ps H4 s4 hp hpl hf=>?_⟩
   exact q x hs' b0 b1 b2 ps H4 (S3.trans s4) hp ⟨r0,r1,r2,by omega,by omega,hI3,hpl,hf,hR3⟩
def spLaw (K : PySem.W.Frag) : Sp:=fun vs H Q _=>∃ (a : Addr) (ns : List Int),vs = [.ref a]∧SqL K H a (ns.map V.int)∧ns.length ≤ 63∧∀ H',Q (.bl true) H'
theorem DrawnP.at {hs : List Pp} {b0 b1 b2 : Int} {ps : List Pt} (d : DrawnP hs b0 b1 b2 ps) {i : Nat} {pt : Pt} (e : ps[i]? = some pt) : ∃ pp,hs[i]? = some pp∧PpOk b0 b1 hs i pp∧pt.1 = nameM b2 (i : Int)∧Paired (FinR (nmsOf b2 hs.length) pp.owns) pp.rows pt.2:=by
 have hi : i < hs.length:=by rw [← d.len]; exact (List.getElem?_eq_some_iff.mp e).1
 have e2 : hs[i]? = some hs[i]:=by simp [hi]
 exact ⟨hs[i],e2,d.inv i _ e2,d.fin i _ _ e2 e⟩
theorem DrawnP.names {hs : List Pp} {b0 b1 b2 : Int} {ps : List Pt} (d : DrawnP hs b0 b1 b2 ps) : ps.map (·.1) = nmsOf b2 hs.length:=by
 apply List.ext_getElem?
 intro i
 rw [List.getElem?_map]
 cases e : ps[i]? with
 | none =>
  have h:=List.getElem?_eq_none_iff.mp e
  exact (List.getElem?_eq_none_iff.mpr (by rw [nmsOf_len,← d.len]; exact h)).symm
 | some pt =>
  obtain ⟨pp,_,_,h,_⟩:=d.at e
  have hi : i < hs.length:=by rw [← d.len]; exact (List.getElem?_eq_some_iff.mp e).1
  rw [nmsOf_get b2 _ hi]
  exact congrArg some h
theorem nmsOf_nodup {b : Int} (hb : 0 ≤ b) {n : Nat} (hn : n ≤ 24) : (nmsOf b n).Nodup:=by
 unfold nmsOf
 rw [List.nodup_iff_pairwise_ne,List.pairwise_map]
 refine List.Pairwise.imp_of_mem (fun {i j} hi hj hne h=>hne ?_) List.nodup_range
 have h1:=List.mem_range.mp hi
 have h2:=List.mem_range.mp hj
 have:=nameM_inj hb (by omega) (by omega) (by omega) (by omega) h
 omega
theorem DrawnP.nodup {hs : List Pp} {b0 b1 b2 : Int} {ps : List Pt} (d : DrawnP hs b0 b1 b2 ps) : (ps.map (·.1)).Nodup:=by
 rw [d.names]
 exact nmsOf_nodup d.r2.1 d.hi
theorem DrawnP.rows {hs : List Pp} {b0 b1 b2 : Int} {ps : List Pt} (d : DrawnP hs b0 b1 b2 ps) {i : Nat} {pt : Pt} (e : ps[i]? = some pt) : pt.2.length ≤ 40:=by
 obtain ⟨pp,_,h1,_,h2⟩:=d.at e
 rw [← Paired.length h2]
 exact h1.r
theorem nodup_lenG {α : Type} [DecidableEq α] : ∀ (l N : List α),l.Nodup→(∀ x ∈ l,x ∈ N)→l.length ≤ N.length
 | [],N,_,_=>Nat.zero_le _
 | a :: r,N,hn,hs=>by
  rw [List.nodup_cons] at hn
  have ha : a ∈ N:=hs a List.mem_cons_self
  have h1:=nodup_lenG r (N.erase a) hn.2 fun x hx=>(List.mem_erase_of_ne (fun z=>hn.1 (by rw [← z]; exact hx))).mpr (hs x (List.mem_cons_of_mem _ hx))
  rw [List.length_erase_of_mem ha] at h1
  have : 0 < N.length:=List.length_pos_of_mem ha
  simp only [List.length_cons]; omega
theorem setD_val (l : List Str) (x : Str) : valV (setD l) (Sum.inr x) = if x ∈ l then some (.bl true) else none:=by
 induction l with
 | nil=>rfl
 | cons a r ih =>
  have e : setD (a :: r) = (Sum.inr a,.bl true) :: setD r:=rfl
  rw [e]
  by_cases h : a = x
  ·subst h
   rw [valV_pos rfl,if_pos List.mem_cons_self]
  ·rw [valV_neg (fun z=>h (Sum.inr.inj z)),ih]
   by_cases hm : x ∈ r
   ·rw [if_pos hm,if_pos (List.mem_cons_of_mem _ hm)]
   ·rw [if_neg hm,if_neg (fun z=>by rcases List.mem_cons.mp z with y | y; exact h y.symm; exact hm y)]
theorem setD_some (l : List Str) (x : Str) : (valV (setD l) (Sum.inr x)).isSome = decide (x ∈ l):=by
 rw [setD_val]
 by_cases h : x ∈ l
 ·rw [if_pos h,decide_eq_true h]; rfl
 ·rw [if_neg h,decide_eq_false h]; rfl
theorem addN_mem (l : List Str) (x y : Str) : y ∈ addN l x↔y ∈ l∨y = x:=by
 unfold addN
 by_cases h : x ∈ l
 ·rw [if_pos h]
  exact ⟨.inl,fun z=>by rcases z with z | z; exact z; rw [z]; exact h⟩
 ·rw [if_neg h,List.mem_append,List.mem_singleton]
structure PsFit (ps : List Pt) : Prop where
 nd : (ps.map (·.1)).Nodup
 hi : ps.length ≤ 24
 rows : ∀ pt ∈ ps,pt.2.length ≤ 40
theorem DrawnP.fit {hs : List Pp} {b0 b1 b2 : Int} {ps : List Pt} (d : DrawnP hs b0 b1 b2 ps) : PsFit ps:=⟨d.nodup,by rw [d.len]; exact d.hi,fun pt hpt=>by
 obtain ⟨i,hi⟩:=List.getElem?_of_mem hpt
 exact d.rows hi⟩
theorem g_while {c : TT} {tb R : TS} {D : Ends} {N : L2.St→Hp→Prop} {i : Nat} {v : V} {σ : L2.St} {H : Hp} (e : N = tSeq (tWhile c tb) R D) (h : tWhile c tb { D with nx:=R D } (σ.set i (some v)) H) : gName i v σ H N:=by
 show N (σ.set i (some v)) H
 rw [e]
 exact h
theorem nx_set_while {c : TT} {tb R : TS} {D : Ends} {N : L2.St→Hp→Prop} {i : Nat} {v : V} {σ : L2.St} {H : Hp} (e : N = tSeq (tAsg (tC v) (gName i)) (tSeq (tWhile c tb) R) D) (h : tWhile c tb { D with nx:=R D } (σ.set i (some v)) H) : N σ H:=by
 rw [e]
 exact h
abbrev Pl:=Str × Nat × Rw
def rowsPl (n : Str) (rs : List Rw) : List Pl:=rs.zipIdx.map fun x=>(n,x.2,x.1)
theorem rowsPl_snoc (n : Str) (rs : List Rw) (rw : Rw) : rowsPl n (rs ++ [rw]) = rowsPl n rs ++ [(n,rs.length,rw)]:=by
 unfold rowsPl
 rw [List.zipIdx_append,List.map_append]
 simp
theorem rowsPl_len (n : Str) (rs : List Rw) : (rowsPl n rs).length = rs.length:=by unfold rowsPl; simp
def plsOf (ps : List Pt) : List Pl:=ps.flatMap fun pt=>rowsPl pt.1 pt.2
theorem plsOf_snoc (ps : List Pt) (pt : Pt) : plsOf (ps ++ [pt]) = plsOf ps ++ rowsPl pt.1 pt.2:=by
 unfold plsOf
 rw [List.flatMap_append]
 simp
theorem plsOf_len : ∀ {ps : List Pt},(∀ pt ∈ ps,pt.2.length ≤ 40)→(plsOf ps).length ≤ 40 * ps.length
 | [],_=>by simp [plsOf]
 | pt :: r,h=>by
  have h1:=plsOf_len (ps:=r) fun p hp=>h p (List.mem_cons_of_mem _ hp)
  have h2:=h pt List.mem_cons_self
  have e : plsOf (pt :: r) = rowsPl pt.1 pt.2 ++ plsOf r:=rfl
  rw [e,List.length_append,rowsPl_len,List.length_cons]
  omega
def PlAt (H : Hp) (v : V) (x : Pl) : Prop:=∃ t r,v = .ref t∧H t = some (.tup [.str x.1,.int (x.2.1 : Int),.ref r])∧RowAt H r x.2.2
theorem PlAt.mono {H H' : Hp} (s : Tups H H') {v : V} {x : Pl} (h : PlAt H v x) : PlAt H' v x:=by
 obtain ⟨t,r,e,h1,h2⟩:=h
 exact ⟨t,r,e,s _ _ h1,h2.mono s⟩
def spPlaced : Sp:=fun vs H Q _=>∃ (a : Addr) (ps : List Pt),vs = [.ref a]∧PartsF H a ps∧PsFit ps∧∀ (p : Addr) (vs : List V) (H' : Hp),Same H H'→H' p = some (.tup vs)→Paired (PlAt H') vs (plsOf ps)→Q (.ref p) H'
theorem ok_placed (T : Txt K mg) : L2.Cl P w K mg base 1 "placed_rows" ["parts"] spPlaced:=by
 refine Cl.of T.d_placed_rows sc_placed_rows (fun vs H Q E h=>?_) (fun _ _ _ _ _ _ us hl=>by obtain ⟨a,rfl⟩:=len1 hl; rfl) (fun fa cdv A outer s H vs Q E hr h=>?_)
 ·obtain ⟨a,ps,rfl,_⟩:=h
  rfl
 ·obtain ⟨a,ps,rfl,hpf,hfit,q⟩:=h
  obtain ⟨o,vs,ha,ho,hps⟩:=id hpf
  have sqa : ∀ {H2 : Hp},Same H H2→SqT K H2 a vs:=fun s2=>.inl (.inr ⟨o,s2 _ _ ha⟩)
  have hvl : vs.length = ps.length:=Paired.length hps
  have hhi:=hfit.hi
  refine ⟨_,(pss_cons (ps_set (i:=1) sc_placed_rows.nd rfl (Or.inl rfl) (pe_lst pa_nil))
   (pss_cons (ps_for PassesOwn.never rfl (pi_tup (pv 0)) (pg_tup rfl (pgs_cons (pg_name (i:=2) sc_placed_rows.nd rfl (Or.inl rfl)) (pgs_cons (pg_name (i:=3) sc_placed_rows.nd rfl (Or.inl rfl)) pgs_nil)))
    (pss_one (ps_for PassesOwn.never rfl (pi_enumT (by rfl) T.n_enumerate (pa_cons (pv 3) pa_nil)) (pg_tup rfl (pgs_cons (pg_name (i:=4) sc_placed_rows.nd rfl (Or.inl rfl)) (pgs_cons (pg_name (i:=5) sc_placed_rows.nd rfl (Or.inl rfl)) pgs_nil)))
     (pss_one (ps_expr (pe_bm PySem.F.plainAttrs_list PySem.F.slot_list_append PySem.F.type_list_append mt_append (pv 1) (pa_cons (pe_tup (pa_cons (pv 2) (pa_cons (pv 4) (pa_cons (pv 5) pa_nil)))) pa_nil)))))))
   (pss_one (ps_ret (pe_callTy call_tuple_of (by rfl) T.n_tuple boot_tuple (pa_cons (pv 1) pa_nil)))))),?_⟩
  refine ⟨leS0,fun l gl=>?_⟩
  have s1 : Same H (upd H l (.lst [])):=(Same.refl H).new gl
  refine ⟨_,rfl,a,rfl,⟨_,sqa s1⟩,for_tup (K:=K) (a:=a) (xs:=vs) (fun i σ H2=>∃ (us : List V) (v2 v3 v4 v5 : Option V),σ = [some (.ref a),some (.ref l),v2,v3,v4,v5]∧Same H H2∧H2 l = some (.lst us)∧Paired (PlAt H2) us (plsOf (ps.take i)))
   ⟨[],none,none,none,none,rfl,s1,upd_same,by rw [List.take_zero]; exact .nil⟩ (fun i σ H2 _ ⟨_,_,_,_,_,_,s2,_⟩=>sqa s2) ?_ ?_⟩
  ·rintro i y σ H2 hy ⟨us,v2,v3,v4,v5,rfl,s2,hl2,hus⟩
   obtain ⟨pt,hpt,t,u,ws,ey,ht,hu',hrs⟩:=Paired.get? hps hy
   subst ey
   have hi : i < vs.length:=(List.getElem?_eq_some_iff.mp hy).1
   have hr40:=hfit.rows _ (List.mem_of_getElem? hpt)
   have hpl : (plsOf (ps.take i)).length ≤ 40 * 23:=by
    have h1:=plsOf_len (ps:=ps.take i) fun p hp=>hfit.rows p (List.mem_of_mem_take hp)
    rw [List.length_take] at h1
    omega
   have hwl : ws.length = pt.2.length:=Paired.length hrs
   refine ⟨t,_,rfl,SqT.of (s2 _ _ ht),rfl,_,_,rfl,_,_,rfl,rfl,?_⟩
   refine ⟨_,rfl,u,rfl,⟨_,SqT.of (s2 _ _ hu')⟩,for_enum (K:=K) (a:=u) (xs:=ws) (fun j σ H3=>∃ (us : List V) (v4 v5 : Option V),σ = [some (.ref a),some (.ref l),some (.str pt.1),some (.ref u),v4,v5]∧Same H H3∧H3 l = some (.lst us)∧Paired (PlAt H3) us (plsOf (ps.take i) ++ rowsPl pt.1 (pt.2.take j)))
    ⟨us,_,_,rfl,s2,hl2,by rw [List.take_zero]; show Paired _ us (plsOf (ps.take i) ++ []); rw [List.append_nil]; exact hus⟩ (fun j σ H3 _ ⟨_,_,_,_,s3,_⟩=>SqT.of (s3 _ _ hu')) ?_ ?_⟩
   ·rintro j y p σ H3 hy3 ⟨us3,w4,w5,rfl,s3,hl3,hus3⟩ hp
    obtain ⟨rw,hrw,r,er,hra⟩:=Paired.get? hrs hy3
    subst er
    have hj : j < pt.2.length:=(List.getElem?_eq_some_iff.mp hrw).1
    have hul : us3.length = (plsOf (ps.take i)).length + j:=by
     rw [Paired.length hus3,List.length_append,rowsPl_len,List.length_take]; omega
    have s4 : Same H3 (upd H3 p (.tup [.int (j : Int),.ref r])):=(Same.refl H3).new hp
    refine ⟨p,_,rfl,SqT.of upd_same,rfl,_,_,rfl,_,_,rfl,rfl,?_⟩
    refine ⟨_,rfl,.inl ⟨rfl,_,SqL.of (s4 _ _ hl3)⟩,_,rfl,_,rfl,_,rfl,leS3,fun c gc=>?_⟩
    have s5:=s4.new (o:=.tup [.str pt.1,.int (j : Int),.ref r]) gc
    refine ⟨l,_,_,rfl,rfl,s5 _ _ hl3,small1000 (by omega),?_⟩
    have T5:=s5.tups.trans (Tups.lst (ys:=us3 ++ [.ref c]) (s5 _ _ hl3))
    have hne : c ≠ l:=fun z=>by rw [z] at gc; rw [s4 _ _ hl3] at gc; cases gc
    refine ⟨us3 ++ [.ref c],_,_,rfl,(s3.trans s5).put gl,upd_same,?_⟩
    rw [take_succ_get hrw,rowsPl_snoc,← List.append_assoc]
    refine Paired.snoc (Paired.mapP hus3 fun _ _ z=>z.mono T5) ⟨c,r,rfl,?_,((hra.mono s3.tups).mono T5)⟩
    rw [upd_ne hne,upd_same]
    have : (pt.2.take j).length = j:=by rw [List.length_take]; omega
    simp only [this]
   ·rintro σ H3 ⟨us3,w4,w5,rfl,s3,hl3,hus3⟩
    rw [hwl,List.take_length] at hus3
    refine ⟨us3,_,_,_,_,rfl,s3,hl3,?_⟩
    rw [take_succ_get hpt,plsOf_snoc]
    exact hus3
  ·rintro σ H2 ⟨us,v2,v3,v4,v5,rfl,s2,hl2,hus⟩
   rw [hvl,List.take_length] at hus
   refine ⟨_,rfl,l,_,rfl,.inl ⟨SqL.of hl2,fun p gp=>?_⟩⟩
   have s3 : Same H2 (upd H2 p (.tup us)):=(Same.refl H2).new gp
   exact q p us _ (s2.trans s3) upd_same (Paired.mapP hus fun _ _ z=>z.mono s3.tups)
def ownOf : Rw→Option Str
 | .set o _=>some o
 | .take o=>some o
 | _=>none
def mkeys (pls : List Pl) : List (Str × Str):=pls.filterMap fun x=>(ownOf x.2.2).map fun o=>(x.1,o)
def key2 (k : Str × Str) : List Key:=[Sum.inr k.1,Sum.inr k.2]
theorem key2_inj {a b : Str × Str} (h : key2 a = key2 b) : a = b:=by
 unfold key2 at h
 simp only [List.cons.injEq,Sum.inr.injEq,and_true] at h
 exact Prod.ext h.1 h.2
theorem Tups.dT {H : Hp} {l : Addr} {kvs kvs' : List (List Key × V)} (h : H l = some (.dT kvs)) : Tups H (upd H l (.dT kvs')):=fun b zs q=>by
 rw [upd_ne (ne_of q h (by intro z; cases z))]
 exact q
theorem putK_new {κ : Type} [DecidableEq κ] {kvs : List (κ × V)} {k : κ} {v : V} (h : k ∉ kvs.map (·.1)) : putK kvs k v = kvs ++ [(k,v)]:=by
 unfold putK
 rw [if_neg]
 intro z
 obtain ⟨p,hp,e⟩:=List.any_eq_true.mp z
 exact h (by rw [← of_decide_eq_true e]; exact List.mem_map_of_mem (f:=(·.1)) hp)
theorem row_own {H : Hp} {r : Addr} {rw : Rw} (h : RowAt H r rw) : (∃ o rest,(kindS rw = "set" ∨ kindS rw = "take")∧ownOf rw = some o∧H r = some (.tup (.str (kindS rw) :: .str o :: rest)))∨(¬ (kindS rw = "set" ∨ kindS rw = "take")∧ownOf rw = none):=by
 cases rw with
 | set o ts=>obtain ⟨t,h1,h2⟩:=h; exact .inl ⟨o,_,.inl rfl,rfl,h1⟩
 | take o=>exact .inl ⟨o,_,.inr rfl,rfl,h⟩
 | _=>exact .inr ⟨by simp only [kindS]; decide +kernel,rfl⟩
theorem inV2 (k a b : Str) : inV (.str k) [.str a,.str b] = decide (k = a∨k = b):=by
 have:=inV_strs k [a,b]
 simpa using this
def spMade0 : Sp:=fun vs H Q _=>∃ (a : Addr) (ps : List Pt),vs = [.ref a]∧PartsF H a ps∧PsFit ps∧(mkeys (plsOf ps)).Nodup∧∀ (d : Addr) (kvs : List (List Key × V)) (H' : Hp),Same H H'→H' d = some (.dT kvs)→kvs.map (·.1) = (mkeys (plsOf ps)).map key2→Q (.ref d) H'
theorem ok_made0 (T : Txt K mg) : L2.Cl P w K mg base 2 "made" ["parts"] spMade0:=by
 have C_placed_rows:=ok_placed (P:=P) (w:=w) (base:=base) T
 refine Cl.of T.d_made sc_made (fun vs H Q E h=>?_) (fun _ _ _ _ _ _ us hl=>by obtain ⟨a,rfl⟩:=len1 hl; rfl) (fun fa cdv A outer s H vs Q E hr h=>?_)
 ·obtain ⟨a,ps,rfl,_⟩:=h
  rfl
 ·obtain ⟨a,ps,rfl,hpf,hfit,hnd,q⟩:=h
  have hu:=hu_of hr
  refine ⟨_,(pss_cons (ps_set (i:=1) sc_made.nd rfl (Or.inl rfl) pe_dnewT)
   (pss_cons (ps_for PassesOwn.never rfl (pi_tup (pe_fn C_placed_rows hr (by rfl) (pa_cons (pv 0) pa_nil))) (pg_tup rfl (pgs_cons (pg_name (i:=2) sc_made.nd rfl (Or.inl rfl)) (pgs_cons (pg_name (i:=3) sc_made.nd rfl (Or.inl rfl)) (pgs_cons (pg_name (i:=4) sc_made.nd rfl (Or.inl rfl)) pgs_nil))))
    (pss_one (ps_if (pt_cmpR op_in_seq (pe_ix ix_tup (pv 4) pe_int (fun _ _=>rfl)) (pe_tup (pa_cons pe_str (pa_cons pe_str pa_nil))) (by with_unfolding_all rfl))
     (pss_one (ps_dput hu (pv 1) (pe_tup (pa_cons (pv 2) (pa_cons (pe_ix ix_tup (pv 4) pe_int (fun _ _=>rfl)) pa_nil))) (pe_tup (pa_cons (pv 2) (pa_cons (pv 3) pa_nil))) rfl)) pss_nil)))
   (pss_one (ps_ret (pv 1))))),?_⟩
  intro d gd
  have s1 : Same H (upd H d (.dT [])):=(Same.refl H).new gd
  refine ⟨_,rfl,a,ps,rfl,s1.partsF hpf,hfit,fun p vs H1 s2 hp hvs=>?_⟩
  have s12:=s1.trans s2
  have hd1 : H1 d = some (.dT []):=s2 _ _ upd_same
  have hvl : vs.length = (plsOf ps).length:=Paired.length hvs
  have hpl : (plsOf ps).length ≤ 960:=by
   have h1:=plsOf_len hfit.rows
   have:=hfit.hi
   omega
  refine ⟨p,rfl,⟨_,SqT.of hp⟩,for_tup (K:=K) (a:=p) (xs:=vs) (fun i σ H2=>∃ (kvs : List (List Key × V)) (v2 v3 v4 : Option V),σ = [some (.ref a),some (.ref d),v2,v3,v4]∧Same H H2∧H2 p = some (.tup vs)∧Tups H1 H2∧H2 d = some (.dT kvs)∧kvs.map (·.1) = (mkeys ((plsOf ps).take i)).map key2)
   ⟨[],none,none,none,rfl,s12,hp,Tups.refl H1,hd1,by rw [List.take_zero]; rfl⟩ (fun i σ H2 _ ⟨_,_,_,_,_,_,h,_⟩=>SqT.of h) ?_ ?_⟩
  ·rintro i y σ H2 hy ⟨kvs,v2,v3,v4,rfl,s3,hp2,T2,hd2,hk⟩
   obtain ⟨⟨n,j,rw⟩,hx,t,r,ey,ht,hra⟩:=Paired.get? hvs hy
   subst ey
   have hra2:=hra.mono T2
   have htk : mkeys ((plsOf ps).take (i + 1)) = mkeys ((plsOf ps).take i) ++ mkeys [(n,j,rw)]:=by
    rw [take_succ_get hx]
    unfold mkeys
    rw [List.filterMap_append]
   have hkl : kvs.length ≤ 960:=by
    have h1:=congrArg List.length hk
    rw [List.length_map,List.length_map] at h1
    have h2 : (mkeys ((plsOf ps).take i)).length ≤ ((plsOf ps).take i).length:=List.length_filterMap_le _ _
    rw [List.length_take] at h2
    omega
   refine ⟨t,_,rfl,SqT.of (T2 _ _ ht),rfl,_,_,rfl,_,_,rfl,_,_,rfl,rfl,?_⟩
   rcases row_own hra2 with ⟨o,rest,hkd,ho,hrt⟩ | ⟨hkd,ho⟩
   ·have z0 : atI (V.str (kindS rw) :: V.str o :: rest) 0 = some (.str (kindS rw)):=atI_nat (j:=0) rfl
    have z1 : atI (V.str (kindS rw) :: V.str o :: rest) 1 = some (.str o):=atI_nat (j:=1) rfl
    refine ⟨_,rfl,r,_,_,_,rfl,rfl,SqT.of hrt,z0,leS2,fun c gc=>?_⟩
    have s4 : Same H2 (upd H2 c (.tup [.str "set",.str "take"])):=(Same.refl H2).new gc
    refine ⟨c,_,rfl,.inr (SqT.of upd_same),rfl,rfl,_,rfl,?_⟩
    rw [if_neg (by decide),inV2,decide_eq_true hkd]
    refine iteT ?_
    refine ⟨_,rfl,_,rfl,leS2,fun e ge=>?_⟩
    have s5:=s4.new (o:=.tup [.str n,.int (j : Int)]) ge
    refine ⟨_,rfl,_,rfl,_,rfl,r,_,_,_,rfl,rfl,SqT.of (s5 _ _ hrt),z1,leS2,fun g gg=>?_⟩
    have s6:=s5.new (o:=.tup [.str n,.str o]) gg
    have hd6:=s6 _ _ hd2
    have hg6 : upd (upd (upd H2 c (.tup [.str "set",.str "take"])) e (.tup [.str n,.int (j : Int)])) g (.tup [.str n,.str o]) g = some (.tup ((key2 (n,o)).map kV)):=upd_same
    refine ⟨d,_,rfl,DPut.t (k:=key2 (n,o)) hd6 hg6 (small1000 (by omega)),?_⟩
    have hnew : key2 (n,o) ∉ kvs.map (·.1):=by
     rw [hk]
     intro z
     obtain ⟨k',hk',e'⟩:=List.mem_map.mp z
     have : k' = (n,o):=key2_inj e'
     subst this
     have h1 : (mkeys ((plsOf ps).take (i + 1))).Nodup:=by
      have h2 : mkeys (plsOf ps) = mkeys ((plsOf ps).take (i + 1)) ++ mkeys ((plsOf ps).drop (i + 1)):=by
       unfold mkeys
       rw [← List.filterMap_append,List.take_append_drop]
      rw [h2] at hnd
      exact (List.nodup_append.mp hnd).1
     rw [htk] at h1
     have h3 : mkeys [(n,j,rw)] = [(n,o)]:=by simp [mkeys,ho]
     rw [h3] at h1
     exact (List.nodup_append.mp h1).2.2 _ hk' _ (List.mem_singleton.mpr rfl) rfl
    rw [putK_new hnew]
    have T6:=s6.tups.trans (Tups.dT (kvs':=kvs ++ [(key2 (n,o),.ref e)]) hd6)
    refine ⟨kvs ++ [(key2 (n,o),.ref e)],_,_,_,rfl,(s3.trans s6).put gd,T6 _ _ hp2,T2.trans T6,upd_same,?_⟩
    have h3 : mkeys [(n,j,rw)] = [(n,o)]:=by simp [mkeys,ho]
    rw [htk,h3,List.map_append,List.map_append,hk]
    rfl
   ·obtain ⟨x1,rest,hrt⟩:=hra2.kind
    have z0 : atI (V.str (kindS rw) :: x1 :: rest) 0 = some (.str (kindS rw)):=atI_nat (j:=0) rfl
    refine ⟨_,rfl,r,_,_,_,rfl,rfl,SqT.of hrt,z0,leS2,fun c gc=>?_⟩
    have s4 : Same H2 (upd H2 c (.tup [.str "set",.str "take"])):=(Same.refl H2).new gc
    refine ⟨c,_,rfl,.inr (SqT.of upd_same),rfl,rfl,_,rfl,?_⟩
    rw [if_neg (by decide),inV2,decide_eq_false hkd]
    refine iteF ?_
    have h3 : mkeys [(n,j,rw)] = []:=by simp [mkeys,ho]
    exact ⟨kvs,_,_,_,rfl,s3.trans s4,s4 _ _ hp2,T2.trans s4.tups,s4 _ _ hd2,by rw [htk,h3,List.append_nil]; exact hk⟩
  ·rintro σ H2 ⟨kvs,v2,v3,v4,rfl,s3,hp2,T2,hd2,hk⟩
   rw [hvl,List.take_length] at hk
   exact ⟨_,rfl,q d kvs H2 s3 hd2 hk⟩
abbrev Kk:=Str × Str
def mlsOf (pls : List Pl) : List (Kk × (Str × Nat)):=pls.filterMap fun x=>(ownOf x.2.2).map fun o=>((x.1,o),(x.1,x.2.1))
def giveOf : Rw→Option (Str × Str)
 | .give o g=>some (o,g)
 | _=>none
def glsOf (pls : List Pl) : List (Kk × Str):=pls.filterMap fun x=>(giveOf x.2.2).map fun q=>((x.1,q.2),q.1)
def pairsOf : Rw→List (Str × (Str × Str))
 | .bring m ps=>ps.map fun q=>(m,q)
 | _=>[]
def blsOf (pls : List Pl) : List (Kk × Kk):=pls.flatMap fun x=>(pairsOf x.2.2).map fun q=>((x.1,q.2.2),(q.1,q.2.1))
def gget (gls : List (Kk × Str)) (k : Kk) : Str:=((gls.find? fun y=>decide (y.1 = k)).map (·.2)).getD ""
theorem gget_eq : ∀ {gls : List (Kk × Str)} {k : Kk} {o : Str},(gls.map (·.1)).Nodup→(k,o) ∈ gls→gget gls k = o
 | [],k,o,_,h=>by simp at h
 | y :: r,k,o,hn,h=>by
  rw [List.map_cons,List.nodup_cons] at hn
  rcases List.mem_cons.mp h with e | e
  ·unfold gget
   rw [List.find?_cons_of_pos (by rw [← e]; simp),← e]; rfl
  ·have hne : ¬ y.1 = k:=fun z=>hn.1 (by rw [z]; exact List.mem_map_of_mem (f:=(·.1)) e)
   have:=gget_eq hn.2 e
   unfold gget at this ⊢
   rw [List.find?_cons_of_neg (by simpa using hne)]
   exact this
def llsOf (pls : List Pl) : List (Kk × Kk):=(blsOf pls).map fun x=>(x.1,(x.2.1,gget (glsOf pls) x.2))
inductive Mk (mls : List (Kk × (Str × Nat))) (ls : List (Kk × Kk)) : Kk→Str × Nat→Prop where
 | base {k : Kk} {p : Str × Nat} : (k,p) ∈ mls→Mk mls ls k p
 | step {k k' : Kk} {p : Str × Nat} : (k,k') ∈ ls→Mk mls ls k' p→Mk mls ls k p
structure NetOk (pls : List Pl) : Prop where
 keys : ((mlsOf pls).map (·.1) ++ (blsOf pls).map (·.1)).Nodup
 gk : ((glsOf pls).map (·.1)).Nodup
 gv : ∀ x ∈ blsOf pls,∃ o,(x.2,o) ∈ glsOf pls
 ow : ∀ y ∈ glsOf pls,(y.1.1,y.2) ∈ (mlsOf pls).map (·.1) ++ (blsOf pls).map (·.1)
 rk : ∃ r : Kk→Nat,∀ x ∈ llsOf pls,r x.2 < r x.1
 len : pls.length ≤ 960
 brs : ∀ x ∈ pls,(pairsOf x.2.2).length ≤ 6
theorem lls_keys (pls : List Pl) : (llsOf pls).map (·.1) = (blsOf pls).map (·.1):=by
 unfold llsOf
 rw [List.map_map]
 rfl
theorem NetOk.tgt {pls : List Pl} (n : NetOk pls) {x : Kk × Kk} (hx : x ∈ llsOf pls) : x.2 ∈ (mlsOf pls).map (·.1)∨x.2 ∈ (llsOf pls).map (·.1):=by
 obtain ⟨y,hy,e⟩:=List.mem_map.mp hx
 obtain ⟨o,ho⟩:=n.gv y hy
 have h1:=gget_eq n.gk ho
 have h2:=n.ow _ ho
 rw [← e]
 show (y.2.1,gget (glsOf pls) y.2) ∈ _∨_
 rw [h1,lls_keys]
 exact List.mem_append.mp h2
theorem NetOk.mkNodup {pls : List Pl} (n : NetOk pls) : ((mlsOf pls).map (·.1)).Nodup:=(List.nodup_append.mp n.keys).1
theorem NetOk.lkNodup {pls : List Pl} (n : NetOk pls) : ((llsOf pls).map (·.1)).Nodup:=by rw [lls_keys]; exact (List.nodup_append.mp n.keys).2.1
theorem NetOk.apart {pls : List Pl} (n : NetOk pls) {k : Kk} (h1 : k ∈ (mlsOf pls).map (·.1)) (h2 : k ∈ (llsOf pls).map (·.1)) : False:=(List.nodup_append.mp n.keys).2.2 k h1 k (by rw [← lls_keys]; exact h2) rfl
theorem fst_uniq {α β : Type} : ∀ {l : List (α × β)} {k : α} {a b : β},(l.map (·.1)).Nodup→(k,a) ∈ l→(k,b) ∈ l→a = b
 | [],_,_,_,_,h,_=>by simp at h
 | y :: r,k,a,b,hn,h1,h2=>by
  rw [List.map_cons,List.nodup_cons] at hn
  rcases List.mem_cons.mp h1 with e1 | e1 <;> rcases List.mem_cons.mp h2 with e2 | e2
  ·rw [← e1] at e2; exact (Prod.mk.inj e2).2.symm
  ·exact absurd (by rw [← e1]; exact List.mem_map_of_mem (f:=(·.1)) e2) hn.1
  ·exact absurd (by rw [← e2]; exact List.mem_map_of_mem (f:=(·.1)) e1) hn.1
  ·exact fst_uniq hn.2 e1 e2
theorem NetOk.uniq {pls : List Pl} (n : NetOk pls) {k : Kk} {p q : Str × Nat} (h1 : Mk (mlsOf pls) (llsOf pls) k p) (h2 : Mk (mlsOf pls) (llsOf pls) k q) : p = q:=by
 induction h1 with
 | base h =>
  cases h2 with
  | base h'=>exact fst_uniq n.mkNodup h h'
  | step h' _=>exact (n.apart (List.mem_map_of_mem (f:=(·.1)) h) (List.mem_map_of_mem (f:=(·.1)) h')).elim
 | step h _ ih =>
  cases h2 with
  | base h'=>exact (n.apart (List.mem_map_of_mem (f:=(·.1)) h') (List.mem_map_of_mem (f:=(·.1)) h)).elim
  | step h' hm =>
   have:=fst_uniq n.lkNodup h h'
   subst this
   exact ih hm
def MvAt (H : Hp) (kv : List Key × V) (x : Kk × (Str × Nat)) : Prop:=kv.1 = key2 x.1∧∃ t,kv.2 = .ref t∧H t = some (.tup [.str x.2.1,.int (x.2.2 : Int)])
def LvAt (H : Hp) (kv : List Key × V) (x : Kk × Kk) : Prop:=kv.1 = key2 x.1∧∃ t,kv.2 = .ref t∧H t = some (.tup [.str x.2.1,.str x.2.2])
def GvAt (kv : List Key × V) (x : Kk × Str) : Prop:=kv.1 = key2 x.1∧kv.2 = .str x.2
theorem MvAt.mono {H H' : Hp} (s : Tups H H') {kv : List Key × V} {x : Kk × (Str × Nat)} (h : MvAt H kv x) : MvAt H' kv x:=by
 obtain ⟨e,t,e2,h⟩:=h
 exact ⟨e,t,e2,s _ _ h⟩
theorem LvAt.mono {H H' : Hp} (s : Tups H H') {kv : List Key × V} {x : Kk × Kk} (h : LvAt H kv x) : LvAt H' kv x:=by
 obtain ⟨e,t,e2,h⟩:=h
 exact ⟨e,t,e2,s _ _ h⟩
theorem keys_of {β : Type} {F : List Key × V→Kk × β→Prop} (hF : ∀ kv x,F kv x→kv.1 = key2 x.1) : ∀ {kvs : List (List Key × V)} {xs : List (Kk × β)},Paired F kvs xs→kvs.map (·.1) = (xs.map (·.1)).map key2
 | _,_,.nil=>rfl
 | _,_,.cons h t=>by rw [List.map_cons,List.map_cons,List.map_cons,keys_of hF t,hF _ _ h]
theorem val_of {β : Type} {F : List Key × V→Kk × β→Prop} (hF : ∀ kv x,F kv x→kv.1 = key2 x.1) : ∀ {kvs : List (List Key × V)} {xs : List (Kk × β)} {x : Kk × β},Paired F kvs xs→(xs.map (·.1)).Nodup→x ∈ xs→∃ kv,F kv x∧valV kvs (key2 x.1) = some kv.2
 | _,_,x,.nil,_,h=>by simp at h
 | _,_,x,.cons (a:=kv) (b:=y) hy t,hn,h=>by
  rw [List.map_cons,List.nodup_cons] at hn
  rcases List.mem_cons.mp h with e | e
  ·subst e
   exact ⟨kv,hy,valV_pos (hF _ _ hy)⟩
  ·obtain ⟨kv',h1,h2⟩:=val_of hF t hn.2 e
   refine ⟨kv',h1,?_⟩
   rw [valV_neg (fun z=>hn.1 ?_)]
   ·exact h2
   ·have : key2 y.1 = key2 x.1:=(hF _ _ hy).symm.trans z
    rw [key2_inj this]
    exact List.mem_map_of_mem (f:=(·.1)) e
theorem val_none {β : Type} {F : List Key × V→Kk × β→Prop} (hF : ∀ kv x,F kv x→kv.1 = key2 x.1) : ∀ {kvs : List (List Key × V)} {xs : List (Kk × β)} {k : Kk},Paired F kvs xs→k ∉ xs.map (·.1)→valV kvs (key2 k) = none
 | _,_,k,.nil,_=>rfl
 | _,_,k,.cons (a:=kv) (b:=y) hy t,h=>by
  rw [List.map_cons,List.mem_cons,not_or] at h
  rw [valV_neg (fun z=>h.1 (key2_inj ((hF _ _ hy).symm.trans z)).symm)]
  exact val_none hF t h.2
theorem new_key {β : Type} {F : List Key × V→Kk × β→Prop} (hF : ∀ kv x,F kv x→kv.1 = key2 x.1) {kvs : List (List Key × V)} {xs : List (Kk × β)} {k : Kk} (h : Paired F kvs xs) (hk : k ∉ xs.map (·.1)) : key2 k ∉ kvs.map (·.1):=by
 rw [keys_of hF h]
 intro z
 obtain ⟨k',h1,h2⟩:=List.mem_map.mp z
 rw [key2_inj h2] at h1
 exact hk h1
theorem take_nodup {α β : Type} {l : List (α × β)} {a b : List (α × β)} (h : (l.map (·.1)).Nodup) (e : l = a ++ b) : (a.map (·.1)).Nodup:=by
 rw [e,List.map_append] at h
 exact (List.nodup_append.mp h).1
theorem mls_app (a b : List Pl) : mlsOf (a ++ b) = mlsOf a ++ mlsOf b:=by unfold mlsOf; rw [List.filterMap_append]
theorem gls_app (a b : List Pl) : glsOf (a ++ b) = glsOf a ++ glsOf b:=by unfold glsOf; rw [List.filterMap_append]
theorem bls_app (a b : List Pl) : blsOf (a ++ b) = blsOf a ++ blsOf b:=by unfold blsOf; rw [List.flatMap_append]
theorem mls_split (pls : List Pl) (i : Nat) : mlsOf pls = mlsOf (pls.take i) ++ mlsOf (pls.drop i):=by rw [← mls_app,List.take_append_drop]
theorem gls_split (pls : List Pl) (i : Nat) : glsOf pls = glsOf (pls.take i) ++ glsOf (pls.drop i):=by rw [← gls_app,List.take_append_drop]
theorem bls_split (pls : List Pl) (i : Nat) : blsOf pls = blsOf (pls.take i) ++ blsOf (pls.drop i):=by rw [← bls_app,List.take_append_drop]
theorem mls_len (pls : List Pl) : (mlsOf pls).length ≤ pls.length:=List.length_filterMap_le _ _
theorem gls_len (pls : List Pl) : (glsOf pls).length ≤ pls.length:=List.length_filterMap_le _ _
theorem bls_len : ∀ {pls : List Pl},(∀ x ∈ pls,(pairsOf x.2.2).length ≤ 6)→(blsOf pls).length ≤ 6 * pls.length
 | [],_=>by simp [blsOf]
 | x :: r,h=>by
  have h1:=bls_len (pls:=r) fun y hy=>h y (List.mem_cons_of_mem _ hy)
  have h2:=h x List.mem_cons_self
  have e : blsOf (x :: r) = ((pairsOf x.2.2).map fun q=>((x.1,q.2.2),(q.1,q.2.1))) ++ blsOf r:=rfl
  rw [e,List.length_append,List.length_map,List.length_cons]
  omega
theorem szK {n : Nat} (h : n ≤ 10000) : n < sizeLine:=by
 have : sizeLine = 16777216:=sizeLine_eq
 omega
def spMadeV : Sp:=fun vs H Q _=>∃ (a : Addr) (ps : List Pt),vs = [.ref a]∧PartsF H a ps∧PsFit ps∧NetOk (plsOf ps)∧∀ (d : Addr) (kvs : List (List Key × V)) (H' : Hp),Same H H'→H d = none→H' d = some (.dT kvs)→Paired (MvAt H') kvs (mlsOf (plsOf ps))→Q (.ref d) H'
theorem ok_made (T : Txt K mg) : L2.Cl P w K mg base 2 "made" ["parts"] spMadeV:=by
 have C_placed_rows:=ok_placed (P:=P) (w:=w) (base:=base) T
 refine Cl.of T.d_made sc_made (fun vs H Q E h=>?_) (fun _ _ _ _ _ _ us hl=>by obtain ⟨a,rfl⟩:=len1 hl; rfl) (fun fa cdv A outer s H vs Q E hr h=>?_)
 ·obtain ⟨a,ps,rfl,_⟩:=h
  rfl
 ·obtain ⟨a,ps,rfl,hpf,hfit,hnet,q⟩:=h
  have hu:=hu_of hr
  have hpl:=hnet.len
  refine ⟨_,(pss_cons (ps_set (i:=1) sc_made.nd rfl (Or.inl rfl) pe_dnewT)
   (pss_cons (ps_for PassesOwn.never rfl (pi_tup (pe_fn C_placed_rows hr (by rfl) (pa_cons (pv 0) pa_nil))) (pg_tup rfl (pgs_cons (pg_name (i:=2) sc_made.nd rfl (Or.inl rfl)) (pgs_cons (pg_name (i:=3) sc_made.nd rfl (Or.inl rfl)) (pgs_cons (pg_name (i:=4) sc_made.nd rfl (Or.inl rfl)) pgs_nil))))
    (pss_one (ps_if (pt_cmpR op_in_seq (pe_ix ix_tup (pv 4) pe_int (fun _ _=>rfl)) (pe_tup (pa_cons pe_str (pa_cons pe_str pa_nil))) (by with_unfolding_all rfl))
     (pss_one (ps_dput hu (pv 1) (pe_tup (pa_cons (pv 2) (pa_cons (pe_ix ix_tup (pv 4) pe_int (fun _ _=>rfl)) pa_nil))) (pe_tup (pa_cons (pv 2) (pa_cons (pv 3) pa_nil))) rfl)) pss_nil)))
   (pss_one (ps_ret (pv 1))))),?_⟩
  intro d gd
  have s1 : Same H (upd H d (.dT [])):=(Same.refl H).new gd
  refine ⟨_,rfl,a,ps,rfl,s1.partsF hpf,hfit,fun p vs H1 s2 hp hvs=>?_⟩
  have s12:=s1.trans s2
  have hd1 : H1 d = some (.dT []):=s2 _ _ upd_same
  have hvl : vs.length = (plsOf ps).length:=Paired.length hvs
  refine ⟨p,rfl,⟨_,SqT.of hp⟩,for_tup (K:=K) (a:=p) (xs:=vs) (fun i σ H2=>∃ (kvs : List (List Key × V)) (v2 v3 v4 : Option V),σ = [some (.ref a),some (.ref d),v2,v3,v4]∧Same H H2∧H2 p = some (.tup vs)∧Tups H1 H2∧H2 d = some (.dT kvs)∧Paired (MvAt H2) kvs (mlsOf ((plsOf ps).take i)))
   ⟨[],none,none,none,rfl,s12,hp,Tups.refl H1,hd1,by rw [List.take_zero]; exact .nil⟩ (fun i σ H2 _ ⟨_,_,_,_,_,_,h,_⟩=>SqT.of h) ?_ ?_⟩
  ·rintro i y σ H2 hy ⟨kvs,v2,v3,v4,rfl,s3,hp2,T2,hd2,hk⟩
   obtain ⟨⟨n,j,rw⟩,hx,t,r,ey,ht,hra⟩:=Paired.get? hvs hy
   subst ey
   have hra2:=hra.mono T2
   have htk : mlsOf ((plsOf ps).take (i + 1)) = mlsOf ((plsOf ps).take i) ++ mlsOf [(n,j,rw)]:=by
    rw [take_succ_get hx,mls_app]
   have hkl : kvs.length ≤ 960:=by
    rw [Paired.length hk]
    have h2:=mls_len ((plsOf ps).take i)
    rw [List.length_take] at h2
    omega
   refine ⟨t,_,rfl,SqT.of (T2 _ _ ht),rfl,_,_,rfl,_,_,rfl,_,_,rfl,rfl,?_⟩
   rcases row_own hra2 with ⟨o,rest,hkd,ho,hrt⟩ | ⟨hkd,ho⟩
   ·have z0 : atI (V.str (kindS rw) :: V.str o :: rest) 0 = some (.str (kindS rw)):=atI_nat (j:=0) rfl
    have z1 : atI (V.str (kindS rw) :: V.str o :: rest) 1 = some (.str o):=atI_nat (j:=1) rfl
    refine ⟨_,rfl,r,_,_,_,rfl,rfl,SqT.of hrt,z0,leS2,fun c gc=>?_⟩
    have s4 : Same H2 (upd H2 c (.tup [.str "set",.str "take"])):=(Same.refl H2).new gc
    refine ⟨c,_,rfl,.inr (SqT.of upd_same),rfl,rfl,_,rfl,?_⟩
    rw [if_neg (by decide),inV2,decide_eq_true hkd]
    refine iteT ?_
    refine ⟨_,rfl,_,rfl,leS2,fun e ge=>?_⟩
    have s5:=s4.new (o:=.tup [.str n,.int (j : Int)]) ge
    refine ⟨_,rfl,_,rfl,_,rfl,r,_,_,_,rfl,rfl,SqT.of (s5 _ _ hrt),z1,leS2,fun g gg=>?_⟩
    have s6:=s5.new (o:=.tup [.str n,.str o]) gg
    have hd6:=s6 _ _ hd2
    have hg6 : upd (upd (upd H2 c (.tup [.str "set",.str "take"])) e (.tup [.str n,.int (j : Int)])) g (.tup [.str n,.str o]) g = some (.tup ((key2 (n,o)).map kV)):=upd_same
    refine ⟨d,_,rfl,DPut.t (k:=key2 (n,o)) hd6 hg6 (szK (by omega)),?_⟩
    have h3 : mlsOf [(n,j,rw)] = [((n,o),(n,j))]:=by simp [mlsOf,ho]
    have hnew : key2 (n,o) ∉ kvs.map (·.1):=new_key (fun _ _ h=>h.1) hk (fun z=>by
     have h1:=take_nodup hnet.mkNodup (mls_split (plsOf ps) (i + 1))
     rw [htk,h3,List.map_append] at h1
     exact (List.nodup_append.mp h1).2.2 _ z _ (List.mem_singleton.mpr rfl) rfl)
    rw [putK_new hnew]
    have T6:=s6.tups.trans (Tups.dT (kvs':=kvs ++ [(key2 (n,o),.ref e)]) hd6)
    refine ⟨kvs ++ [(key2 (n,o),.ref e)],_,_,_,rfl,(s3.trans s6).put gd,T6 _ _ hp2,T2.trans T6,upd_same,?_⟩
    rw [htk,h3]
    refine Paired.snoc (Paired.mapP hk fun _ _ z=>z.mono T6) ⟨rfl,e,rfl,Tups.dT (kvs':=kvs ++ [(key2 (n,o),.ref e)]) hd6 _ _ (upd_keep upd_same gg)⟩
   ·obtain ⟨x1,rest,hrt⟩:=hra2.kind
    have z0 : atI (V.str (kindS rw) :: x1 :: rest) 0 = some (.str (kindS rw)):=atI_nat (j:=0) rfl
    refine ⟨_,rfl,r,_,_,_,rfl,rfl,SqT.of hrt,z0,leS2,fun c gc=>?_⟩
    have s4 : Same H2 (upd H2 c (.tup [.str "set",.str "take"])):=(Same.refl H2).new gc
    refine ⟨c,_,rfl,.inr (SqT.of upd_same),rfl,rfl,_,rfl,?_⟩
    rw [if_neg (by decide),inV2,decide_eq_false hkd]
    refine iteF ?_
    have h3 : mlsOf [(n,j,rw)] = []:=by simp [mlsOf,ho]
    exact ⟨kvs,_,_,_,rfl,s3.trans s4,s4 _ _ hp2,T2.trans s4.tups,s4 _ _ hd2,by rw [htk,h3,List.append_nil]; exact Paired.mapP hk fun _ _ z=>z.mono s4.tups⟩
  ·rintro σ H2 ⟨kvs,v2,v3,v4,rfl,s3,hp2,T2,hd2,hk⟩
   rw [hvl,List.take_length] at hk
   exact ⟨_,rfl,q d kvs H2 s3 gd hd2 hk⟩
theorem row_give {H : Hp} {r : Addr} {rw : Rw} (h : RowAt H r rw) : (∃ o g,giveOf rw = some (o,g)∧H r = some (.tup [.str "give",.str o,.str g]))∨(¬ kindS rw = "give" ∧ giveOf rw = none):=by
 cases rw with
 | give o g=>exact .inl ⟨o,g,rfl,h⟩
 | _=>exact .inr ⟨by simp only [kindS]; decide +kernel,rfl⟩
theorem row_bring {H : Hp} {r : Addr} {rw : Rw} (h : RowAt H r rw) : (∃ m ps t,rw = .bring m ps∧H r = some (.tup [.str "bring",.str m,.ref t])∧PairsAt H t ps)∨(¬ kindS rw = "bring" ∧ pairsOf rw = []):=by
 cases rw with
 | bring m ps=>obtain ⟨t,h1,h2⟩:=h; exact .inl ⟨m,ps,t,rfl,h1,h2⟩
 | _=>exact .inr ⟨by simp only [kindS]; decide +kernel,rfl⟩
def spGivenOwns : Sp:=fun vs H Q _=>∃ (a : Addr) (ps : List Pt),vs = [.ref a]∧PartsF H a ps∧PsFit ps∧NetOk (plsOf ps)∧∀ (d : Addr) (kvs : List (List Key × V)) (H' : Hp),Same H H'→H' d = some (.dT kvs)→Paired GvAt kvs (glsOf (plsOf ps))→Q (.ref d) H'
theorem ok_given_owns (T : Txt K mg) : L2.Cl P w K mg base 2 "given_owns" ["parts"] spGivenOwns:=by
 have C_placed_rows:=ok_placed (P:=P) (w:=w) (base:=base) T
 refine Cl.of T.d_given_owns sc_given_owns (fun vs H Q E h=>?_) (fun _ _ _ _ _ _ us hl=>by obtain ⟨a,rfl⟩:=len1 hl; rfl) (fun fa cdv A outer s H vs Q E hr h=>?_)
 ·obtain ⟨a,ps,rfl,_⟩:=h
  rfl
 ·obtain ⟨a,ps,rfl,hpf,hfit,hnet,q⟩:=h
  have hu:=hu_of hr
  have hpl:=hnet.len
  refine ⟨_,(pss_cons (ps_set (i:=1) sc_given_owns.nd rfl (Or.inl rfl) pe_dnewT)
   (pss_cons (ps_for PassesOwn.never rfl (pi_tup (pe_fn C_placed_rows hr (by rfl) (pa_cons (pv 0) pa_nil))) (pg_tup rfl (pgs_cons (pg_name (i:=2) sc_given_owns.nd rfl (Or.inl rfl)) (pgs_cons (pg_name (i:=3) sc_given_owns.nd rfl (Or.inl rfl)) (pgs_cons (pg_name (i:=4) sc_given_owns.nd rfl (Or.inl rfl)) pgs_nil))))
    (pss_one (ps_if (pt_cmpR op_eq (pe_ix ix_tup (pv 4) pe_int (fun _ _=>rfl)) pe_str (nomark _))
     (pss_one (ps_dput hu (pv 1) (pe_tup (pa_cons (pv 2) (pa_cons (pe_ix ix_tup (pv 4) pe_int (fun _ _=>rfl)) pa_nil))) (pe_ix ix_tup (pv 4) pe_int (fun _ _=>rfl)) rfl)) pss_nil)))
   (pss_one (ps_ret (pv 1))))),?_⟩
  intro d gd
  have s1 : Same H (upd H d (.dT [])):=(Same.refl H).new gd
  refine ⟨_,rfl,a,ps,rfl,s1.partsF hpf,hfit,fun p vs H1 s2 hp hvs=>?_⟩
  have s12:=s1.trans s2
  have hd1 : H1 d = some (.dT []):=s2 _ _ upd_same
  have hvl : vs.length = (plsOf ps).length:=Paired.length hvs
  refine ⟨p,rfl,⟨_,SqT.of hp⟩,for_tup (K:=K) (a:=p) (xs:=vs) (fun i σ H2=>∃ (kvs : List (List Key × V)) (v2 v3 v4 : Option V),σ = [some (.ref a),some (.ref d),v2,v3,v4]∧Same H H2∧H2 p = some (.tup vs)∧Tups H1 H2∧H2 d = some (.dT kvs)∧Paired GvAt kvs (glsOf ((plsOf ps).take i)))
   ⟨[],none,none,none,rfl,s12,hp,Tups.refl H1,hd1,by rw [List.take_zero]; exact .nil⟩ (fun i σ H2 _ ⟨_,_,_,_,_,_,h,_⟩=>SqT.of h) ?_ ?_⟩
  ·rintro i y σ H2 hy ⟨kvs,v2,v3,v4,rfl,s3,hp2,T2,hd2,hk⟩
   obtain ⟨⟨n,j,rw⟩,hx,t,r,ey,ht,hra⟩:=Paired.get? hvs hy
   subst ey
   have hra2:=hra.mono T2
   have htk : glsOf ((plsOf ps).take (i + 1)) = glsOf ((plsOf ps).take i) ++ glsOf [(n,j,rw)]:=by
    rw [take_succ_get hx,gls_app]
   have hkl : kvs.length ≤ 960:=by
    rw [Paired.length hk]
    have h2:=gls_len ((plsOf ps).take i)
    rw [List.length_take] at h2
    omega
   refine ⟨t,_,rfl,SqT.of (T2 _ _ ht),rfl,_,_,rfl,_,_,rfl,_,_,rfl,rfl,?_⟩
   rcases row_give hra2 with ⟨o,g,ho,hrt⟩ | ⟨hkd,ho⟩
   ·refine ⟨_,rfl,r,_,_,_,rfl,rfl,SqT.of hrt,rfl,rfl,_,rfl,iteSE ?_⟩
    refine ⟨_,rfl,r,_,_,_,rfl,rfl,SqT.of hrt,rfl,_,rfl,_,rfl,_,rfl,r,_,_,_,rfl,rfl,SqT.of hrt,rfl,leS2,fun e ge=>?_⟩
    have s6 : Same H2 (upd H2 e (.tup [.str n,.str g])):=(Same.refl H2).new ge
    have hd6:=s6 _ _ hd2
    have hg6 : upd H2 e (.tup [.str n,.str g]) e = some (.tup ((key2 (n,g)).map kV)):=upd_same
    refine ⟨d,_,rfl,DPut.t (k:=key2 (n,g)) hd6 hg6 (szK (by omega)),?_⟩
    have h3 : glsOf [(n,j,rw)] = [((n,g),o)]:=by simp [glsOf,ho]
    have hnew : key2 (n,g) ∉ kvs.map (·.1):=new_key (fun _ _ h=>h.1) hk (fun z=>by
     have h1:=take_nodup hnet.gk (gls_split (plsOf ps) (i + 1))
     rw [htk,h3,List.map_append] at h1
     exact (List.nodup_append.mp h1).2.2 _ z _ (List.mem_singleton.mpr rfl) rfl)
    rw [putK_new hnew]
    have T6:=s6.tups.trans (Tups.dT (kvs':=kvs ++ [(key2 (n,g),.str o)]) hd6)
    refine ⟨kvs ++ [(key2 (n,g),.str o)],_,_,_,rfl,(s3.trans s6).put gd,T6 _ _ hp2,T2.trans T6,upd_same,?_⟩
    rw [htk,h3]
    exact Paired.snoc hk ⟨rfl,rfl⟩
   ·obtain ⟨x1,rest,hrt⟩:=hra2.kind
    have z0 : atI (V.str (kindS rw) :: x1 :: rest) 0 = some (.str (kindS rw)):=atI_nat (j:=0) rfl
    refine ⟨_,rfl,r,_,_,_,rfl,rfl,SqT.of hrt,z0,rfl,_,rfl,iteSN hkd ?_⟩
    have h3 : glsOf [(n,j,rw)] = []:=by simp [glsOf,ho]
    exact ⟨kvs,_,_,_,rfl,s3,hp2,T2,hd2,by rw [htk,h3,List.append_nil]; exact hk⟩
  ·rintro σ H2 ⟨kvs,v2,v3,v4,rfl,s3,hp2,T2,hd2,hk⟩
   rw [hvl,List.take_length] at hk
   exact ⟨_,rfl,q d kvs H2 s3 hd2 hk⟩
def llG (G : List (Kk × Str)) (bs : List (Kk × Kk)) : List (Kk × Kk):=bs.map fun x=>(x.1,(x.2.1,gget G x.2))
theorem llG_app (G : List (Kk × Str)) (a b : List (Kk × Kk)) : llG G (a ++ b) = llG G a ++ llG G b:=by unfold llG; rw [List.map_append]
theorem llG_keys (G : List (Kk × Str)) (bs : List (Kk × Kk)) : (llG G bs).map (·.1) = bs.map (·.1):=by unfold llG; rw [List.map_map]; rfl
def brOf (n m : Str) (prs : List (Str × Str)) : List (Kk × Kk):=prs.map fun q=>((n,q.2),(m,q.1))
theorem bls_one (n : Str) (j : Nat) (m : Str) (prs : List (Str × Str)) : blsOf [(n,j,.bring m prs)] = brOf n m prs:=by
 unfold blsOf brOf pairsOf
 simp
def spLinks : Sp:=fun vs H Q _=>∃ (a : Addr) (ps : List Pt),vs = [.ref a]∧PartsF H a ps∧PsFit ps∧NetOk (plsOf ps)∧∀ (d : Addr) (kvs : List (List Key × V)) (H' : Hp),Same H H'→H d = none→H' d = some (.dT kvs)→Paired (LvAt H') kvs (llsOf (plsOf ps))→Q (.ref d) H'
theorem ok_links (T : Txt K mg) : L2.Cl P w K mg base 3 "links" ["parts"] spLinks:=by
 have C_placed_rows:=ok_placed (P:=P) (w:=w) (base:=base) T
 have C_given_owns:=ok_given_owns (P:=P) (w:=w) (base:=base) T
 refine Cl.of T.d_links sc_links (fun vs H Q E h=>?_) (fun _ _ _ _ _ _ us hl=>by obtain ⟨a,rfl⟩:=len1 hl; rfl) (fun fa cdv A outer s H vs Q E hr h=>?_)
 ·obtain ⟨a,ps,rfl,_⟩:=h
  rfl
 ·obtain ⟨a,ps,rfl,hpf,hfit,hnet,q⟩:=h
  have hu:=hu_of hr
  have hpl:=hnet.len
  refine ⟨_,(pss_cons (ps_set (i:=1) sc_links.nd rfl (Or.inl rfl) (pe_fn C_given_owns hr (by rfl) (pa_cons (pv 0) pa_nil)))
   (pss_cons (ps_set (i:=2) sc_links.nd rfl (Or.inl rfl) pe_dnewT)
   (pss_cons (ps_for PassesOwn.never rfl (pi_tup (pe_fn C_placed_rows hr (by rfl) (pa_cons (pv 0) pa_nil))) (pg_tup rfl (pgs_cons (pg_name (i:=3) sc_links.nd rfl (Or.inl rfl)) (pgs_cons (pg_name (i:=4) sc_links.nd rfl (Or.inl rfl)) (pgs_cons (pg_name (i:=5) sc_links.nd rfl (Or.inl rfl)) pgs_nil))))
    (pss_one (ps_if (pt_cmpR op_eq (pe_ix ix_tup (pv 5) pe_int (fun _ _=>rfl)) pe_str (nomark _))
     (pss_one (ps_for PassesOwn.never rfl (pi_tup (pe_ix ix_tup (pv 5) pe_int (fun _ _=>rfl))) (pg_tup rfl (pgs_cons (pg_name (i:=6) sc_links.nd rfl (Or.inl rfl)) (pgs_cons (pg_name (i:=7) sc_links.nd rfl (Or.inl rfl)) pgs_nil)))
      (pss_one (ps_dput hu (pv 2) (pe_tup (pa_cons (pv 3) (pa_cons (pv 7) pa_nil))) (pe_tup (pa_cons (pe_ix ix_tup (pv 5) pe_int (fun _ _=>rfl)) (pa_cons (pe_dget hu (pv 1) (pe_tup (pa_cons (pe_ix ix_tup (pv 5) pe_int (fun _ _=>rfl)) (pa_cons (pv 6) pa_nil))) (fun _ _=>rfl)) pa_nil))) rfl)))) pss_nil)))
   (pss_one (ps_ret (pv 2)))))),?_⟩
  refine ⟨_,rfl,a,ps,rfl,hpf,hfit,hnet,fun ow gkv H1 s1 how hg=>?_⟩
  intro d gd
  have s2 : Same H1 (upd H1 d (.dT [])):=(Same.refl H1).new gd
  refine ⟨_,rfl,a,ps,rfl,(s1.trans s2).partsF hpf,hfit,fun p vs H3 s3 hp hvs=>?_⟩
  have s03:=(s1.trans s2).trans s3
  have gdH : H d = none:=s1.free gd
  have hd3 : H3 d = some (.dT []):=s3 _ _ upd_same
  have how3 : H3 ow = some (.dT gkv):=s3 _ _ (s2 _ _ how)
  have hod : ow ≠ d:=fun z=>by rw [z,gd] at how; cases how
  have hvl : vs.length = (plsOf ps).length:=Paired.length hvs
  have hG:=hnet.gk
  refine ⟨p,rfl,⟨_,SqT.of hp⟩,for_tup (K:=K) (a:=p) (xs:=vs) (fun i σ H2=>∃ (kvs : List (List Key × V)) (v3 v4 v5 v6 v7 : Option V),σ = [some (.ref a),some (.ref ow),some (.ref d),v3,v4,v5,v6,v7]∧Same H H2∧H2 p = some (.tup vs)∧Tups H3 H2∧H2 ow = some (.dT gkv)∧H2 d = some (.dT kvs)∧Paired (LvAt H2) kvs (llG (glsOf (plsOf ps)) (blsOf ((plsOf ps).take i))))
   ⟨[],none,none,none,none,none,rfl,s03,hp,Tups.refl H3,how3,hd3,by rw [List.take_zero]; exact .nil⟩ (fun i σ H2 _ ⟨_,_,_,_,_,_,_,_,h,_⟩=>SqT.of h) ?_ ?_⟩
  ·rintro i y σ H2 hy ⟨kvs,v3,v4,v5,v6,v7,rfl,s4,hp2,T2,how2,hd2,hk⟩
   obtain ⟨⟨n,jj,rw⟩,hx,t,r,ey,ht,hra⟩:=Paired.get? hvs hy
   subst ey
   have hra2:=hra.mono T2
   have hxm:=List.mem_of_getElem? hx
   have htk : blsOf ((plsOf ps).take (i + 1)) = blsOf ((plsOf ps).take i) ++ blsOf [(n,jj,rw)]:=by
    rw [take_succ_get hx,bls_app]
   have hbl : (blsOf ((plsOf ps).take i)).length ≤ 5760:=by
    have h1:=bls_len (pls:=(plsOf ps).take i) fun x hx=>hnet.brs x (List.mem_of_mem_take hx)
    rw [List.length_take] at h1
    omega
   refine ⟨t,_,rfl,SqT.of (T2 _ _ ht),rfl,_,_,rfl,_,_,rfl,_,_,rfl,rfl,?_⟩
   rcases row_bring hra2 with ⟨m,prs,t',e,hrt,⟨vs',ht',hprs⟩,hp6⟩ | ⟨hkd,ho⟩
   ·subst e
    have hvl' : vs'.length = prs.length:=Paired.length hprs
    refine ⟨_,rfl,r,_,_,_,rfl,rfl,SqT.of hrt,rfl,rfl,_,rfl,iteSE ?_⟩
    have hnd : ((blsOf ((plsOf ps).take i)).map (·.1) ++ (brOf n m prs).map (·.1)).Nodup:=by
     have h1:=hnet.keys
     rw [bls_split (plsOf ps) (i + 1),htk,bls_one,List.map_append,List.map_append,← List.append_assoc] at h1
     have h2:=(List.nodup_append.mp h1).1
     exact (List.nodup_append.mp h2).2.1
    refine ⟨_,rfl,r,_,_,_,rfl,rfl,SqT.of hrt,rfl,t',rfl,⟨_,SqT.of ht'⟩,for_tup (K:=K) (a:=t') (xs:=vs') (fun j σ H4=>∃ (kvs : List (List Key × V)) (v6 v7 : Option V),σ = [some (.ref a),some (.ref ow),some (.ref d),some (.str n),some (.int (jj : Int)),some (.ref r),v6,v7]∧Same H H4∧Tups H2 H4∧H4 ow = some (.dT gkv)∧H4 d = some (.dT kvs)∧Paired (LvAt H4) kvs (llG (glsOf (plsOf ps)) (blsOf ((plsOf ps).take i) ++ brOf n m (prs.take j))))
     ⟨kvs,_,_,rfl,s4,Tups.refl H2,how2,hd2,by rw [List.take_zero]; show Paired _ kvs (llG _ (blsOf ((plsOf ps).take i) ++ [])); rw [List.append_nil]; exact hk⟩ (fun j σ H4 _ ⟨_,_,_,_,_,TT,_⟩=>SqT.of (TT _ _ ht')) ?_ ?_⟩
    ·rintro j y σ H4 hy4 ⟨kv4,w6,w7,rfl,s5,T4,how4,hd4,hk4⟩
     obtain ⟨qq,hq,c,ec,hc,_,_⟩:=Paired.get? hprs hy4
     subst ec
     have hj : j < prs.length:=(List.getElem?_eq_some_iff.mp hq).1
     have hrt4:=T4 _ _ hrt
     have htk4 : brOf n m (prs.take (j + 1)) = brOf n m (prs.take j) ++ [((n,qq.2),(m,qq.1))]:=by
      rw [take_succ_get hq]
      unfold brOf
      rw [List.map_append]
      rfl
     have hkl : kv4.length ≤ 6000:=by
      rw [Paired.length hk4]
      unfold llG
      rw [List.length_map,List.length_append]
      have : (brOf n m (prs.take j)).length = j:=by unfold brOf; rw [List.length_map,List.length_take]; omega
      omega
     have hxb : ((n,qq.2),(m,qq.1)) ∈ blsOf (plsOf ps):=by
      unfold blsOf
      refine List.mem_flatMap.mpr ⟨_,hxm,?_⟩
      exact List.mem_map.mpr ⟨(m,qq),List.mem_map.mpr ⟨qq,List.mem_of_getElem? hq,rfl⟩,rfl⟩
     obtain ⟨o',ho'⟩:=hnet.gv _ hxb
     have hgg : gget (glsOf (plsOf ps)) (m,qq.1) = o':=gget_eq hG ho'
     obtain ⟨kv',⟨_,hv1⟩,hv2⟩:=val_of (F:=GvAt) (fun _ _ h=>h.1) hg hG ho'
     refine ⟨c,_,rfl,SqT.of (T4 _ _ hc),rfl,_,_,rfl,_,_,rfl,rfl,?_⟩
     refine ⟨_,rfl,r,_,_,_,rfl,rfl,SqT.of hrt4,rfl,_,rfl,_,rfl,r,_,_,_,rfl,rfl,SqT.of hrt4,rfl,_,rfl,leS2,fun e ge=>?_⟩
     have s6 : Same H4 (upd H4 e (.tup [.str m,.str qq.1])):=(Same.refl H4).new ge
     have hget : DGet (upd H4 e (.tup [.str m,.str qq.1])) ow (.ref e) (some (.str o')):=by
      have h1:=DGet.t (k:=key2 (m,qq.1)) (s6 _ _ how4) (show upd H4 e (.tup [.str m,.str qq.1]) e = some (.tup ((key2 (m,qq.1)).map kV)) from upd_same)
      rw [hv2,hv1] at h1
      exact h1
     refine ⟨ow,_,rfl,hget,leS2,fun g gg=>?_⟩
     have s7:=s6.new (o:=.tup [.str m,.str o']) gg
     refine ⟨_,rfl,_,rfl,_,rfl,leS2,fun b gb=>?_⟩
     have s8:=s7.new (o:=.tup [.str n,.str qq.2]) gb
     have hd8:=s8 _ _ hd4
     have hb8 : upd (upd (upd H4 e (.tup [.str m,.str qq.1])) g (.tup [.str m,.str o'])) b (.tup [.str n,.str qq.2]) b = some (.tup ((key2 (n,qq.2)).map kV)):=upd_same
     refine ⟨d,_,rfl,DPut.t (k:=key2 (n,qq.2)) hd8 hb8 (szK (by omega)),?_⟩
     have hnew : key2 (n,qq.2) ∉ kv4.map (·.1):=new_key (F:=LvAt H4) (fun _ _ h=>h.1) hk4 (fun z=>by
      rw [llG_keys,List.map_append] at z
      have hsub : ((blsOf ((plsOf ps).take i)).map (·.1) ++ (brOf n m (prs.take (j + 1))).map (·.1)).Sublist ((blsOf ((plsOf ps).take i)).map (·.1) ++ (brOf n m prs).map (·.1)):=by
       refine List.Sublist.append_left ?_ _
       unfold brOf
       exact ((List.take_sublist _ _).map _).map _
      have h1:=hsub.nodup hnd
      rw [htk4,List.map_append,← List.append_assoc] at h1
      exact (List.nodup_append.mp h1).2.2 _ z _ (List.mem_singleton.mpr rfl) rfl)
     rw [putK_new hnew]
     have TD:=Tups.dT (kvs':=kv4 ++ [(key2 (n,qq.2),.ref g)]) hd8
     have T8:=s8.tups.trans TD
     refine ⟨kv4 ++ [(key2 (n,qq.2),.ref g)],_,_,rfl,(s5.trans s8).put gdH,T4.trans T8,by rw [upd_ne hod]; exact s8 _ _ how4,upd_same,?_⟩
     rw [htk4,← List.append_assoc,llG_app]
     refine Paired.snoc (Paired.mapP hk4 fun _ _ z=>z.mono T8) ⟨rfl,g,rfl,?_⟩
     show _ = some (HO.tup [V.str m,V.str (gget (glsOf (plsOf ps)) (m,qq.1))])
     rw [hgg]
     exact TD _ _ (upd_keep upd_same gb)
    ·rintro σ H4 ⟨kv4,w6,w7,rfl,s5,T4,how4,hd4,hk4⟩
     rw [hvl',List.take_length] at hk4
     refine ⟨kv4,_,_,_,_,_,rfl,s5,T4 _ _ hp2,T2.trans T4,how4,hd4,?_⟩
     rw [htk,bls_one]
     exact hk4
   ·obtain ⟨x1,rest,hrt⟩:=hra2.kind
    have z0 : atI (V.str (kindS rw) :: x1 :: rest) 0 = some (.str (kindS rw)):=atI_nat (j:=0) rfl
    refine ⟨_,rfl,r,_,_,_,rfl,rfl,SqT.of hrt,z0,rfl,_,rfl,iteSN hkd ?_⟩
    have h3 : blsOf [(n,jj,rw)] = []:=by unfold blsOf; simp [ho]
    exact ⟨kvs,_,_,_,_,_,rfl,s4,hp2,T2,how2,hd2,by rw [htk,h3,List.append_nil]; exact hk⟩
  ·rintro σ H2 ⟨kvs,v3,v4,v5,v6,v7,rfl,s4,hp2,T2,how2,hd2,hk⟩
   rw [hvl,List.take_length] at hk
   exact ⟨_,rfl,q d kvs H2 s4 gdH hd2 hk⟩
structure FI (mls : List (Kk × (Str × Nat))) (ls : List (Kk × Kk)) (H : Hp) (kvs : List (List Key × V)) : Prop where
 nd : (kvs.map (·.1)).Nodup
 sub : ∀ k ∈ kvs.map (·.1),k ∈ (mls.map (·.1) ++ ls.map (·.1)).map key2
 val : ∀ x v,valV kvs (key2 x) = some v→∃ t p,v = .ref t∧H t = some (.tup [.str p.1,.int ((p.2 : Nat) : Int)])∧Mk mls ls x p
 has : ∀ x ∈ mls.map (·.1),(valV kvs (key2 x)).isSome = true
theorem putK_keys {κ : Type} [DecidableEq κ] {kvs : List (κ × V)} {k : κ} {v : V} (h : (kvs.map (·.1)).Nodup) : ((putK kvs k v).map (·.1)).Nodup∧∀ x ∈ (putK kvs k v).map (·.1),x ∈ kvs.map (·.1)∨x = k:=by
 by_cases hk : k ∈ kvs.map (·.1)
 ·have e : (putK kvs k v).map (·.1) = kvs.map (·.1):=by
   unfold putK
   rw [if_pos]
   ·rw [List.map_map]
    refine List.map_congr_left fun x _=>?_
    show (if x.1 = k then (x.1,v) else x).1 = x.1
    split <;> rfl
   ·obtain ⟨p,hp,e⟩:=List.mem_map.mp hk
    exact List.any_eq_true.mpr ⟨p,hp,decide_eq_true e⟩
  rw [e]
  exact ⟨h,fun x hx=>.inl hx⟩
 ·rw [putK_new hk,List.map_append]
  refine ⟨List.nodup_append.mpr ⟨h,by simp,fun a ha b hb z=>hk (by have e : b = k:=List.mem_singleton.mp hb; rw [← e,← z]; exact ha)⟩,fun x hx=>?_⟩
  rcases List.mem_append.mp hx with z | z
  ·exact .inl z
  ·exact .inr (List.mem_singleton.mp z)
theorem FI.len {mls : List (Kk × (Str × Nat))} {ls : List (Kk × Kk)} {H : Hp} {kvs : List (List Key × V)} (h : FI mls ls H kvs) : kvs.length ≤ mls.length + ls.length:=by
 have h1:=nodup_lenG _ _ h.nd h.sub
 rw [List.length_map,List.length_map,List.length_append,List.length_map,List.length_map] at h1
 exact h1
theorem FI.mono {mls : List (Kk × (Str × Nat))} {ls : List (Kk × Kk)} {H H' : Hp} {kvs : List (List Key × V)} (h : FI mls ls H kvs) (s : Tups H H') : FI mls ls H' kvs:=⟨h.nd,h.sub,fun x v e=>by
 obtain ⟨t,p,e1,e2,e3⟩:=h.val x v e
 exact ⟨t,p,e1,s _ _ e2,e3⟩,h.has⟩
theorem FI.put {mls : List (Kk × (Str × Nat))} {ls : List (Kk × Kk)} {H : Hp} {kvs : List (List Key × V)} (h : FI mls ls H kvs) {x : Kk} {t : Addr} {p : Str × Nat} (hx : x ∈ mls.map (·.1) ++ ls.map (·.1)) (ht : H t = some (.tup [.str p.1,.int ((p.2 : Nat) : Int)])) (hm : Mk mls ls x p) : FI mls ls H (putK kvs (key2 x) (.ref t)):=by
 obtain ⟨k1,k2⟩:=putK_keys (v:=V.ref t) (k:=key2 x) h.nd
 refine ⟨k1,fun k hk=>?_,fun y v e=>?_,fun y hy=>?_⟩
 ·rcases k2 k hk with z | z
  ·exact h.sub k z
  ·rw [z]; exact List.mem_map_of_mem hx
 ·rw [valV_put] at e
  by_cases z : key2 y = key2 x
  ·rw [if_pos z] at e
   rw [key2_inj z]
   exact ⟨t,p,(Option.some.inj e).symm,ht,hm⟩
  ·rw [if_neg z] at e
   exact h.val y v e
 ·rw [valV_put]
  by_cases z : key2 y = key2 x
  ·rw [if_pos z]; rfl
  ·rw [if_neg z]; exact h.has y hy
def OwAt (H : Hp) (v : V) (k : Str × Str) : Prop:=∃ b,v = .ref b∧H b = some (.tup [.str k.1,.str k.2])
theorem OwAt.mono {H H' : Hp} (s : Tups H H') {v : V} {k : Kk} (h : OwAt H v k) : OwAt H' v k:=by
 obtain ⟨b,e,h⟩:=h
 exact ⟨b,e,s _ _ h⟩
def muM (r : Kk→Nat) (i : Nat) (σ : L2.St) (H : Hp) : Nat:=match σ[i]? with
 | some (some (V.ref b))=>match H b with
  | some (HO.tup [V.str n,V.str o])=>r (n,o)
  | _=>0
 | _=>0
def spMakers : Sp:=fun vs H Q _=>∃ (a : Addr) (ps : List Pt),vs = [.ref a]∧PartsF H a ps∧PsFit ps∧NetOk (plsOf ps)∧∀ (d : Addr) (kvs : List (List Key × V)) (H' : Hp),Same H H'→H d = none→H' d = some (.dT kvs)→FI (mlsOf (plsOf ps)) (llsOf (plsOf ps)) H' kvs→(∀ x ∈ (llsOf (plsOf ps)).map (·.1),(valV kvs (key2 x)).isSome = true)→Q (.ref d) H'
theorem Tups.frz {H : Hp} {l : Addr} {o : Obj} {u : HO} {kvs : List (List Key × V)} (h : H l = some (.dT kvs)) : Tups H (upd H l (.frz o u)):=fun b zs q=>by
 rw [upd_ne (ne_of q h (by intro z; cases z))]
 exact q
theorem mk_of {pls : List Pl} {H : Hp} {kvs : List (List Key × V)} (hnet : NetOk pls) (h : Paired (MvAt H) kvs (mlsOf pls)) : FI (mlsOf pls) (llsOf pls) H kvs:=by
 have hk:=keys_of (F:=MvAt H) (fun _ _ h=>h.1) h
 refine ⟨?_,fun k hm=>?_,fun x v e=>?_,fun x hx=>?_⟩
 ·rw [hk,List.nodup_iff_pairwise_ne,List.pairwise_map]
  have:=hnet.mkNodup
  rw [List.nodup_iff_pairwise_ne] at this
  exact this.imp fun hne z=>hne (key2_inj z)
 ·rw [hk] at hm
  rw [List.map_append]
  exact List.mem_append_left _ hm
 ·by_cases hx : x ∈ (mlsOf pls).map (·.1)
  ·obtain ⟨y,hy,ey⟩:=List.mem_map.mp hx
   obtain ⟨kv,⟨_,t,e1,e2⟩,e3⟩:=val_of (F:=MvAt H) (fun _ _ h=>h.1) h hnet.mkNodup hy
   rw [ey,e] at e3
   refine ⟨t,y.2,(Option.some.inj e3).trans e1,e2,.base ?_⟩
   rw [← ey]
   exact hy
  ·rw [val_none (F:=MvAt H) (fun _ _ h=>h.1) h hx] at e
   cases e
 ·obtain ⟨y,hy,ey⟩:=List.mem_map.mp hx
  obtain ⟨kv,_,e3⟩:=val_of (F:=MvAt H) (fun _ _ h=>h.1) h hnet.mkNodup hy
  rw [← ey,e3]
  rfl
theorem ok_makers (T : Txt K mg) : L2.Cl P w K mg base 4 "makers" ["parts"] spMakers:=by
 have C_made:=ok_made (P:=P) (w:=w) (base:=base) T
 have C_links:=ok_links (P:=P) (w:=w) (base:=base) T
 refine Cl.of T.d_makers sc_makers (fun vs H Q E h=>?_) (fun _ _ _ _ _ _ us hl=>by obtain ⟨a,rfl⟩:=len1 hl; rfl) (fun fa cdv A outer s H vs Q E hr h=>?_)
 ·obtain ⟨a,ps,rfl,_⟩:=h
  rfl
 ·obtain ⟨a,ps,rfl,hpf,hfit,hnet,q⟩:=h
  have hu:=hu_of hr
  have hpl:=hnet.len
  obtain ⟨r,hrk⟩:=hnet.rk
  have hml:=mls_len (plsOf ps)
  have hll : (llsOf (plsOf ps)).length ≤ 5760:=by
   have h1:=bls_len hnet.brs
   unfold llsOf
   rw [List.length_map]
   omega
  have htgt:=fun {x : Kk × Kk} (hx : x ∈ llsOf (plsOf ps))=>hnet.tgt hx
  have hlkn:=hnet.lkNodup
  refine ⟨_,(pss_cons (ps_set (i:=1) sc_makers.nd rfl (Or.inl rfl) (pe_fn C_made hr (by rfl) (pa_cons (pv 0) pa_nil)))
   (pss_cons (ps_set (i:=2) sc_makers.nd rfl (Or.inl rfl) (pe_fn C_links hr (by rfl) (pa_cons (pv 0) pa_nil)))
   (pss_cons (ps_for PassesOwn.never rfl (pi_dictT (pv 2)) (pg_name (i:=3) sc_makers.nd rfl (Or.inl rfl))
    (pss_cons (ps_set (i:=4) sc_makers.nd rfl (Or.inl rfl) (pe_lst pa_nil))
    (pss_cons (ps_set (i:=5) sc_makers.nd rfl (Or.inl rfl) (pv 3))
    (pss_cons (ps_while PassesOwn.never (pt_cmp (pc_dnotin hu (pv 5) (pv 1)))
     (pss_cons (ps_expr (pe_bm PySem.F.plainAttrs_list PySem.F.slot_list_append PySem.F.type_list_append mt_append (pv 4) (pa_cons (pv 5) pa_nil)))
     (pss_one (ps_set (i:=5) sc_makers.nd rfl (Or.inl rfl) (pe_dget hu (pv 2) (pv 5) (fun _ _=>rfl))))))
    (pss_one (ps_for PassesOwn.never rfl (pi_list (pv 4)) (pg_name (i:=6) sc_makers.nd rfl (Or.inl rfl))
     (pss_one (ps_dput hu (pv 1) (pv 6) (pe_dget hu (pv 1) (pv 5) (fun _ _=>rfl)) rfl))))))))
   (pss_one (ps_ret (pv 1)))))),?_⟩
  refine ⟨_,rfl,a,ps,rfl,hpf,hfit,hnet,fun f mkv H1 s1 gf hf1 hmk=>?_⟩
  refine ⟨_,rfl,a,ps,rfl,s1.partsF hpf,hfit,hnet,fun on lkv H2 s2 gon hon hlk=>?_⟩
  have hfo : f ≠ on:=fun z=>by rw [z,gon] at hf1; cases hf1
  have gonH : H on = none:=s1.free gon
  have s02:=s1.trans s2
  have fi2 : FI (mlsOf (plsOf ps)) (llsOf (plsOf ps)) H2 mkv:=(mk_of hnet hmk).mono s2.tups
  generalize mlsOf (plsOf ps) = mls at *
  generalize llsOf (plsOf ps) = ls at *
  have hlkl : lkv.length = ls.length:=Paired.length hlk
  refine ⟨_,rfl,on,lkv,rfl,hon,fun ob vs hvs=>?_⟩
  have hvl : vs.length = lkv.length:=Paired.length hvs
  have T3 : Tups H2 (upd H2 on (.frz ob (.dT lkv))):=Tups.frz hon
  have s3 : Same H (upd H2 on (.frz ob (.dT lkv))):=s02.put gonH
  have hf3 : upd H2 on (.frz ob (.dT lkv)) f = some (.dT mkv):=by rw [upd_ne hfo]; exact s2 _ _ hf1
  have hon3 : upd H2 on (.frz ob (.dT lkv)) on = some (.frz ob (.dT lkv)):=upd_same
  have fi3:=fi2.mono T3
  have hlk3 : Paired (LvAt (upd H2 on (.frz ob (.dT lkv)))) lkv ls:=Paired.mapP hlk fun _ _ z=>z.mono T3
  have hvs3 : Paired (KeyAt (upd H2 on (.frz ob (.dT lkv)))) vs lkv:=Paired.mapP hvs fun _ _ ⟨b,e,hb⟩=>⟨b,e,T3 _ _ hb⟩
  generalize upd H2 on (.frz ob (.dT lkv)) = H3 at T3 s3 hf3 hon3 fi3 hlk3 hvs3 ⊢
  refine for_dict (d:=on) (o:=ob) (u:=.dT lkv) (ks:=vs) (fun i σ H4=>∃ (kvs : List (List Key × V)) (v3 v4 v5 v6 : Option V),σ = [some (.ref a),some (.ref f),some (.ref on),v3,v4,v5,v6]∧Same H H4∧H4 on = some (.frz ob (.dT lkv))∧Tups H3 H4∧H4 f = some (.dT kvs)∧FI mls ls H4 kvs∧∀ j x,j < i→ls[j]? = some x→(valV kvs (key2 x.1)).isSome = true)
   ⟨mkv,none,none,none,none,rfl,s3,hon3,Tups.refl H3,hf3,fi3,fun j x hj=>by omega⟩ (fun i σ H4 _ ⟨_,_,_,_,_,_,_,h,_⟩=>h) ?_ ?_
  ·rintro i y σ H4 hy ⟨kvs,v3,v4,v5,v6,rfl,s4,hon4,T4,hf4,fi4,hdone⟩
   obtain ⟨kv0,hkv0,b0',eb0,hb0⟩:=Paired.get? hvs3 hy
   subst eb0
   obtain ⟨x0,hx0,hx0k,_⟩:=Paired.get? hlk3 hkv0
   have hx0m : x0 ∈ ls:=List.mem_of_getElem? hx0
   have hb04 : H4 b0' = some (.tup [.str x0.1.1,.str x0.1.2]):=by
    have:=T4 _ _ hb0
    rw [hx0k] at this
    exact this
   refine ⟨leS0,fun wy gwy=>?_⟩
   have s5 : Same H4 (upd H4 wy (.lst [])):=(Same.refl H4).new gwy
   have gwyH : H wy = none:=s4.free gwy
   have hfw : f ≠ wy:=fun z=>by rw [z,gwy] at hf4; cases hf4
   have how : on ≠ wy:=fun z=>by rw [z,gwy] at hon4; cases hon4
   refine ⟨_,rfl,?_⟩
   apply g_while
   ·with_reducible_and_instances rfl
   refine while_by (fun σ H5=>∃ (x : Kk) (b : Addr) (xs : List Kk) (ws : List V) (v3 v6 : Option V),σ = [some (.ref a),some (.ref f),some (.ref on),v3,some (.ref wy),some (.ref b),v6]∧Same H H5∧H5 on = some (.frz ob (.dT lkv))∧Tups H3 H5∧H5 f = some (.dT kvs)∧FI mls ls H5 kvs∧H5 b = some (.tup [.str x.1,.str x.2])∧(x ∈ mls.map (·.1)∨x ∈ ls.map (·.1))∧H5 wy = some (.lst ws)∧Paired (OwAt H5) ws xs∧(∀ y ∈ xs,y ∈ ls.map (·.1)∧r x < r y∧∀ p,Mk mls ls x p→Mk mls ls y p)∧xs.Nodup∧(x = x0.1∨x0.1 ∈ xs)) (fun σ H5=>muM r 5 σ H5)
    ⟨x0.1,b0',[],[],_,_,rfl,s4.trans s5,s5 _ _ hon4,T4.trans s5.tups,s5 _ _ hf4,fi4.mono s5.tups,s5 _ _ hb04,.inr (List.mem_map_of_mem (f:=(·.1)) hx0m),upd_same,.nil,fun y hy=>by simp at hy,by simp,.inl rfl⟩ ?_ ?_
   ·rintro σ H5 ⟨x,b,xs,ws,w3,w6,rfl,s6,hon5,T5,hf5,fi5,hb5,hxk,hwy5,hws,hxs,hxn,hst⟩
    refine ⟨_,rfl,_,rfl,f,_,rfl,DGet.t (k:=key2 x) hf5 hb5,_,rfl,?_⟩
    cases e : valV kvs (key2 x) with
    | none =>
     refine iteT ?_
     have hxl : x ∈ ls.map (·.1):=by
      rcases hxk with z | z
      ·have:=fi5.has x z
       rw [e] at this
       cases this
      ·exact z
     obtain ⟨yx,hyx,eyx⟩:=List.mem_map.mp hxl
     obtain ⟨kvx,⟨_,t',e1,e2⟩,e3⟩:=val_of (F:=LvAt H3) (fun _ _ h=>h.1) hlk3 hlkn hyx
     rw [eyx] at e3
     have hyx' : (x,yx.2) ∈ ls:=by rw [← eyx]; exact hyx
     have hlt : r yx.2 < r x:=hrk _ hyx'
     have hwl : ws.length ≤ 6720:=by
      rw [Paired.length hws]
      have h1:=nodup_lenG xs (ls.map (·.1)) hxn fun y hy=>(hxs y hy).1
      rw [List.length_map] at h1
      omega
     refine ⟨_,rfl,.inl ⟨rfl,_,SqL.of hwy5⟩,_,rfl,wy,_,_,rfl,rfl,hwy5,szK (by omega),?_⟩
     have T6 : Tups H5 (upd H5 wy (.lst (ws ++ [.ref b]))):=Tups.lst hwy5
     have hon6 : upd H5 wy (.lst (ws ++ [.ref b])) on = some (.frz ob (.dT lkv)):=by rw [upd_ne how]; exact hon5
     have hb6:=T6 _ _ hb5
     have hget : DGet (upd H5 wy (.lst (ws ++ [.ref b]))) on (.ref b) (some (.ref t')):=.inr ⟨lkv,key2 x,b,.inr ⟨ob,hon6⟩,rfl,hb6,by rw [e3,e1]⟩
     refine ⟨_,rfl,_,rfl,on,_,rfl,hget,?_⟩
     have ht6:=T6 _ _ (T5 _ _ e2)
     refine ⟨⟨yx.2,t',xs ++ [x],ws ++ [.ref b],_,_,rfl,s6.put gwyH,hon6,T5.trans T6,by rw [upd_ne hfw]; exact hf5,fi5.mono T6,ht6,htgt hyx,upd_same,Paired.snoc (Paired.mapP hws fun _ _ z=>z.mono T6) ⟨b,rfl,hb6⟩,fun y hy=>?_,?_,?_⟩,?_⟩
     ·rcases List.mem_append.mp hy with z | z
      ·obtain ⟨h1,h2,h3⟩:=hxs y z
       exact ⟨h1,by omega,fun p hp=>h3 p (.step hyx' hp)⟩
      ·rw [List.mem_singleton.mp z]
       exact ⟨hxl,hlt,fun p hp=>.step hyx' hp⟩
     ·refine List.nodup_append.mpr ⟨hxn,by simp,fun y hy z hz w=>?_⟩
      rw [List.mem_singleton.mp hz] at w
      have:=(hxs y hy).2.1
      rw [w] at this
      omega
     ·rcases hst with z | z
      ·rw [← z]; exact .inr (List.mem_append_right _ List.mem_cons_self)
      ·exact .inr (List.mem_append_left _ z)
     ·show muM r 5 [some (V.ref a),some (.ref f),some (.ref on),w3,some (.ref wy),some (.ref t'),w6] _ < muM r 5 [some (V.ref a),some (.ref f),some (.ref on),w3,some (.ref wy),some (.ref b),w6] H5
      have m1 : muM r 5 [some (V.ref a),some (.ref f),some (.ref on),w3,some (.ref wy),some (.ref t'),w6] (upd H5 wy (.lst (ws ++ [.ref b]))) = r yx.2:=by
       unfold muM
       simp only [List.getElem?_cons_succ,List.getElem?_cons_zero]
       rw [ht6]
      have m2 : muM r 5 [some (V.ref a),some (.ref f),some (.ref on),w3,some (.ref wy),some (.ref b),w6] H5 = r x:=by
       unfold muM
       simp only [List.getElem?_cons_succ,List.getElem?_cons_zero]
       rw [hb5]
      rw [m1,m2]
      exact hlt
    | some v =>
     refine iteF ?_
     obtain ⟨t,p,ev,ht,hmk'⟩:=fi5.val x v e
     subst ev
     refine ⟨_,rfl,wy,rfl,⟨_,SqL.of hwy5⟩,for_list (K:=K) (a:=wy) (xs:=ws) (fun j σ H6=>∃ (kv : List (List Key × V)) (v6 : Option V),σ = [some (.ref a),some (.ref f),some (.ref on),w3,some (.ref wy),some (.ref b),v6]∧Same H H6∧H6 on = some (.frz ob (.dT lkv))∧Tups H5 H6∧H6 f = some (.dT kv)∧H6 wy = some (.lst ws)∧FI mls ls H6 kv∧valV kv (key2 x) = some (.ref t)∧(∀ y,(valV kvs (key2 y)).isSome = true→(valV kv (key2 y)).isSome = true)∧∀ y ∈ xs.take j,(valV kv (key2 y)).isSome = true)
      ⟨kvs,_,rfl,s6,hon5,Tups.refl H5,hf5,hwy5,fi5,e,fun y hy=>hy,fun y hy=>by simp at hy⟩ (fun j σ H6 _ ⟨_,_,_,_,_,_,_,h,_⟩=>SqL.of h) ?_ ?_⟩
     ·rintro j y σ H6 hy6 ⟨kv,u6,rfl,s7,hon6,T6,hf6,hwy6,fi6,hvx,hup,htk⟩
      obtain ⟨z,hz,bz,ez,hbz⟩:=Paired.get? hws hy6
      subst ez
      have hzm:=List.mem_of_getElem? hz
      obtain ⟨hz1,_,hz3⟩:=hxs z hzm
      have hkl:=fi6.len
      have hget : DGet H6 f (.ref b) (some (.ref t)):=by
       have h1:=DGet.t (k:=key2 x) hf6 (T6 _ _ hb5)
       rw [hvx] at h1
       exact h1
      refine ⟨_,rfl,_,rfl,f,_,rfl,hget,_,rfl,_,rfl,f,_,rfl,DPut.t (k:=key2 z) hf6 (T6 _ _ hbz) (szK (by omega)),?_⟩
      have T7:=Tups.dT (kvs':=putK kv (key2 z) (.ref t)) hf6
      refine ⟨putK kv (key2 z) (.ref t),_,rfl,s7.put gf,by rw [upd_ne hfo.symm]; exact hon6,T6.trans T7,upd_same,by rw [upd_ne hfw.symm]; exact hwy6,(fi6.put (List.mem_append_right _ hz1) (T6 _ _ ht) (hz3 p hmk')).mono T7,?_,fun y hy=>?_,fun y hy=>?_⟩
      ·rw [valV_put]
       split
       ·rfl
       ·exact hvx
      ·rw [valV_put]
       split
       ·rfl
       ·exact hup y hy
      ·rw [take_succ_get hz] at hy
       rw [valV_put]
       rcases List.mem_append.mp hy with w | w
       ·split
        ·rfl
        ·exact htk y w
       ·rw [List.mem_singleton.mp w,if_pos rfl]
        rfl
     ·rintro σ H6 ⟨kv,u6,rfl,s7,hon6,T6,hf6,hwy6,fi6,hvx,hup,htk⟩
      rw [Paired.length hws,List.take_length] at htk
      refine ⟨kv,_,_,_,_,rfl,s7,hon6,T5.trans T6,hf6,fi6,fun j y hj hy'=>?_⟩
      by_cases hji : j = i
      ·subst hji
       rw [hx0] at hy'
       cases hy'
       rcases hst with z | z
       ·rw [← z,hvx]; rfl
       ·exact htk _ z
      ·exact hup _ (hdone j y (by omega) hy')
   ·rintro σ H5 Q1 Q2 hQ ⟨v,e,v2,e2,a2,o,e7,hg,c,e8,hq⟩
    exact ⟨v,e,v2,e2,a2,o,e7,hg,c,e8,hQ _ _ hq⟩
  ·rintro σ H4 ⟨kvs,v3,v4,v5,v6,rfl,s4,hon4,T4,hf4,fi4,hdone⟩
   refine ⟨_,rfl,q f kvs H4 s4 gf hf4 fi4 fun x hx=>?_⟩
   obtain ⟨y,hy,ey⟩:=List.mem_map.mp hx
   obtain ⟨j,hj⟩:=List.getElem?_of_mem hy
   have hjl:=(List.getElem?_eq_some_iff.mp hj).1
   rw [← ey]
   exact hdone j y (by omega) hj
def nt (j : Nat) : Str:=Str.ofString (toString (j : Int))
theorem nt_inj {i j : Nat} (hi : i < 100000) (hj : j < 100000) (h : nt i = nt j) : i = j:=by
 have b : ∀ n : Nat,n < 100000→((n : Int)) < 10 ^ 60:=fun n hn=>Int.lt_of_lt_of_le (show (n : Int) < 100000 by omega) (by decide)
 obtain ⟨h1,_⟩:=num_text (n:=(i : Int)) (by omega) (b i hi)
 obtain ⟨h2,_⟩:=num_text (n:=(j : Int)) (by omega) (b j hj)
 have h3 : (Nat.toDigits 10 (i : Int).toNat).map Char.toNat = (Nat.toDigits 10 (j : Int).toNat).map Char.toNat:=by
  rw [← h1,← h2]
  exact congrArg (fun x : Str=>x.cps.toList) h
 have h4 : Nat.toDigits 10 (i : Int).toNat = Nat.toDigits 10 (j : Int).toNat:=by
  refine List.map_inj_right (fun a b e=>?_) |>.mp h3
  exact Char.toNat_inj.mp e
 have h5:=congrArg (fun l=>Nat.ofDigitChars 10 l 0) h4
 simp only [Nat.ofDigitChars_ten_toDigits,Int.toNat_natCast] at h5
 exact h5
theorem nt_len (j : Nat) (hj : j < 100000) : 1 ≤ (nt j).length∧(nt j).length ≤ 60:=by
 obtain ⟨h1,h2⟩:=num_text (n:=(j : Int)) (by omega) (Int.lt_of_lt_of_le (show (j : Int) < 100000 by omega) (by decide))
 have e : (nt j).length = (Nat.toDigits 10 (j : Int).toNat).length:=by
  have:=congrArg List.length h1
  rw [List.length_map,Array.length_toList] at this
  exact this
 rw [e]
 refine ⟨?_,h2⟩
 have : Nat.toDigits 10 (j : Int).toNat ≠ []:=Nat.toDigits_ne_nil
 exact List.length_pos_iff.mpr this
def muN (σ : L2.St) : Nat:=match σ[2]? with
 | some (some (V.int n))=>(6000 - n).toNat
 | _=>0
def spNumbered : Sp:=fun vs H Q _=>∃ (own : Str) (d : Addr) (kvs : List (Key × V)),vs = [.str own,.ref d]∧H d = some (.dK kvs)∧kvs.length ≤ 5000∧own.length ≤ 100∧∀ k : Nat,2 ≤ k→k ≤ 5010→valV kvs (Sum.inr (own ++ nt k)) = none→(∀ j,2 ≤ j→j < k→(valV kvs (Sum.inr (own ++ nt j))).isSome = true)→Q (.str (own ++ nt k)) H
theorem few {own : Str} {kvs : List (Key × V)} {n : Nat} (hn : n ≤ 6000) (h : ∀ j,2 ≤ j→j < n→(valV kvs (Sum.inr (own ++ nt j))).isSome = true) : n ≤ kvs.length + 2:=by
 have h1:=nodup_lenG ((List.range (n - 2)).map fun i=>(Sum.inr (own ++ nt (i + 2)) : Key)) (kvs.map (·.1)) ?_ ?_
 ·rw [List.length_map,List.length_map,List.length_range] at h1
  omega
 ·rw [List.nodup_iff_pairwise_ne,List.pairwise_map]
  refine List.Pairwise.imp_of_mem (fun {i j} hi hj hne z=>hne ?_) List.nodup_range
  have h1:=List.mem_range.mp hi
  have h2:=List.mem_range.mp hj
  have:=nt_inj (by omega) (by omega) (str_app_cancel (Sum.inr.inj z))
  omega
 ·intro x hx
  obtain ⟨i,hi,rfl⟩:=List.mem_map.mp hx
  have h2:=List.mem_range.mp hi
  have h3:=h (i + 2) (by omega) (by omega)
  cases e : valV kvs (Sum.inr (own ++ nt (i + 2))) with
  | none=>rw [e] at h3; cases h3
  | some v=>exact valV_in e
theorem ok_numbered (T : Txt K mg) : L2.Cl P w K mg base 1 "numbered" ["own", "used"] spNumbered:=by
 refine Cl.of T.d_numbered sc_numbered (fun vs H Q E h=>?_) (fun _ _ _ _ _ _ us hl=>by obtain ⟨a,b,rfl⟩:=len2 hl; rfl) (fun fa cdv A outer s H vs Q E hr h=>?_)
 ·obtain ⟨own,d,kvs,rfl,_⟩:=h
  rfl
 ·obtain ⟨own,d,kvs,rfl,hd,hkl,hol,q⟩:=h
  have hu:=hu_of hr
  refine ⟨_,(pss_cons (ps_set (i:=2) sc_numbered.nd rfl (Or.inl rfl) pe_int)
   (pss_cons (ps_while PassesOwn.never (pt_cmp (pc_din hu (pe_op op_add_str (pv 0) (pe_callTy call_str_int (by rfl) T.n_str boot_str (pa_cons (pv 2) pa_nil))) (pv 1)))
    (pss_one (ps_aug (i:=2) sc_numbered.nd rfl (Or.inl rfl) pe_int ip_add)))
   (pss_one (ps_ret (pe_op op_add_str (pv 0) (pe_callTy call_str_int (by rfl) T.n_str boot_str (pa_cons (pv 2) pa_nil))))))),?_⟩
  have hlog : ∀ n : Nat,n ≤ 6000→((n : Int)).natAbs.log2 < 1920:=fun n hn=>by
   have h1 : ((n : Int)).natAbs = n:=Int.natAbs_natCast n
   rw [h1]
   by_cases hz : n = 0
   ·subst hz; decide
   ·have : n < 2 ^ 13:=by omega
    have:=(Nat.log2_lt hz).mpr this
    omega
  have hsz : ∀ n : Nat,n ≤ 6000→own.length + (nt n).length ≤ sizeLine:=fun n hn=>by
   have:=(nt_len n (by omega)).2
   exact Nat.le_of_lt (small1000 (by omega))
  refine while_by (fun σ H2=>∃ n : Nat,σ = [some (.str own),some (.ref d),some (.int (n : Int))]∧H2 = H∧2 ≤ n∧n ≤ 5010∧∀ j,2 ≤ j→j < n→(valV kvs (Sum.inr (own ++ nt j))).isSome = true) (fun σ _=>muN σ) ⟨2,rfl,rfl,by omega,by omega,fun j h1 h2=>by omega⟩ ?_ ?_
  ·rintro σ H2 ⟨n,rfl,rfl,hn2,hn5,hall⟩
   refine ⟨_,rfl,_,rfl,_,rfl,hlog n (by omega),_,_,rfl,rfl,hsz n (by omega),_,rfl,d,_,rfl,DGet.k (k:=Sum.inr (own ++ nt n)) hd,_,rfl,?_⟩
   cases e : valV kvs (Sum.inr (own ++ nt n)) with
   | none =>
    refine iteF ?_
    refine ⟨_,rfl,_,rfl,_,rfl,hlog n (by omega),_,_,rfl,rfl,hsz n (by omega),?_⟩
    exact q n hn2 hn5 e hall
   | some v =>
    refine iteT ?_
    have hall' : ∀ j,2 ≤ j→j < n + 1→(valV kvs (Sum.inr (own ++ nt j))).isSome = true:=fun j h1 h2=>by
     by_cases hj : j = n
     ·subst hj; rw [e]; rfl
     ·exact hall j h1 (by omega)
    have hf:=few (n:=n + 1) (by omega) hall'
    refine ⟨_,rfl,_,_,rfl,rfl,?_⟩
    refine ⟨⟨n + 1,?_,rfl,by omega,by omega,hall'⟩,?_⟩
    ·show [some (V.str own),some (.ref d),some (.int ((n : Int) + 1))] = _
     rw [show ((n : Int) + 1) = ((n + 1 : Nat) : Int) by omega]
    ·show muN [some (V.str own),some (.ref d),some (.int ((n : Int) + 1))] < muN [some (V.str own),some (.ref d),some (.int (n : Int))]
     simp only [muN,List.getElem?_cons_succ,List.getElem?_cons_zero]
     omega
  ·rintro σ H2 Q1 Q2 hQ ⟨v,e,v2,e2,i,e3,hl,a,b,e4,e5,hl2,v3,e6,a2,o,e7,hg,c,e8,hq⟩
   exact ⟨v,e,v2,e2,i,e3,hl,a,b,e4,e5,hl2,v3,e6,a2,o,e7,hg,c,e8,hQ _ _ hq⟩
abbrev Tr:=Str × Str × Str
def newsOf (ts : List Tr) : List Str:=ts.map (·.2.2)
def NNAt (mdl : List Str) (ts : List Tr) : Prop:=∀ (i : Nat) (t : Tr),ts[i]? = some t→(t.2.1 ∉ newsOf (ts.take i)→t.2.2 = t.2.1)∧(t.2.1 ∈ newsOf (ts.take i)→∃ k,2 ≤ k∧k ≤ 5010∧t.2.2 = t.2.1 ++ nt k∧t.2.2 ∉ newsOf (ts.take i)∧t.2.2 ∉ mdl∧∀ j,2 ≤ j→j < k→(t.2.1 ++ nt j ∈ newsOf (ts.take i)∨t.2.1 ++ nt j ∈ mdl))
theorem NNAt.snoc {mdl : List Str} {ts : List Tr} {t : Tr} (h : NNAt mdl ts) (h1 : t.2.1 ∉ newsOf ts→t.2.2 = t.2.1) (h2 : t.2.1 ∈ newsOf ts→∃ k,2 ≤ k∧k ≤ 5010∧t.2.2 = t.2.1 ++ nt k∧t.2.2 ∉ newsOf ts∧t.2.2 ∉ mdl∧∀ j,2 ≤ j→j < k→(t.2.1 ++ nt j ∈ newsOf ts∨t.2.1 ++ nt j ∈ mdl)) : NNAt mdl (ts ++ [t]):=fun i t' e=>by
 by_cases hi : i < ts.length
 ·rw [List.getElem?_append_left hi] at e
  rw [List.take_append_of_le_length (Nat.le_of_lt hi)]
  exact h i t' e
 ·rw [List.getElem?_append_right (by omega)] at e
  have h0 : i - ts.length = 0:=by
   have:=(List.getElem?_eq_some_iff.mp e).1
   simp only [List.length_singleton] at this
   omega
  rw [h0] at e
  simp only [List.getElem?_cons_zero,Option.some.injEq] at e
  subst e
  have hi' : i = ts.length:=by omega
  subst hi'
  rw [List.take_left']
  ·exact ⟨h1,h2⟩
  ·rfl
theorem keyed {H : Hp} : ∀ {vs : List V} {kvs : List (List Key × V)} {ks : List (Str × Str)},Paired (KeyAt H) vs kvs→kvs.map (·.1) = ks.map key2→Paired (OwAt H) vs ks
 | _,_,[],.nil,_=>.nil
 | _,_,_ :: _,.nil,h=>by simp at h
 | _,_,[],.cons _ _,h=>by simp at h
 | _,_,k :: ks,.cons (a:=v) (b:=kv) ⟨b,e,hb⟩ hr,h=>by
  simp only [List.map_cons,List.cons.injEq] at h
  refine .cons ⟨b,e,?_⟩ (keyed hr h.2)
  rw [hb,h.1]
  rfl
def TrAt (H : Hp) (v : V) (t : Tr) : Prop:=∃ c,v = .ref c∧H c = some (.tup [.str t.1,.str t.2.1,.str t.2.2])
theorem TrAt.mono {H H' : Hp} (s : Tups H H') {v : V} {t : Tr} (h : TrAt H v t) : TrAt H' v t:=by
 obtain ⟨c,e,h⟩:=h
 exact ⟨c,e,s _ _ h⟩
def spNew : Sp:=fun vs H Q _=>∃ (a : Addr) (ps : List Pt),vs = [.ref a]∧PartsF H a ps∧PsFit ps∧(mkeys (plsOf ps)).Nodup∧(∀ k ∈ mkeys (plsOf ps),k.2.length ≤ 100)∧∀ (p : Addr) (vs : List V) (ts : List Tr) (H' : Hp),Same H H'→H' p = some (.tup vs)→Paired (TrAt H') vs ts→ts.map (fun t=>(t.1,t.2.1)) = mkeys (plsOf ps)→NNAt ((mkeys (plsOf ps)).map (·.2)) ts→Q (.ref p) H'
theorem putK_len (kvs : List (Key × V)) (k : Key) (v : V) : (putK kvs k v).length ≤ kvs.length + 1:=by
 unfold putK
 split
 ·rw [List.length_map]; omega
 ·rw [List.length_append]; simp
theorem ok_new (T : Txt K mg) : L2.Cl P w K mg base 3 "new_names" ["parts"] spNew:=by
 have C_made:=ok_made0 (P:=P) (w:=w) (base:=base) T
 have C_numbered:=ok_numbered (P:=P) (w:=w) (base:=base) T
 refine Cl.of T.d_new_names sc_new_names (fun vs H Q E h=>?_) (fun _ _ _ _ _ _ us hl=>by obtain ⟨a,rfl⟩:=len1 hl; rfl) (fun fa cdv A outer s H vs Q E hr h=>?_)
 ·obtain ⟨a,ps,rfl,_⟩:=h
  rfl
 ·obtain ⟨a,ps,rfl,hpf,hfit,hnd,hlen,q⟩:=h
  have hu:=hu_of hr
  refine ⟨_,(@pss_cons _ _ _ _ _ (@ps_set _ _ (1) _ _ _ _ sc_new_names.nd rfl (Or.inl rfl) (@pe_callTy _ _ _ _ _ _ _ _ _ (@call_listT _ rfl) (by rfl) T.n_list boot_list (@pa_cons _ _ _ _ _ (@pe_fn _ _ _ _ _ _ _ _ _ _ _ C_made hr (by rfl) (@pa_cons _ _ _ _ _ (@pv _ 0 _ _ (by rfl) (by first   | exact Or.inl rfl   | exact Or.inr (Or.inl rfl)   | exact Or.inr (Or.inr rfl)) (by decide) (by decide)) (@pa_nil _) (by rfl)) (by decide) (by decide) (by rfl) (by rfl)) (@pa_nil _) (by rfl)) (by decide) (by decide) (by rfl) (by rfl)) (by rfl) (by first   | exact .inl rfl   | exact .inr rfl   | assumption)) (@pss_cons _ _ _ _ _ (@ps_set _ _ (2) _ _ _ _ sc_new_names.nd rfl (Or.inl rfl) (@pe_dnewK _ _) (by rfl) (by first   | exact .inl rfl   | exact .inr rfl   | assumption)) (@pss_cons _ _ _ _ _ (@ps_for _ _ _ _ _ _ _ _ PassesOwn.never rfl (@pi_list _ _ _ _ (@pv _ 1 _ _ (by rfl) (by first   | exact Or.inl rfl   | exact Or.inr (Or.inl rfl)   | exact Or.inr (Or.inr rfl)) (by decide) (by decide))) (@pg_tup _ _ _ _ _ _ rfl (@pgs_cons _ _ _ _ _ (@pg_name _ _ (3) _ sc_new_names.nd rfl (Or.inl rfl) (by first   | exact .inl rfl   | exact .inr rfl   | assumption)) (@pgs_cons _ _ _ _ _ (@pg_name _ _ (4) _ sc_new_names.nd rfl (Or.inl rfl) (by first   | exact .inl rfl   | exact .inr rfl   | assumption)) (@pgs_nil _) (by rfl)) (by rfl)) (by rfl) (by rfl)) (@pss_one _ _ _ (@ps_dput _ _ _ _ _ _ _ _ _ hu (@pv _ 2 _ _ (by rfl) (by first   | exact Or.inl rfl   | exact Or.inr (Or.inl rfl)   | exact Or.inr (Or.inr rfl)) (by decide) (by decide)) (@pv _ 4 _ _ (by rfl) (by first   | exact Or.inl rfl   | exact Or.inr (Or.inl rfl)   | exact Or.inr (Or.inr rfl)) (by decide) (by decide)) (@pe_bl _ _ _ _) rfl)) (by intro _; rfl)) (@pss_cons _ _ _ _ _ (@ps_set _ _ (5) _ _ _ _ sc_new_names.nd rfl (Or.inl rfl) (@pe_lst _ _ _ _ (@pa_nil _)) (by rfl) (by first   | exact .inl rfl   | exact .inr rfl   | assumption)) (@pss_cons _ _ _ _ _ (@ps_for _ _ _ _ _ _ _ _ PassesOwn.never rfl (@pi_list _ _ _ _ (@pv _ 1 _ _ (by rfl) (by first   | exact Or.inl rfl   | exact Or.inr (Or.inl rfl)   | exact Or.inr (Or.inr rfl)) (by decide) (by decide))) (@pg_tup _ _ _ _ _ _ rfl (@pgs_cons _ _ _ _ _ (@pg_name _ _ (3) _ sc_new_names.nd rfl (Or.inl rfl) (by first   | exact .inl rfl   | exact .inr rfl   | assumption)) (@pgs_cons _ _ _ _ _ (@pg_name _ _ (4) _ sc_new_names.nd rfl (Or.inl rfl) (by first   | exact .inl rfl   | exact .inr rfl   | assumption)) (@pgs_nil _) (by rfl)) (by rfl)) (by rfl) (by rfl)) (@pss_cons _ _ _ _ _ (@ps_set _ _ (6) _ _ _ _ sc_new_names.nd rfl (Or.inl rfl) (@pe_ifExp _ _ _ _ _ _ _ _ (@pt_val _ _ _ (@pe_dget _ _ _ _ _ _ hu (@pv _ 2 _ _ (by rfl) (by first   | exact Or.inl rfl   | exact Or.inr (Or.inl rfl)   | exact Or.inr (Or.inr rfl)) (by decide) (by decide)) (@pv _ 4 _ _ (by rfl) (by first   | exact Or.inl rfl   | exact Or.inr (Or.inl rfl)   | exact Or.inr (Or.inr rfl)) (by decide) (by decide)) (fun _ _=>rfl)) (by intro _; rfl)) (@pe_fn _ _ _ _ _ _ _ _ _ _ _ C_numbered hr (by rfl) (@pa_cons _ _ _ _ _ (@pv _ 4 _ _ (by rfl) (by first   | exact Or.inl rfl   | exact Or.inr (Or.inl rfl)   | exact Or.inr (Or.inr rfl)) (by decide) (by decide)) (@pa_cons _ _ _ _ _ (@pv _ 2 _ _ (by rfl) (by first   | exact Or.inl rfl   | exact Or.inr (Or.inl rfl)   | exact Or.inr (Or.inr rfl)) (by decide) (by decide)) (@pa_nil _) (by rfl)) (by rfl)) (by decide) (by decide) (by rfl) (by rfl)) (@pv _ 4 _ _ (by rfl) (by first   | exact Or.inl rfl   | exact Or.inr (Or.inl rfl)   | exact Or.inr (Or.inr rfl)) (by decide) (by decide))) (by rfl) (by first   | exact .inl rfl   | exact .inr rfl   | assumption)) (@pss_cons _ _ _ _ _ (@ps_dput _ _ _ _ _ _ _ _ _ hu (@pv _ 2 _ _ (by rfl) (by first   | exact Or.inl rfl   | exact Or.inr (Or.inl rfl)   | exact Or.inr (Or.inr rfl)) (by decide) (by decide)) (@pv _ 6 _ _ (by rfl) (by first   | exact Or.inl rfl   | exact Or.inr (Or.inl rfl)   | exact Or.inr (Or.inr rfl)) (by decide) (by decide)) (@pe_bl _ _ _ _) rfl) (@pss_one _ _ _ (@ps_expr _ _ _ _ (@pe_bm _ _ _ _ _ _ _ _ _ _ _ _ PySem.F.plainAttrs_list PySem.F.slot_list_append PySem.F.type_list_append (@mt_append _) (@pv _ 5 _ _ (by rfl) (by first   | exact Or.inl rfl   | exact Or.inr (Or.inl rfl)   | exact Or.inr (Or.inr rfl)) (by decide) (by decide)) (@pa_cons _ _ _ _ _ (@pe_tup _ _ _ _ _ (@pa_cons _ _ _ _ _ (@pv _ 3 _ _ (by rfl) (by first   | exact Or.inl rfl   | exact Or.inr (Or.inl rfl)   | exact Or.inr (Or.inr rfl)) (by decide) (by decide)) (@pa_cons _ _ _ _ _ (@pv _ 4 _ _ (by rfl) (by first   | exact Or.inl rfl   | exact Or.inr (Or.inl rfl)   | exact Or.inr (Or.inr rfl)) (by decide) (by decide)) (@pa_cons _ _ _ _ _ (@pv _ 6 _ _ (by rfl) (by first   | exact Or.inl rfl   | exact Or.inr (Or.inl rfl)   | exact Or.inr (Or.inr rfl)) (by decide) (by decide)) (@pa_nil _) (by rfl)) (by rfl)) (by rfl))) (@pa_nil _) (by rfl)) (by rfl) (by rfl) (by rfl) (by rfl) (by rfl)) (by rfl))))) (by intro _; rfl)) (@pss_one _ _ _ (@ps_ret _ _ _ _ (@pe_callTy _ _ _ _ _ _ _ _ _ (@call_tuple_of _) (by rfl) T.n_tuple boot_tuple (@pa_cons _ _ _ _ _ (@pv _ 5 _ _ (by rfl) (by first   | exact Or.inl rfl   | exact Or.inr (Or.inl rfl)   | exact Or.inr (Or.inr rfl)) (by decide) (by decide)) (@pa_nil _) (by rfl)) (by decide) (by decide) (by rfl) (by rfl))))))))),?_⟩
  refine ⟨_,rfl,a,ps,rfl,hpf,hfit,hnd,fun d kvs H1 s1 hd hk=>?_⟩
  refine ⟨d,kvs,rfl,.inl hd,fun l vs gl hvs=>?_⟩
  have how:=keyed hvs hk
  have hks : (mkeys (plsOf ps)).length ≤ 960:=by
   have h0 : (mkeys (plsOf ps)).length ≤ (plsOf ps).length:=List.length_filterMap_le _ _
   have h1:=plsOf_len hfit.rows
   have:=hfit.hi
   omega
  generalize mkeys (plsOf ps) = ks at how hks hlen q hnd
  have hvl : vs.length = ks.length:=Paired.length how
  have s2 : Same H1 (upd H1 l (.lst vs)):=(Same.refl H1).new gl
  have hl2 : upd H1 l (.lst vs) l = some (.lst vs):=upd_same
  have how2 : Paired (OwAt (upd H1 l (.lst vs))) vs ks:=Paired.mapP how fun _ _ ⟨b,e,hb⟩=>⟨b,e,s2 _ _ hb⟩
  have s02:=s1.trans s2
  generalize upd H1 l (.lst vs) = H2 at s2 hl2 how2 s02 ⊢
  intro u gu
  have s3 : Same H2 (upd H2 u (.dK [])):=(Same.refl H2).new gu
  refine ⟨_,rfl,l,rfl,⟨_,SqL.of (s3 _ _ hl2)⟩,for_list (K:=K) (a:=l) (xs:=vs) (fun i σ H3=>∃ (kv : List (Key × V)) (v3 v4 : Option V),σ = [some (.ref a),some (.ref l),some (.ref u),v3,v4,none,none]∧Same H2 H3∧H3 u = some (.dK kv)∧kv.length ≤ i∧∀ x,valV kv (Sum.inr x) = if x ∈ (ks.take i).map (·.2) then some (.bl false) else none)
   ⟨[],none,none,rfl,s3,upd_same,by simp,fun x=>by simp [valV_nil]⟩ (fun i σ H3 _ ⟨_,_,_,_,s4,_⟩=>SqL.of (s4 _ _ hl2)) ?_ ?_⟩
  ·rintro i y σ H3 hy ⟨kv,v3,v4,rfl,s4,hu4,hkl,hval⟩
   obtain ⟨k,hki,b,ey,hb⟩:=Paired.get? how2 hy
   subst ey
   have hi : i < ks.length:=(List.getElem?_eq_some_iff.mp hki).1
   refine ⟨b,_,rfl,SqT.of (s4 _ _ hb),rfl,_,_,rfl,_,_,rfl,rfl,?_⟩
   refine ⟨_,rfl,_,rfl,u,_,rfl,DPut.k (k:=Sum.inr k.2) hu4 (small1000 (by omega)),?_⟩
   refine ⟨_,_,_,rfl,s4.put gu,upd_same,?_,fun x=>?_⟩
   ·have:=putK_len kv (Sum.inr k.2) (.bl false)
    omega
   ·rw [valV_put,hval x,take_succ_get hki,List.map_append]
    by_cases hx : x = k.2
    ·subst hx
     rw [if_pos rfl,if_pos (by simp)]
    ·rw [if_neg (fun z=>hx (Sum.inr.inj z))]
     by_cases hm : x ∈ (ks.take i).map (·.2)
     ·rw [if_pos hm,if_pos (List.mem_append_left _ hm)]
     ·rw [if_neg hm,if_neg]
      intro z
      rcases List.mem_append.mp z with z | z
      ·exact hm z
      ·exact hx (by simpa using z)
  ·rintro σ H3 ⟨kv,v3,v4,rfl,s4,hu4,hkl,hval⟩
   rw [hvl,List.take_length] at hval
   refine ⟨leS0,fun f gf=>?_⟩
   have s5 : Same H2 (upd H3 f (.lst [])):=s4.new gf
   have hfu : u ≠ f:=fun z=>by rw [z,gf] at hu4; cases hu4
   have gf2 : H2 f = none:=s4.free gf
   refine ⟨_,rfl,l,rfl,⟨_,SqL.of (s5 _ _ hl2)⟩,for_list (K:=K) (a:=l) (xs:=vs) (fun i σ H4=>∃ (kv : List (Key × V)) (ts : List Tr) (us : List V) (v3 v4 v6 : Option V),σ = [some (.ref a),some (.ref l),some (.ref u),v3,v4,some (.ref f),v6]∧Same H2 H4∧H4 u = some (.dK kv)∧kv.length ≤ ks.length + i∧(∀ x,valV kv (Sum.inr x) = if x ∈ newsOf ts then some (.bl true) else if x ∈ ks.map (·.2) then some (.bl false) else none)∧H4 f = some (.lst us)∧Paired (TrAt H4) us ts∧ts.map (fun t=>(t.1,t.2.1)) = ks.take i∧NNAt (ks.map (·.2)) ts)
    ⟨kv,[],[],_,_,none,rfl,s5,upd_keep hu4 gf,by omega,fun x=>by rw [hval x]; simp [newsOf],upd_same,.nil,rfl,fun i t e=>by simp at e⟩ (fun i σ H4 _ ⟨_,_,_,_,_,_,_,s6,_⟩=>SqL.of (s6 _ _ hl2)) ?_ ?_⟩
   ·rintro i y σ H4 hy ⟨kv4,ts,us,w3,w4,w6,rfl,s6,hu6,hkl6,hval6,hf6,hus,hts,hnn⟩
    obtain ⟨k,hki,b,ey,hb⟩:=Paired.get? how2 hy
    subst ey
    have hi : i < ks.length:=(List.getElem?_eq_some_iff.mp hki).1
    have hkm:=List.mem_of_getElem? hki
    have hkmd : k.2 ∈ ks.map (·.2):=List.mem_map_of_mem (f:=(·.2)) hkm
    have htl : ts.length = i:=by
     have:=congrArg List.length hts
     rw [List.length_map,List.length_take] at this
     omega
    have hul : us.length = i:=by rw [Paired.length hus,htl]
    refine ⟨b,_,rfl,SqT.of (s6 _ _ hb),rfl,_,_,rfl,_,_,rfl,rfl,?_⟩
    have hget:=DGet.k (k:=Sum.inr k.2) hu6
    rw [hval6 k.2] at hget
    by_cases hm : k.2 ∈ newsOf ts
    ·rw [if_pos hm] at hget
     refine ⟨_,rfl,_,rfl,u,_,rfl,hget,_,rfl,iteT ?_⟩
     refine ⟨_,rfl,_,rfl,k.2,u,kv4,rfl,hu6,by omega,hlen k hkm,fun kk h2k h5k hnone hall=>?_⟩
     have c1 : k.2 ∉ newsOf ts→k.2 ++ nt kk = k.2:=fun z=>absurd hm z
     have c2 : k.2 ∈ newsOf ts→∃ k',2 ≤ k'∧k' ≤ 5010∧k.2 ++ nt kk = k.2 ++ nt k'∧k.2 ++ nt kk ∉ newsOf ts∧k.2 ++ nt kk ∉ ks.map (·.2)∧∀ j,2 ≤ j→j < k'→(k.2 ++ nt j ∈ newsOf ts∨k.2 ++ nt j ∈ ks.map (·.2)):=fun _=>by
      rw [hval6] at hnone
      refine ⟨kk,h2k,h5k,rfl,fun z=>?_,fun z=>?_,fun j hj1 hj2=>?_⟩
      ·rw [if_pos z] at hnone; cases hnone
      ·by_cases y : k.2 ++ nt kk ∈ newsOf ts
       ·rw [if_pos y] at hnone; cases hnone
       ·rw [if_neg y,if_pos z] at hnone; cases hnone
      ·have h3:=hall j hj1 hj2
       rw [hval6] at h3
       by_cases y : k.2 ++ nt j ∈ newsOf ts
       ·exact .inl y
       ·rw [if_neg y] at h3
        by_cases z : k.2 ++ nt j ∈ ks.map (·.2)
        ·exact .inr z
        ·rw [if_neg z] at h3; cases h3
     refine ⟨_,rfl,_,rfl,u,_,rfl,DPut.k (k:=Sum.inr (k.2 ++ nt kk)) hu6 ((by have : sizeLine = 16777216:=sizeLine_eq; omega)),?_⟩
     have s7 : Same H2 (upd H4 u (.dK (putK kv4 (Sum.inr (k.2 ++ nt kk)) (.bl true)))):=s6.put gu
     have T7 : Tups H4 (upd H4 u (.dK (putK kv4 (Sum.inr (k.2 ++ nt kk)) (.bl true)))):=Tups.dK hu6
     have hf7 : upd H4 u (.dK (putK kv4 (Sum.inr (k.2 ++ nt kk)) (.bl true))) f = some (.lst us):=by rw [upd_ne hfu.symm]; exact hf6
     have hu7 : upd H4 u (.dK (putK kv4 (Sum.inr (k.2 ++ nt kk)) (.bl true))) u = some (.dK (putK kv4 (Sum.inr (k.2 ++ nt kk)) (.bl true))):=upd_same
     generalize upd H4 u (.dK (putK kv4 (Sum.inr (k.2 ++ nt kk)) (.bl true))) = H7 at s7 T7 hf7 hu7 ⊢
     refine ⟨_,rfl,.inl ⟨rfl,_,SqL.of hf7⟩,_,rfl,_,rfl,_,rfl,leS3,fun c gc=>?_⟩
     have s8 : Same H7 (upd H7 c (.tup [.str k.1,.str k.2,.str (k.2 ++ nt kk)])):=(Same.refl H7).new gc
     refine ⟨f,_,_,rfl,rfl,s8 _ _ hf7,small1000 (by omega),?_⟩
     have T9:=s8.tups.trans (Tups.lst (ys:=us ++ [.ref c]) (s8 _ _ hf7))
     have hcf : c ≠ f:=fun z=>by rw [z,hf7] at gc; cases gc
     refine ⟨putK kv4 (Sum.inr (k.2 ++ nt kk)) (.bl true),ts ++ [(k.1,k.2,(k.2 ++ nt kk))],us ++ [.ref c],_,_,_,rfl,(s7.trans s8).put gf2,by rw [upd_ne hfu]; exact s8 _ _ hu7,?_,fun x=>?_,upd_same,Paired.snoc (Paired.mapP hus fun _ _ z=>z.mono (T7.trans T9)) ⟨c,rfl,by rw [upd_ne hcf,upd_same]⟩,?_,hnn.snoc c1 c2⟩
     ·have:=putK_len kv4 (Sum.inr (k.2 ++ nt kk)) (.bl true)
      omega
     ·rw [valV_put,hval6 x]
      have e : newsOf (ts ++ [(k.1,k.2,(k.2 ++ nt kk))]) = newsOf ts ++ [(k.2 ++ nt kk)]:=by unfold newsOf; rw [List.map_append]; rfl
      rw [e]
      by_cases hx : x = (k.2 ++ nt kk)
      ·rw [if_pos (by rw [hx]),if_pos (by rw [hx]; simp)]
      ·rw [if_neg (fun z=>hx (Sum.inr.inj z))]
       by_cases hm2 : x ∈ newsOf ts
       ·rw [if_pos hm2,if_pos (List.mem_append_left _ hm2)]
       ·rw [if_neg hm2,if_neg (c:=x ∈ newsOf ts ++ [(k.2 ++ nt kk)])]
        intro z
        rcases List.mem_append.mp z with z | z
        ·exact hm2 z
        ·exact hx (List.mem_singleton.mp z)
     ·rw [List.map_append,hts,take_succ_get hki]
      rfl
    ·rw [if_neg hm,if_pos hkmd] at hget
     refine ⟨_,rfl,_,rfl,u,_,rfl,hget,_,rfl,iteF ?_⟩
     refine ⟨_,rfl,?_⟩
     have c1 : k.2 ∉ newsOf ts→k.2 = k.2:=fun _=>rfl
     have c2 : k.2 ∈ newsOf ts→∃ k',2 ≤ k'∧k' ≤ 5010∧k.2 = k.2 ++ nt k'∧k.2 ∉ newsOf ts∧k.2 ∉ ks.map (·.2)∧∀ j,2 ≤ j→j < k'→(k.2 ++ nt j ∈ newsOf ts∨k.2 ++ nt j ∈ ks.map (·.2)):=fun z=>absurd z hm
     refine ⟨_,rfl,_,rfl,u,_,rfl,DPut.k (k:=Sum.inr k.2) hu6 ((by have : sizeLine = 16777216:=sizeLine_eq; omega)),?_⟩
     have s7 : Same H2 (upd H4 u (.dK (putK kv4 (Sum.inr k.2) (.bl true)))):=s6.put gu
     have T7 : Tups H4 (upd H4 u (.dK (putK kv4 (Sum.inr k.2) (.bl true)))):=Tups.dK hu6
     have hf7 : upd H4 u (.dK (putK kv4 (Sum.inr k.2) (.bl true))) f = some (.lst us):=by rw [upd_ne hfu.symm]; exact hf6
     have hu7 : upd H4 u (.dK (putK kv4 (Sum.inr k.2) (.bl true))) u = some (.dK (putK kv4 (Sum.inr k.2) (.bl true))):=upd_same
     generalize upd H4 u (.dK (putK kv4 (Sum.inr k.2) (.bl true))) = H7 at s7 T7 hf7 hu7 ⊢
     refine ⟨_,rfl,.inl ⟨rfl,_,SqL.of hf7⟩,_,rfl,_,rfl,_,rfl,leS3,fun c gc=>?_⟩
     have s8 : Same H7 (upd H7 c (.tup [.str k.1,.str k.2,.str k.2])):=(Same.refl H7).new gc
     refine ⟨f,_,_,rfl,rfl,s8 _ _ hf7,small1000 (by omega),?_⟩
     have T9:=s8.tups.trans (Tups.lst (ys:=us ++ [.ref c]) (s8 _ _ hf7))
     have hcf : c ≠ f:=fun z=>by rw [z,hf7] at gc; cases gc
     refine ⟨putK kv4 (Sum.inr k.2) (.bl true),ts ++ [(k.1,k.2,k.2)],us ++ [.ref c],_,_,_,rfl,(s7.trans s8).put gf2,by rw [upd_ne hfu]; exact s8 _ _ hu7,?_,fun x=>?_,upd_same,Paired.snoc (Paired.mapP hus fun _ _ z=>z.mono (T7.trans T9)) ⟨c,rfl,by rw [upd_ne hcf,upd_same]⟩,?_,hnn.snoc c1 c2⟩
     ·have:=putK_len kv4 (Sum.inr k.2) (.bl true)
      omega
     ·rw [valV_put,hval6 x]
      have e : newsOf (ts ++ [(k.1,k.2,k.2)]) = newsOf ts ++ [k.2]:=by unfold newsOf; rw [List.map_append]; rfl
      rw [e]
      by_cases hx : x = k.2
      ·rw [if_pos (by rw [hx]),if_pos (by rw [hx]; simp)]
      ·rw [if_neg (fun z=>hx (Sum.inr.inj z))]
       by_cases hm2 : x ∈ newsOf ts
       ·rw [if_pos hm2,if_pos (List.mem_append_left _ hm2)]
       ·rw [if_neg hm2,if_neg (c:=x ∈ newsOf ts ++ [k.2])]
        intro z
        rcases List.mem_append.mp z with z | z
        ·exact hm2 z
        ·exact hx (List.mem_singleton.mp z)
     ·rw [List.map_append,hts,take_succ_get hki]
      rfl
   ·rintro σ H4 ⟨kv4,ts,us,w3,w4,w6,rfl,s6,hu6,hkl6,hval6,hf6,hus,hts,hnn⟩
    rw [hvl,List.take_length] at hts
    refine ⟨_,rfl,f,_,rfl,.inl ⟨SqL.of hf6,fun p gp=>?_⟩⟩
    have s7 : Same H4 (upd H4 p (.tup us)):=(Same.refl H4).new gp
    exact q p us ts _ ((s02.trans s6).trans s7) upd_same (Paired.mapP hus fun _ _ z=>z.mono s7.tups) hts hnn
def ownP : Pr→Option Str
 | .own _ n _=>some n
 | _=>none
theorem fin_own {nms owns : List Str} {pr : Pr} {rw : Rw} (h : FinR nms owns pr rw) : ownOf rw = ownP pr:=by
 cases pr with
 | own k n xs =>
  rcases h with ⟨_,e⟩ | ⟨_,ts,e,_⟩
  ·rw [e]; rfl
  ·rw [e]; rfl
 | bring j ps xs=>obtain ⟨nm,_,e⟩:=h; rw [e]; rfl
 | give o g xs=>rw [show rw = .give o g from h]; rfl
 | ask j xs=>obtain ⟨nm,w,_,e,_⟩:=h; rw [e]; rfl
 | sum k xs =>
  rcases h with ⟨_,ts,e,_⟩ | ⟨_,ts,w,e,_⟩
  ·rw [e]; rfl
  ·rw [e]; rfl
theorem fin_owns {nms owns : List Str} : ∀ {rows : List Pr} {rws : List Rw},Paired (FinR nms owns) rows rws→rws.filterMap ownOf = rows.filterMap ownP
 | _,_,.nil=>rfl
 | _,_,.cons (a:=p) (b:=r) h t=>by
  have ih:=fin_owns t
  rw [List.filterMap_cons,List.filterMap_cons,fin_own h,ih]
theorem own_sub : ∀ rows : List Pr,(rows.filterMap ownP).Sublist (rows.flatMap madeP)
 | []=>by simp
 | p :: r=>by
  have ih:=own_sub r
  rw [List.flatMap_cons]
  cases p with
  | own k n xs =>
   show (n :: r.filterMap ownP).Sublist ([n] ++ r.flatMap madeP)
   exact ih.cons_cons n
  | bring j ps xs=>exact ih.trans (List.sublist_append_right _ _)
  | give o g xs=>exact ih
  | ask j xs=>exact ih
  | sum k xs=>exact ih
theorem drawnN_nodup {b sh : Int} (hb : 0 ≤ b) {n : Nat} (hn : n ≤ 24) : (drawnN b sh n).Nodup:=by
 unfold drawnN
 rw [List.nodup_iff_pairwise_ne,List.pairwise_map]
 refine List.Pairwise.imp_of_mem (fun {i j} hi hj hne h=>hne ?_) List.nodup_range
 have h1:=List.mem_range.mp hi
 have h2:=List.mem_range.mp hj
 have:=nameM_inj hb (by omega) (by omega) (by omega) (by omega) h
 omega
theorem rowsPl_keys (n : Str) (rs : List Rw) : mkeys (rowsPl n rs) = (rs.filterMap ownOf).map fun o=>(n,o):=by
 have : ∀ (rs : List Rw) (k : Nat),((rs.zipIdx k).map fun x=>((n,x.2,x.1) : Pl)).filterMap (fun x=>(ownOf x.2.2).map fun o=>(x.1,o)) = (rs.filterMap ownOf).map fun o=>(n,o):=by
  intro rs
  induction rs with
  | nil=>intro k; rfl
  | cons r t ih =>
   intro k
   rw [List.zipIdx_cons,List.map_cons,List.filterMap_cons,List.filterMap_cons,ih (k + 1)]
   cases ownOf r with
   | none=>rfl
   | some o=>rfl
 exact this rs 0
theorem plsOf_keys (ps : List Pt) : mkeys (plsOf ps) = ps.flatMap fun pt=>(pt.2.filterMap ownOf).map fun o=>(pt.1,o):=by
 induction ps with
 | nil=>rfl
 | cons pt r ih =>
  have e : plsOf (pt :: r) = rowsPl pt.1 pt.2 ++ plsOf r:=rfl
  rw [List.flatMap_cons,← ih,← rowsPl_keys,e]
  unfold mkeys
  rw [List.filterMap_append]
theorem keys_nodup : ∀ {ps : List Pt},(ps.map (·.1)).Nodup→(∀ pt ∈ ps,(pt.2.filterMap ownOf).Nodup)→(ps.flatMap fun pt=>(pt.2.filterMap ownOf).map fun o=>(pt.1,o)).Nodup
 | [],_,_=>by simp
 | pt :: r,hn,ho=>by
  rw [List.map_cons,List.nodup_cons] at hn
  rw [List.flatMap_cons]
  refine List.nodup_append.mpr ⟨?_,keys_nodup hn.2 fun p hp=>ho p (List.mem_cons_of_mem _ hp),fun x hx y hy z=>?_⟩
  ·have h1:=ho pt List.mem_cons_self
   rw [List.nodup_iff_pairwise_ne] at h1 ⊢
   rw [List.pairwise_map]
   exact h1.imp fun hne z=>hne (Prod.mk.inj z).2
  ·obtain ⟨o,_,e1⟩:=List.mem_map.mp hx
   obtain ⟨p,hp,hy2⟩:=List.mem_flatMap.mp hy
   obtain ⟨o2,_,e2⟩:=List.mem_map.mp hy2
   rw [← e1,← e2] at z
   have : pt.1 = p.1:=(Prod.mk.inj z).1
   exact hn.1 (by rw [this]; exact List.mem_map_of_mem (f:=(·.1)) hp)
theorem DrawnP.keys {hs : List Pp} {b0 b1 b2 : Int} {ps : List Pt} (d : DrawnP hs b0 b1 b2 ps) : (mkeys (plsOf ps)).Nodup∧∀ k ∈ mkeys (plsOf ps),k.2.length ≤ 100:=by
 have part : ∀ pt ∈ ps,(pt.2.filterMap ownOf).Nodup∧∀ o ∈ pt.2.filterMap ownOf,o.length ≤ 100:=fun pt hpt=>by
  obtain ⟨i,hi⟩:=List.getElem?_of_mem hpt
  obtain ⟨pp,_,ok,_,h2⟩:=d.at hi
  obtain ⟨n,hn,hn23⟩:=ok.n
  rw [fin_owns h2]
  have hsub:=own_sub pp.rows
  have hmn : (pp.rows.flatMap madeP).Nodup:=ok.md.nodup_iff.mpr (by rw [hn]; exact drawnN_nodup d.r0.1 (by omega))
  refine ⟨hsub.nodup hmn,fun o ho=>?_⟩
  have h3:=ok.md.mem_iff.mp (hsub.subset ho)
  rw [hn] at h3
  have h4:=(drawnN_ok d.r0.1 o h3).word.len
  omega
 rw [plsOf_keys]
 refine ⟨keys_nodup d.nodup fun pt hpt=>(part pt hpt).1,fun k hk=>?_⟩
 obtain ⟨pt,hpt,h1⟩:=List.mem_flatMap.mp hk
 obtain ⟨o,ho,e⟩:=List.mem_map.mp h1
 rw [← e]
 exact (part pt hpt).2 o ho
def brL (rs : List Rw) : List Str:=rs.flatMap fun r=>(pairsOf r).map (·.2.2)
def ownL (rs : List Rw) : List Str:=rs.filterMap ownOf
theorem fin_pairs {nms owns : List Str} {pr : Pr} {rw : Rw} (h : FinR nms owns pr rw) : (ownL [rw] ++ brL [rw]) = madeP pr∧(rw :: []).filterMap giveOf = ([rw]).filterMap giveOf∧((giveOf rw).map (·.2)).toList = giveP pr:=by
 cases pr with
 | own k n xs =>
  rcases h with ⟨_,e⟩ | ⟨_,ts,e,_⟩ <;> subst e <;> exact ⟨rfl,rfl,rfl⟩
 | bring j ps xs =>
  obtain ⟨nm,_,e⟩:=h
  subst e
  refine ⟨?_,rfl,rfl⟩
  show [] ++ (((ps.map fun q=>((nm,q) : Str × Str × Str)).map (·.2.2)) ++ []) = ps.map (·.2)
  rw [List.nil_append,List.append_nil,List.map_map]
  rfl
 | give o g xs=>rw [show rw = .give o g from h]; exact ⟨rfl,rfl,rfl⟩
 | ask j xs=>obtain ⟨nm,w,_,e,_⟩:=h; subst e; exact ⟨rfl,rfl,rfl⟩
 | sum k xs =>
  rcases h with ⟨_,ts,e,_⟩ | ⟨_,ts,w,e,_⟩ <;> subst e <;> exact ⟨rfl,rfl,rfl⟩
theorem fin_made {nms owns : List Str} : ∀ {rows : List Pr} {rws : List Rw},Paired (FinR nms owns) rows rws→(ownL rws ++ brL rws).Perm (rows.flatMap madeP)
 | _,_,.nil=>List.Perm.refl _
 | _,_,.cons (a:=p) (b:=r) (l₁:=ps) (l₂:=rs) h t=>by
  have ih:=fin_made t
  have h1:=(fin_pairs h).1
  have e1 : ownL (r :: rs) = ownL [r] ++ ownL rs:=by unfold ownL; rw [← List.filterMap_append]; rfl
  have e2 : brL (r :: rs) = brL [r] ++ brL rs:=by unfold brL; rw [← List.flatMap_append]; rfl
  rw [List.flatMap_cons,← h1,e1,e2]
  refine List.Perm.trans ?_ (List.Perm.append_left _ ih)
  rw [List.append_assoc,List.append_assoc]
  refine List.Perm.append_left _ ?_
  exact List.perm_append_comm_assoc _ _ _
theorem fin_gives {nms owns : List Str} : ∀ {rows : List Pr} {rws : List Rw},Paired (FinR nms owns) rows rws→(rws.filterMap giveOf).map (·.2) = rows.flatMap giveP
 | _,_,.nil=>rfl
 | _,_,.cons (a:=p) (b:=r) h t=>by
  have ih:=fin_gives t
  have h1:=(fin_pairs h).2.2
  rw [List.flatMap_cons,← ih,← h1,List.filterMap_cons]
  cases giveOf r with
  | none=>rfl
  | some q=>rfl
theorem mem_rowsPl {n : Str} {rs : List Rw} {x : Pl} : x ∈ rowsPl n rs↔x.1 = n∧rs[x.2.1]? = some x.2.2:=by
 unfold rowsPl
 rw [List.mem_map]
 constructor
 ·rintro ⟨y,hy,e⟩
  have h1:=List.mem_zipIdx_iff_getElem?.mp hy
  rw [← e]
  exact ⟨rfl,h1⟩
 ·rintro ⟨e1,e2⟩
  exact ⟨(x.2.2,x.2.1),List.mem_zipIdx_iff_getElem?.mpr e2,by rw [← e1]⟩
theorem mem_plsOf {ps : List Pt} {x : Pl} : x ∈ plsOf ps↔∃ rs,(x.1,rs) ∈ ps∧rs[x.2.1]? = some x.2.2:=by
 unfold plsOf
 rw [List.mem_flatMap]
 constructor
 ·rintro ⟨pt,h1,h2⟩
  obtain ⟨e1,e2⟩:=mem_rowsPl.mp h2
  exact ⟨pt.2,by rw [e1]; exact h1,e2⟩
 ·rintro ⟨rs,h1,h2⟩
  exact ⟨_,h1,mem_rowsPl.mpr ⟨rfl,h2⟩⟩
theorem by_part {α : Type} (f : Rw→List α) (ps : List Pt) : ((plsOf ps).flatMap fun x=>(f x.2.2).map fun a=>(x.1,a)) = ps.flatMap fun pt=>(pt.2.flatMap f).map fun a=>(pt.1,a):=by
 induction ps with
 | nil=>rfl
 | cons pt r ih =>
  have e : plsOf (pt :: r) = rowsPl pt.1 pt.2 ++ plsOf r:=rfl
  rw [e,List.flatMap_append,ih,List.flatMap_cons]
  congr 1
  have : ∀ (rs : List Rw) (k : Nat),(((rs.zipIdx k).map fun x=>((pt.1,x.2,x.1) : Pl)).flatMap fun x=>(f x.2.2).map fun a=>(x.1,a)) = (rs.flatMap f).map fun a=>(pt.1,a):=by
   intro rs
   induction rs with
   | nil=>intro k; rfl
   | cons r t ih=>intro k; rw [List.zipIdx_cons,List.map_cons,List.flatMap_cons,List.flatMap_cons,ih (k + 1),List.map_append]
  exact this pt.2 0
theorem parts_nodup {α : Type} {f : Pt→List α} : ∀ {ps : List Pt},(ps.map (·.1)).Nodup→(∀ pt ∈ ps,(f pt).Nodup)→(ps.flatMap fun pt=>(f pt).map fun a=>(pt.1,a)).Nodup
 | [],_,_=>by simp
 | pt :: r,hn,ho=>by
  rw [List.map_cons,List.nodup_cons] at hn
  rw [List.flatMap_cons]
  refine List.nodup_append.mpr ⟨?_,parts_nodup hn.2 fun p hp=>ho p (List.mem_cons_of_mem _ hp),fun x hx y hy z=>?_⟩
  ·have h1:=ho pt List.mem_cons_self
   rw [List.nodup_iff_pairwise_ne] at h1 ⊢
   rw [List.pairwise_map]
   exact h1.imp fun hne z=>hne (Prod.mk.inj z).2
  ·obtain ⟨o,_,e1⟩:=List.mem_map.mp hx
   obtain ⟨p,hp,hy2⟩:=List.mem_flatMap.mp hy
   obtain ⟨o2,_,e2⟩:=List.mem_map.mp hy2
   rw [← e1,← e2] at z
   have : pt.1 = p.1:=(Prod.mk.inj z).1
   exact hn.1 (by rw [this]; exact List.mem_map_of_mem (f:=(·.1)) hp)
theorem mls_by (ps : List Pt) : (mlsOf (plsOf ps)).map (·.1) = ps.flatMap fun pt=>(ownL pt.2).map fun a=>(pt.1,a):=by
 have h:=by_part (fun r=>(ownOf r).toList) ps
 have e1 : ∀ rs : List Rw,rs.flatMap (fun r=>(ownOf r).toList) = ownL rs:=fun rs=>by
  unfold ownL
  induction rs with
  | nil=>rfl
  | cons r t ih =>
   rw [List.flatMap_cons,List.filterMap_cons,ih]
   cases ownOf r <;> rfl
 simp only [e1] at h
 rw [← h]
 unfold mlsOf
 induction plsOf ps with
 | nil=>rfl
 | cons x t ih =>
  rw [List.filterMap_cons,List.flatMap_cons,← ih]
  cases ownOf x.2.2 <;> rfl
theorem bls_by (ps : List Pt) : (blsOf (plsOf ps)).map (·.1) = ps.flatMap fun pt=>(brL pt.2).map fun a=>(pt.1,a):=by
 have h:=by_part (fun r=>(pairsOf r).map (·.2.2)) ps
 unfold brL
 rw [← h]
 unfold blsOf
 induction plsOf ps with
 | nil=>rfl
 | cons x t ih =>
  rw [List.flatMap_cons,List.flatMap_cons,List.map_append,ih,List.map_map,List.map_map]
  rfl
theorem gls_by (ps : List Pt) : (glsOf (plsOf ps)).map (·.1) = ps.flatMap fun pt=>((pt.2.filterMap giveOf).map (·.2)).map fun a=>(pt.1,a):=by
 have h:=by_part (fun r=>((giveOf r).map (·.2)).toList) ps
 have e1 : ∀ rs : List Rw,rs.flatMap (fun r=>((giveOf r).map (·.2)).toList) = (rs.filterMap giveOf).map (·.2):=fun rs=>by
  induction rs with
  | nil=>rfl
  | cons r t ih =>
   rw [List.flatMap_cons,List.filterMap_cons,ih]
   cases giveOf r <;> rfl
 simp only [e1] at h
 rw [← h]
 unfold glsOf
 induction plsOf ps with
 | nil=>rfl
 | cons x t ih =>
  rw [List.filterMap_cons,List.flatMap_cons,← ih]
  cases giveOf x.2.2 <;> rfl
theorem DrawnP.net {hs : List Pp} {b0 b1 b2 : Int} {ps : List Pt} (d : DrawnP hs b0 b1 b2 ps) : NetOk (plsOf ps):=by
 have hnd:=d.nodup
 have hnm:=d.names
 have part : ∀ {i : Nat} {pt : Pt},ps[i]? = some pt→∃ pp,hs[i]? = some pp∧PpOk b0 b1 hs i pp∧pt.1 = nameM b2 (i : Int)∧Paired (FinR (nmsOf b2 hs.length) pp.owns) pp.rows pt.2:=fun e=>d.at e
 have own : ∀ {i : Nat} {pt : Pt},ps[i]? = some pt→(ownL pt.2 ++ brL pt.2).Nodup:=fun {i pt} e=>by
  obtain ⟨pp,_,ok,_,hf⟩:=part e
  obtain ⟨n,hn,hn23⟩:=ok.n
  exact ((fin_made hf).trans ok.md).nodup_iff.mpr (by rw [hn]; exact drawnN_nodup0 d.r0.1 (by omega))
 have idx : ∀ {i j : Nat} {n : Str} {rs rs' : List Rw},ps[i]? = some (n,rs)→ps[j]? = some (n,rs')→i = j:=fun {i j n rs rs'} e1 e2=>by
  have h1 : (ps.map (·.1))[i]? = some n:=by rw [List.getElem?_map,e1]; rfl
  have h2 : (ps.map (·.1))[j]? = some n:=by rw [List.getElem?_map,e2]; rfl
  have hi:=(List.getElem?_eq_some_iff.mp h1).1
  exact (List.getElem?_inj hi hnd).mp (h1.trans h2.symm)
 have atNm : ∀ {j : Nat} {m : Str},(nmsOf b2 hs.length)[j]? = some m→∃ rs,ps[j]? = some (m,rs):=fun {j m} e=>by
  rw [← hnm,List.getElem?_map] at e
  cases e2 : ps[j]? with
  | none=>rw [e2] at e; cases e
  | some pt=>rw [e2] at e; exact ⟨pt.2,by rw [← (Option.some.inj e)]⟩
 have brow : ∀ {x : Kk × Kk},x ∈ blsOf (plsOf ps)→∃ (i j : Nat) (pp : Pp) (prs : List (Str × Str)) (xs : List Int) (q : Str × Str) (rs rs' : List Rw),ps[i]? = some (x.1.1,rs)∧ps[j]? = some (x.2.1,rs')∧hs[i]? = some pp∧Pr.bring j prs xs ∈ pp.rows∧q ∈ prs∧q.2 = x.1.2∧q.1 = x.2.2∧PrOk hs i (.bring j prs xs):=fun {x} hx=>by
  unfold blsOf at hx
  obtain ⟨y,hy,h1⟩:=List.mem_flatMap.mp hx
  obtain ⟨mq,hmq,e⟩:=List.mem_map.mp h1
  obtain ⟨rs,hrs,hrw⟩:=mem_plsOf.mp hy
  obtain ⟨i,hi⟩:=List.getElem?_of_mem hrs
  obtain ⟨pp,hpp,ok,_,hf⟩:=part hi
  obtain ⟨pr,hpr,hfr⟩:=Paired.get?' hf hrw
  have hprm:=List.mem_of_getElem? hpr
  cases pr with
  | bring j prs xs =>
   obtain ⟨nm,hnmj,erw⟩:=hfr
   rw [erw] at hmq
   obtain ⟨q,hq,eq⟩:=List.mem_map.mp hmq
   obtain ⟨rs',hj⟩:=atNm hnmj
   rw [← e,← eq]
   exact ⟨i,j,pp,prs,xs,q,rs,rs',hi,hj,hpp,hprm,hq,rfl,rfl,ok.ok _ hprm⟩
  | own k n xs =>
   rcases hfr with ⟨_,erw⟩ | ⟨_,ts,erw,_⟩ <;> rw [erw] at hmq <;> simp [pairsOf] at hmq
  | give o g xs=>rw [show y.2.2 = .give o g from hfr] at hmq; simp [pairsOf] at hmq
  | ask j xs=>obtain ⟨nm,w,_,erw,_⟩:=hfr; rw [erw] at hmq; simp [pairsOf] at hmq
  | sum k xs =>
   rcases hfr with ⟨_,ts,erw,_⟩ | ⟨_,ts,w,erw,_⟩ <;> rw [erw] at hmq <;> simp [pairsOf] at hmq
 have giv : ∀ {j : Nat} {m g o : Str} {rs : List Rw},ps[j]? = some (m,rs)→Giv hs j g o→((m,g),o) ∈ glsOf (plsOf ps):=fun {j m g o rs} e hg=>by
  obtain ⟨pq,xs,ej,hm⟩:=hg
  obtain ⟨pp,hpp,_,_,hf⟩:=part e
  rw [ej] at hpp
  cases hpp
  obtain ⟨k,hk⟩:=List.getElem?_of_mem hm
  obtain ⟨rw,hrw,hfr⟩:=Paired.get? hf hk
  have erw : rw = .give o g:=hfr
  unfold glsOf
  refine List.mem_filterMap.mpr ⟨(m,k,rw),mem_plsOf.mpr ⟨rs,List.mem_of_getElem? e,hrw⟩,?_⟩
  rw [erw]
  rfl
 have hgk : ((glsOf (plsOf ps)).map (·.1)).Nodup:=by
  rw [gls_by]
  refine parts_nodup (f:=fun pt=>(pt.2.filterMap giveOf).map (·.2)) hnd fun pt hpt=>?_
  obtain ⟨i,hi⟩:=List.getElem?_of_mem hpt
  obtain ⟨pp,_,ok,_,hf⟩:=part hi
  obtain ⟨m,hm,hm23⟩:=ok.m
  rw [fin_gives hf]
  exact ok.gv.nodup_iff.mpr (by rw [hm]; exact drawnN_nodup0 d.r1.1 (by omega))
 refine ⟨?_,hgk,fun x hx=>?_,fun y hy=>?_,?_,?_,fun x hx=>?_⟩
 ·rw [mls_by,bls_by]
  refine List.nodup_append.mpr ⟨?_,?_,fun x hx y hy z=>?_⟩
  ·refine parts_nodup (f:=fun pt=>ownL pt.2) hnd fun pt hpt=>?_
   obtain ⟨i,hi⟩:=List.getElem?_of_mem hpt
   exact (List.nodup_append.mp (own hi)).1
  ·refine parts_nodup (f:=fun pt=>brL pt.2) hnd fun pt hpt=>?_
   obtain ⟨i,hi⟩:=List.getElem?_of_mem hpt
   exact (List.nodup_append.mp (own hi)).2.1
  ·subst z
   obtain ⟨p1,hp1,h1⟩:=List.mem_flatMap.mp hx
   obtain ⟨o1,ho1,e1⟩:=List.mem_map.mp h1
   obtain ⟨p2,hp2,h2⟩:=List.mem_flatMap.mp hy
   obtain ⟨o2,ho2,e2⟩:=List.mem_map.mp h2
   rw [← e1] at e2
   obtain ⟨i,hi⟩:=List.getElem?_of_mem hp1
   obtain ⟨j,hj⟩:=List.getElem?_of_mem hp2
   have en : p2.1 = p1.1:=(Prod.mk.inj e2).1
   have eo : o2 = o1:=(Prod.mk.inj e2).2
   have hij:=idx (n:=p1.1) (rs:=p1.2) (rs':=p2.2) hi (by rw [hj,← en])
   subst hij
   rw [hi] at hj
   cases hj
   exact (List.nodup_append.mp (own hi)).2.2 _ ho1 _ ho2 eo.symm
 ·obtain ⟨i,j,pp,prs,xs,q,rs,rs',hi,hj,hpp,hprm,hq,_,e2,hok⟩:=brow hx
  obtain ⟨pq,hpq,hgm⟩:=hok.2.2.2.1 q hq
  obtain ⟨o,ys,hg⟩:=give_of ((d.inv j pq hpq).gv.mem_iff.mpr hgm)
  refine ⟨o,?_⟩
  have h1:=giv hj (⟨pq,ys,hpq,hg⟩ : Giv hs j q.1 o)
  rw [e2] at h1
  exact h1
 ·unfold glsOf at hy
  obtain ⟨z,hz,h1⟩:=List.mem_filterMap.mp hy
  obtain ⟨rs,hrs,hrw⟩:=mem_plsOf.mp hz
  obtain ⟨i,hi⟩:=List.getElem?_of_mem hrs
  obtain ⟨pp,hpp,ok,_,hf⟩:=part hi
  obtain ⟨pr,hpr,hfr⟩:=Paired.get?' hf hrw
  have hprm:=List.mem_of_getElem? hpr
  have hgo : ∃ o g xs,pr = .give o g xs∧y = ((z.1,g),o):=by
   cases pr with
   | give o g xs =>
    rw [show z.2.2 = .give o g from hfr] at h1
    exact ⟨o,g,xs,rfl,(Option.some.inj h1).symm⟩
   | own k n xs =>
    rcases hfr with ⟨_,erw⟩ | ⟨_,ts,erw,_⟩ <;> rw [erw] at h1 <;> cases h1
   | bring j prs xs=>obtain ⟨nm,_,erw⟩:=hfr; rw [erw] at h1; cases h1
   | ask j xs=>obtain ⟨nm,w,_,erw,_⟩:=hfr; rw [erw] at h1; cases h1
   | sum k xs =>
    rcases hfr with ⟨_,ts,erw,_⟩ | ⟨_,ts,w,erw,_⟩ <;> rw [erw] at h1 <;> cases h1
  obtain ⟨o,g,xs,ep,ey⟩:=hgo
  subst ep
  obtain ⟨⟨pp',hpp',ho⟩,_⟩:=ok.ok _ hprm
  rw [hpp] at hpp'
  cases hpp'
  have h2:=(fin_made hf).mem_iff.mpr (ok.md.mem_iff.mpr ho)
  rw [ey,mls_by,bls_by]
  rcases List.mem_append.mp h2 with w | w
  ·exact List.mem_append_left _ (List.mem_flatMap.mpr ⟨_,hrs,List.mem_map.mpr ⟨o,w,rfl⟩⟩)
  ·exact List.mem_append_right _ (List.mem_flatMap.mpr ⟨_,hrs,List.mem_map.mpr ⟨o,w,rfl⟩⟩)
 ·obtain ⟨rk,B,_,hrk⟩:=d.rk
  refine ⟨fun k=>rk ((ps.map (·.1)).findIdx fun n=>decide (n = k.1)) k.2,fun x hx=>?_⟩
  have fidx : ∀ {i : Nat} {n : Str} {rs : List Rw},ps[i]? = some (n,rs)→((ps.map (·.1)).findIdx fun m=>decide (m = n)) = i:=fun {i n rs} e=>by
   have h1 : (ps.map (·.1))[i]? = some n:=by rw [List.getElem?_map,e]; rfl
   obtain ⟨hi,h2⟩:=List.getElem?_eq_some_iff.mp h1
   have hlt : ((ps.map (·.1)).findIdx fun m=>decide (m = n)) < (ps.map (·.1)).length:=List.findIdx_lt_length_of_exists ⟨n,List.mem_of_getElem? h1,by simp⟩
   have h3:=List.findIdx_getElem (w:=hlt)
   have h4 : (ps.map (·.1))[(ps.map (·.1)).findIdx fun m=>decide (m = n)] = n:=by simpa using h3
   have h5 : ps[(ps.map (·.1)).findIdx fun m=>decide (m = n)]? = some (n,(ps[(ps.map (·.1)).findIdx fun m=>decide (m = n)]'(by rw [List.length_map] at hlt; exact hlt)).2):=by
    rw [List.getElem?_eq_getElem (by rw [List.length_map] at hlt; exact hlt)]
    rw [List.getElem_map] at h4
    exact congrArg some (Prod.ext h4 rfl)
   exact idx h5 e
  unfold llsOf at hx
  obtain ⟨y,hy,e⟩:=List.mem_map.mp hx
  obtain ⟨i,j,pp,prs,xs,q,rs,rs',hi,hj,hpp,hprm,hq,e1,e2,hok⟩:=brow hy
  obtain ⟨o,hg,hlt⟩:=hrk i pp hpp j prs xs hprm q hq
  have h1:=giv hj hg
  rw [e2] at h1
  have h2 : gget (glsOf (plsOf ps)) y.2 = o:=gget_eq hgk h1
  rw [← e]
  show rk ((ps.map (·.1)).findIdx fun n=>decide (n = y.2.1)) (gget (glsOf (plsOf ps)) y.2) < rk ((ps.map (·.1)).findIdx fun n=>decide (n = y.1.1)) y.1.2
  rw [fidx hi,fidx hj,h2,← e1]
  exact hlt
 ·have h1:=plsOf_len d.fit.rows
  have:=d.fit.hi
  omega
 ·obtain ⟨rs,hrs,hrw⟩:=mem_plsOf.mp hx
  obtain ⟨i,hi⟩:=List.getElem?_of_mem hrs
  obtain ⟨pp,hpp,ok,_,hf⟩:=part hi
  obtain ⟨pr,hpr,hfr⟩:=Paired.get?' hf hrw
  have hprm:=List.mem_of_getElem? hpr
  cases pr with
  | bring j prs xs =>
   obtain ⟨nm,_,erw⟩:=hfr
   rw [erw]
   show (prs.map _).length ≤ 6
   rw [List.length_map]
   exact (ok.ok _ hprm).2.2.1
  | own k n xs =>
   rcases hfr with ⟨_,erw⟩ | ⟨_,ts,erw,_⟩ <;> rw [erw] <;> simp [pairsOf]
  | give o g xs=>rw [show x.2.2 = .give o g from hfr]; simp [pairsOf]
  | ask j xs=>obtain ⟨nm,w,_,erw,_⟩:=hfr; rw [erw]; simp [pairsOf]
  | sum k xs =>
   rcases hfr with ⟨_,ts,erw,_⟩ | ⟨_,ts,w,erw,_⟩ <;> rw [erw] <;> simp [pairsOf]
def GtAt (H : Hp) (kv : List Key × V) (x : Kk × Str) : Prop:=kv.1 = key2 x.1∧∃ t,kv.2 = .ref t∧H t = some (.tup [.str x.1.1,.str x.2])
theorem GtAt.mono {H H' : Hp} (s : Tups H H') {kv : List Key × V} {x : Kk × Str} (h : GtAt H kv x) : GtAt H' kv x:=by
 obtain ⟨e,t,e2,h⟩:=h
 exact ⟨e,t,e2,s _ _ h⟩
theorem split_here {α : Type} {l : List α} {i : Nat} {x : α} (h : l[i]? = some x) : l = l.take i ++ x :: l.drop (i + 1):=by
 obtain ⟨hi,e⟩:=List.getElem?_eq_some_iff.mp h
 rw [← e,← List.drop_eq_getElem_cons hi,List.take_append_drop]
theorem pls_at {ps : List Pt} {i j : Nat} {pt : Pt} {rr : Rw} (h : ps[i]? = some pt) (hr : pt.2[j]? = some rr) : ∃ rest,plsOf ps = (plsOf (ps.take i) ++ rowsPl pt.1 (pt.2.take j)) ++ (pt.1,j,rr) :: rest:=by
 have hj:=(List.getElem?_eq_some_iff.mp hr).1
 have e2 : rowsPl pt.1 pt.2 = rowsPl pt.1 (pt.2.take j) ++ (pt.1,j,rr) :: ((pt.2.drop (j + 1)).zipIdx (j + 1)).map fun x=>(pt.1,x.2,x.1):=by
  conv=>lhs; rw [split_here hr]
  unfold rowsPl
  rw [List.zipIdx_append,List.map_append,List.zipIdx_cons,List.map_cons,Nat.zero_add,List.length_take,Nat.min_eq_left (by omega)]
 have e1 : plsOf ps = plsOf (ps.take i) ++ (rowsPl pt.1 pt.2 ++ plsOf (ps.drop (i + 1))):=by
  conv=>lhs; rw [split_here h]
  unfold plsOf
  rw [List.flatMap_append,List.flatMap_cons]
 rw [e1,e2]
 exact ⟨_,by rw [List.append_assoc,List.append_assoc,List.cons_append]⟩
theorem pls_snoc {ps : List Pt} {i j : Nat} {pt : Pt} {rr : Rw} (hr : pt.2[j]? = some rr) : plsOf (ps.take i) ++ rowsPl pt.1 (pt.2.take (j + 1)) = (plsOf (ps.take i) ++ rowsPl pt.1 (pt.2.take j)) ++ [(pt.1,j,rr)]:=by
 have hj:=(List.getElem?_eq_some_iff.mp hr).1
 rw [take_succ_get hr,rowsPl_snoc,← List.append_assoc,List.length_take,Nat.min_eq_left (by omega)]
def spLMade : Sp:=fun vs H Q _=>∃ (a : Addr) (ps : List Pt),vs = [.ref a]∧PartsF H a ps∧PsFit ps∧NetOk (plsOf ps)∧∀ (d : Addr) (kvs : List (List Key × V)) (H' : Hp),Same H H'→H d = none→H' d = some (.dT kvs)→Paired (MvAt H') kvs (mlsOf (plsOf ps))→Q (.ref d) H'
theorem ok_lmade (T : Txt K mg) : L2.Cl P w K mg base 1 "_law_made" ["_law_parts_here"] spLMade:=by
 refine Cl.of T.d_law_made sc_law_made (fun vs H Q E h=>?_) (fun _ _ _ _ _ _ us hl=>by obtain ⟨a,rfl⟩:=len1 hl; rfl) (fun fa cdv A outer s H vs Q E hr h=>?_)
 ·obtain ⟨a,ps,rfl,_⟩:=h
  rfl
 ·obtain ⟨a,ps,rfl,hpf,hfit,hnet,q⟩:=h
  have hu:=hu_of hr
  have hpl:=hnet.len
  obtain ⟨o,vs,ha,ho,hps⟩:=id hpf
  have sqa : ∀ {H2 : Hp},Same H H2→SqT K H2 a vs:=fun s2=>.inl (.inr ⟨o,s2 _ _ ha⟩)
  have hvl : vs.length = ps.length:=Paired.length hps
  have hhi:=hfit.hi
  refine ⟨_,(@pss_cons _ _ _ _ _ (@ps_set _ _ (1) _ _ _ _ sc_law_made.nd rfl (Or.inl rfl) (@pe_dnewT _ _) (by rfl) (by first   | exact .inl rfl   | exact .inr rfl   | assumption)) (@pss_cons _ _ _ _ _ (@ps_for _ _ _ _ _ _ _ _ PassesOwn.never rfl (@pi_tup _ _ _ _ (@pv _ 0 _ _ (by rfl) (by first   | exact Or.inl rfl   | exact Or.inr (Or.inl rfl)   | exact Or.inr (Or.inr rfl)) (by decide) (by decide))) (@pg_tup _ _ _ _ _ _ rfl (@pgs_cons _ _ _ _ _ (@pg_name _ _ (2) _ sc_law_made.nd rfl (Or.inl rfl) (by first   | exact .inl rfl   | exact .inr rfl   | assumption)) (@pgs_cons _ _ _ _ _ (@pg_name _ _ (3) _ sc_law_made.nd rfl (Or.inl rfl) (by first   | exact .inl rfl   | exact .inr rfl   | assumption)) (@pgs_nil _) (by rfl)) (by rfl)) (by rfl) (by rfl)) (@pss_one _ _ _ (@ps_for _ _ _ _ _ _ _ _ PassesOwn.never rfl (@pi_range1 _ _ _ _ _ _ (by rfl) T.n_range (@pa_cons _ _ _ _ _ (@pe_callB _ _ _ _ _ _ _ _ _ (@call_len_seq _) (by rfl) T.n_len PySem.boot_len (@pa_cons _ _ _ _ _ (@pv _ 3 _ _ (by rfl) (by first   | exact Or.inl rfl   | exact Or.inr (Or.inl rfl)   | exact Or.inr (Or.inr rfl)) (by decide) (by decide)) (@pa_nil _) (by rfl)) (by decide) (by decide) (by rfl) (by rfl)) (@pa_nil _) (by rfl)) (by rfl)) (@pg_name _ _ (4) _ sc_law_made.nd rfl (Or.inl rfl) (by first   | exact .inl rfl   | exact .inr rfl   | assumption)) (@pss_one _ _ _ (@ps_if _ _ _ _ _ _ _ _ (PW.pt (@pw_or _ _ _ _ _ _ _ (@pt_cmpR _ _ _ _ _ _ _ _ (@op_eq _) (@pe_ix _ _ _ _ _ _ _ (@ix_tup _) (@pe_ix _ _ _ _ _ _ _ (@ix_tup _) (@pv _ 3 _ _ (by rfl) (by first   | exact Or.inl rfl   | exact Or.inr (Or.inl rfl)   | exact Or.inr (Or.inr rfl)) (by decide) (by decide)) (@pv _ 4 _ _ (by rfl) (by first   | exact Or.inl rfl   | exact Or.inr (Or.inl rfl)   | exact Or.inr (Or.inr rfl)) (by decide) (by decide)) (fun _ _=>rfl)) (@pe_int _ _ _ _) (fun _ _=>rfl)) (@pe_str _ _ _ _) (nomark _)) (@pw_or1 _ _ _ _ (@pt_cmpR _ _ _ _ _ _ _ _ (@op_eq _) (@pe_ix _ _ _ _ _ _ _ (@ix_tup _) (@pe_ix _ _ _ _ _ _ _ (@ix_tup _) (@pv _ 3 _ _ (by rfl) (by first   | exact Or.inl rfl   | exact Or.inr (Or.inl rfl)   | exact Or.inr (Or.inr rfl)) (by decide) (by decide)) (@pv _ 4 _ _ (by rfl) (by first   | exact Or.inl rfl   | exact Or.inr (Or.inl rfl)   | exact Or.inr (Or.inr rfl)) (by decide) (by decide)) (fun _ _=>rfl)) (@pe_int _ _ _ _) (fun _ _=>rfl)) (@pe_str _ _ _ _) (nomark _))))) (@pss_one _ _ _ (@ps_dput _ _ _ _ _ _ _ _ _ hu (@pv _ 1 _ _ (by rfl) (by first   | exact Or.inl rfl   | exact Or.inr (Or.inl rfl)   | exact Or.inr (Or.inr rfl)) (by decide) (by decide)) (@pe_tup _ _ _ _ _ (@pa_cons _ _ _ _ _ (@pv _ 2 _ _ (by rfl) (by first   | exact Or.inl rfl   | exact Or.inr (Or.inl rfl)   | exact Or.inr (Or.inr rfl)) (by decide) (by decide)) (@pa_cons _ _ _ _ _ (@pe_ix _ _ _ _ _ _ _ (@ix_tup _) (@pe_ix _ _ _ _ _ _ _ (@ix_tup _) (@pv _ 3 _ _ (by rfl) (by first   | exact Or.inl rfl   | exact Or.inr (Or.inl rfl)   | exact Or.inr (Or.inr rfl)) (by decide) (by decide)) (@pv _ 4 _ _ (by rfl) (by first   | exact Or.inl rfl   | exact Or.inr (Or.inl rfl)   | exact Or.inr (Or.inr rfl)) (by decide) (by decide)) (fun _ _=>rfl)) (@pe_int _ _ _ _) (fun _ _=>rfl)) (@pa_nil _) (by rfl)) (by rfl))) (@pe_tup _ _ _ _ _ (@pa_cons _ _ _ _ _ (@pv _ 2 _ _ (by rfl) (by first   | exact Or.inl rfl   | exact Or.inr (Or.inl rfl)   | exact Or.inr (Or.inr rfl)) (by decide) (by decide)) (@pa_cons _ _ _ _ _ (@pv _ 4 _ _ (by rfl) (by first   | exact Or.inl rfl   | exact Or.inr (Or.inl rfl)   | exact Or.inr (Or.inr rfl)) (by decide) (by decide)) (@pa_nil _) (by rfl)) (by rfl))) rfl)) (@pss_nil _))) (by intro _; rfl))) (by intro _; rfl)) (@pss_one _ _ _ (@ps_ret _ _ _ _ (@pv _ 1 _ _ (by rfl) (by first   | exact Or.inl rfl   | exact Or.inr (Or.inl rfl)   | exact Or.inr (Or.inr rfl)) (by decide) (by decide)))))),?_⟩
  intro d gd
  have s1 : Same H (upd H d (.dT [])):=(Same.refl H).new gd
  refine ⟨_,rfl,a,rfl,⟨_,sqa s1⟩,for_tup (K:=K) (a:=a) (xs:=vs) (fun i σ H2=>∃ (kvs : List (List Key × V)) (v3 v4 v5 : Option V),σ = [some (.ref a),some (.ref d),v3,v4,v5]∧Same H H2∧H2 d = some (.dT kvs)∧Paired (MvAt H2) kvs (mlsOf (plsOf (ps.take i))))
   ⟨[],none,none,none,rfl,s1,upd_same,by rw [List.take_zero]; exact .nil⟩ (fun i σ H2 _ ⟨_,_,_,_,_,s3,_⟩=>sqa s3) ?_ ?_⟩
  ·rintro i y σ H2 hy ⟨kvs,v3,v4,v5,rfl,s3,hd3,hk⟩
   obtain ⟨pt,hpt,t,u,ws,ey,ht,hu',hrs⟩:=Paired.get? hps hy
   subst ey
   have hwl : ws.length = pt.2.length:=Paired.length hrs
   have hr40:=hfit.rows _ (List.mem_of_getElem? hpt)
   refine ⟨t,_,rfl,SqT.of (s3 _ _ ht),rfl,_,_,rfl,_,_,rfl,rfl,?_⟩
   refine ⟨_,rfl,u,_,rfl,.inr (SqT.of (s3 _ _ hu')),_,rfl,(by omega),(by omega),for_range (fun j σ H3=>∃ (kvs : List (List Key × V)) (v5 : Option V),σ = [some (.ref a),some (.ref d),some (.str pt.1),some (.ref u),v5]∧Same H H3∧H3 d = some (.dT kvs)∧Paired (MvAt H3) kvs (mlsOf (plsOf (ps.take i) ++ rowsPl pt.1 (pt.2.take j))))
    ⟨kvs,_,rfl,s3,hd3,by rw [List.take_zero]; show Paired _ kvs (mlsOf (plsOf (ps.take i) ++ [])); rw [List.append_nil]; exact hk⟩ ?_ ?_⟩
   ·rintro j σ H3 hj ⟨kvs3,w5,rfl,s4,hd4,hk3⟩
    rw [Int.zero_add]
    have hj' : j < pt.2.length:=by omega
    obtain ⟨rr,hrw⟩ : ∃ rr,pt.2[j]? = some rr:=⟨pt.2[j],by simp [hj']⟩
    obtain ⟨rest,hsp⟩:=pls_at hpt hrw
    have hX:=pls_snoc (ps:=ps) (i:=i) hrw
    obtain ⟨v,hv,r,er,hra⟩:=Paired.get?' hrs hrw
    subst er
    have hra4:=hra.mono s4.tups
    have hu4:=s4 _ _ hu'
    have hat : atI ws (j : Int) = some (.ref r):=atI_nat hv
    generalize plsOf (ps.take i) ++ rowsPl pt.1 (pt.2.take j) = Xs at hk3 hsp hX
    have hXl : Xs.length ≤ 960:=by
     have h1:=congrArg List.length hsp
     rw [List.length_append] at h1
     omega
    have hkl : kvs3.length ≤ 960:=by
     rw [Paired.length hk3]
     have:=mls_len Xs
     omega
    have hsp1 : plsOf ps = (Xs ++ [(pt.1,j,rr)]) ++ rest:=by rw [hsp,List.append_assoc]; rfl
    rcases row_own hra4 with ⟨o,rs,hkd,ho',hrt⟩ | ⟨hkd,ho'⟩
    ·have hm3 : mlsOf [(pt.1,j,rr)] = [((pt.1,o),(pt.1,j))]:=by simp [mlsOf,ho']
     have hnew : key2 (pt.1,o) ∉ kvs3.map (·.1):=new_key (fun _ _ h=>h.1) hk3 (fun z=>by
      have h1:=take_nodup hnet.mkNodup (by rw [hsp1,mls_app])
      rw [mls_app,hm3,List.map_append] at h1
      exact (List.nodup_append.mp h1).2.2 _ z _ (List.mem_singleton.mpr rfl) rfl)
     have z1 : ∀ kd : Str,atI (V.str kd :: V.str o :: rs) 1 = some (.str o):=fun kd=>atI_nat (j:=1) rfl
     have z0 : ∀ kd : Str,atI (V.str kd :: V.str o :: rs) 0 = some (.str kd):=fun kd=>atI_nat (j:=0) rfl
     rcases hkd with e | e <;> rw [e] at hrt
     refine ⟨_,rfl,_,rfl,u,_,_,_,rfl,rfl,SqT.of hu4,hat,r,_,_,_,rfl,rfl,SqT.of hrt,z0 _,rfl,_,rfl,iteSE (iteT ?_)⟩
     rotate_left
     refine ⟨_,rfl,_,rfl,u,_,_,_,rfl,rfl,SqT.of hu4,hat,r,_,_,_,rfl,rfl,SqT.of hrt,z0 _,rfl,_,rfl,iteSN (show ¬ ("take" : Str) = "set" by decide +kernel) ?_⟩
     refine ⟨_,rfl,_,rfl,u,_,_,_,rfl,rfl,SqT.of hu4,hat,r,_,_,_,rfl,rfl,SqT.of hrt,z0 _,rfl,_,rfl,iteSE ?_⟩
     all_goals
      refine ⟨_,rfl,_,rfl,leS2,fun e1 ge=>?_⟩
      have s5 : Same H3 (upd H3 e1 (.tup [.str pt.1,.int (j : Int)])):=(Same.refl H3).new ge
      refine ⟨_,rfl,_,rfl,_,rfl,_,rfl,u,_,_,_,rfl,rfl,SqT.of (s5 _ _ hu4),hat,r,_,_,_,rfl,rfl,SqT.of (s5 _ _ hrt),z1 _,leS2,fun c gc=>?_⟩
      have s6 : Same H3 (upd (upd H3 e1 (.tup [.str pt.1,.int (j : Int)])) c (.tup [.str pt.1,.str o])):=s5.new gc
      have hc6 : upd (upd H3 e1 (.tup [.str pt.1,.int (j : Int)])) c (.tup [.str pt.1,.str o]) c = some (.tup ((key2 (pt.1,o)).map kV)):=upd_same
      have he6 : upd (upd H3 e1 (.tup [.str pt.1,.int (j : Int)])) c (.tup [.str pt.1,.str o]) e1 = some (.tup [.str pt.1,.int (j : Int)]):=upd_keep upd_same gc
      generalize upd (upd H3 e1 (.tup [.str pt.1,.int (j : Int)])) c (.tup [.str pt.1,.str o]) = H6 at s6 hc6 he6 ⊢
      have hd6:=s6 _ _ hd4
      refine ⟨d,_,rfl,DPut.t (k:=key2 (pt.1,o)) hd6 hc6 (szK (by omega)),?_⟩
      rw [putK_new hnew]
      have TD:=Tups.dT (kvs':=kvs3 ++ [(key2 (pt.1,o),.ref e1)]) hd6
      have T7:=s6.tups.trans TD
      refine ⟨kvs3 ++ [(key2 (pt.1,o),.ref e1)],_,rfl,(s4.trans s6).put gd,upd_same,?_⟩
      rw [hX,mls_app,hm3]
      exact Paired.snoc (Paired.mapP hk3 fun _ _ z=>z.mono T7) ⟨rfl,e1,rfl,TD _ _ he6⟩
    ·have hm3 : mlsOf [(pt.1,j,rr)] = []:=by simp [mlsOf,ho']
     obtain ⟨x1,rs,hrt⟩:=hra4.kind
     have z0 : atI (V.str (kindS rr) :: x1 :: rs) 0 = some (.str (kindS rr)):=atI_nat (j:=0) rfl
     refine ⟨_,rfl,_,rfl,u,_,_,_,rfl,rfl,SqT.of hu4,hat,r,_,_,_,rfl,rfl,SqT.of hrt,z0,rfl,_,rfl,iteSN (fun z=>hkd (.inl z)) ?_⟩
     refine ⟨_,rfl,_,rfl,u,_,_,_,rfl,rfl,SqT.of hu4,hat,r,_,_,_,rfl,rfl,SqT.of hrt,z0,rfl,_,rfl,iteSN (fun z=>hkd (.inr z)) ?_⟩
     exact ⟨kvs3,_,rfl,s4,hd4,by rw [hX,mls_app,hm3,List.append_nil]; exact hk3⟩
   ·rintro σ H3 ⟨kvs3,w5,rfl,s4,hd4,hk3⟩
    rw [hwl,Int.toNat_natCast,List.take_length,← plsOf_snoc,← take_succ_get hpt] at hk3
    exact ⟨kvs3,_,_,_,rfl,s4,hd4,hk3⟩
  ·rintro σ H2 ⟨kvs,v3,v4,v5,rfl,s3,hd3,hk⟩
   rw [hvl,List.take_length] at hk
   exact ⟨_,rfl,q d kvs H2 s3 gd hd3 hk⟩
theorem ok_lmakers (T : Txt K mg) : L2.Cl P w K mg base 2 "_law_makers" ["_law_parts_here"] spMakers:=by
 have C_law_made:=ok_lmade (P:=P) (w:=w) (base:=base) T
 refine Cl.of T.d_law_makers sc_law_makers (fun vs H Q E h=>?_) (fun _ _ _ _ _ _ us hl=>by obtain ⟨a,rfl⟩:=len1 hl; rfl) (fun fa cdv A outer s H vs Q E hr h=>?_)
 ·obtain ⟨a,ps,rfl,_⟩:=h
  rfl
 ·obtain ⟨a,ps,rfl,hpf,hfit,hnet,q⟩:=h
  have hu:=hu_of hr
  have hpl:=hnet.len
  have hG:=hnet.gk
  obtain ⟨o,vs,ha,ho,hps⟩:=id hpf
  have hvl : vs.length = ps.length:=Paired.length hps
  have hhi:=hfit.hi
  refine ⟨_,(@pss_cons _ _ _ _ _ (@ps_set _ _ (1) _ _ _ _ sc_law_makers.nd rfl (Or.inl rfl) (@pe_fn _ _ _ _ _ _ _ _ _ _ _ C_law_made hr (by rfl) (@pa_cons _ _ _ _ _ (@pv _ 0 _ _ (by rfl) (by first   | exact Or.inl rfl   | exact Or.inr (Or.inl rfl)   | exact Or.inr (Or.inr rfl)) (by decide) (by decide)) (@pa_nil _) (by rfl)) (by decide) (by decide) (by rfl) (by rfl)) (by rfl) (by first   | exact .inl rfl   | exact .inr rfl   | assumption)) (@pss_cons _ _ _ _ _ (@ps_set _ _ (2) _ _ _ _ sc_law_makers.nd rfl (Or.inl rfl) (@pe_dnewT _ _) (by rfl) (by first   | exact .inl rfl   | exact .inr rfl   | assumption)) (@pss_cons _ _ _ _ _ (@ps_set _ _ (3) _ _ _ _ sc_law_makers.nd rfl (Or.inl rfl) (@pe_dnewT _ _) (by rfl) (by first   | exact .inl rfl   | exact .inr rfl   | assumption)) (@pss_cons _ _ _ _ _ (@ps_for _ _ _ _ _ _ _ _ PassesOwn.never rfl (@pi_tup _ _ _ _ (@pv _ 0 _ _ (by rfl) (by first   | exact Or.inl rfl   | exact Or.inr (Or.inl rfl)   | exact Or.inr (Or.inr rfl)) (by decide) (by decide))) (@pg_tup _ _ _ _ _ _ rfl (@pgs_cons _ _ _ _ _ (@pg_name _ _ (4) _ sc_law_makers.nd rfl (Or.inl rfl) (by first   | exact .inl rfl   | exact .inr rfl   | assumption)) (@pgs_cons _ _ _ _ _ (@pg_name _ _ (5) _ sc_law_makers.nd rfl (Or.inl rfl) (by first   | exact .inl rfl   | exact .inr rfl   | assumption)) (@pgs_nil _) (by rfl)) (by rfl)) (by rfl) (by rfl)) (@pss_one _ _ _ (@ps_for _ _ _ _ _ _ _ _ PassesOwn.never rfl (@pi_tup _ _ _ _ (@pv _ 5 _ _ (by rfl) (by first   | exact Or.inl rfl   | exact Or.inr (Or.inl rfl)   | exact Or.inr (Or.inr rfl)) (by decide) (by decide))) (@pg_name _ _ (6) _ sc_law_makers.nd rfl (Or.inl rfl) (by first   | exact .inl rfl   | exact .inr rfl   | assumption)) (@pss_one _ _ _ (@ps_if _ _ _ _ _ _ _ _ (@pt_cmpR _ _ _ _ _ _ _ _ (@op_eq _) (@pe_ix _ _ _ _ _ _ _ (@ix_tup _) (@pv _ 6 _ _ (by rfl) (by first   | exact Or.inl rfl   | exact Or.inr (Or.inl rfl)   | exact Or.inr (Or.inr rfl)) (by decide) (by decide)) (@pe_int _ _ _ _) (fun _ _=>rfl)) (@pe_str _ _ _ _) (nomark _)) (@pss_one _ _ _ (@ps_dput _ _ _ _ _ _ _ _ _ hu (@pv _ 2 _ _ (by rfl) (by first   | exact Or.inl rfl   | exact Or.inr (Or.inl rfl)   | exact Or.inr (Or.inr rfl)) (by decide) (by decide)) (@pe_tup _ _ _ _ _ (@pa_cons _ _ _ _ _ (@pv _ 4 _ _ (by rfl) (by first   | exact Or.inl rfl   | exact Or.inr (Or.inl rfl)   | exact Or.inr (Or.inr rfl)) (by decide) (by decide)) (@pa_cons _ _ _ _ _ (@pe_ix _ _ _ _ _ _ _ (@ix_tup _) (@pv _ 6 _ _ (by rfl) (by first   | exact Or.inl rfl   | exact Or.inr (Or.inl rfl)   | exact Or.inr (Or.inr rfl)) (by decide) (by decide)) (@pe_int _ _ _ _) (fun _ _=>rfl)) (@pa_nil _) (by rfl)) (by rfl))) (@pe_tup _ _ _ _ _ (@pa_cons _ _ _ _ _ (@pv _ 4 _ _ (by rfl) (by first   | exact Or.inl rfl   | exact Or.inr (Or.inl rfl)   | exact Or.inr (Or.inr rfl)) (by decide) (by decide)) (@pa_cons _ _ _ _ _ (@pe_ix _ _ _ _ _ _ _ (@ix_tup _) (@pv _ 6 _ _ (by rfl) (by first   | exact Or.inl rfl   | exact Or.inr (Or.inl rfl)   | exact Or.inr (Or.inr rfl)) (by decide) (by decide)) (@pe_int _ _ _ _) (fun _ _=>rfl)) (@pa_nil _) (by rfl)) (by rfl))) rfl)) (@pss_nil _))) (by intro _; rfl))) (by intro _; rfl)) (@pss_cons _ _ _ _ _ (@ps_for _ _ _ _ _ _ _ _ PassesOwn.never rfl (@pi_tup _ _ _ _ (@pv _ 0 _ _ (by rfl) (by first   | exact Or.inl rfl   | exact Or.inr (Or.inl rfl)   | exact Or.inr (Or.inr rfl)) (by decide) (by decide))) (@pg_tup _ _ _ _ _ _ rfl (@pgs_cons _ _ _ _ _ (@pg_name _ _ (4) _ sc_law_makers.nd rfl (Or.inl rfl) (by first   | exact .inl rfl   | exact .inr rfl   | assumption)) (@pgs_cons _ _ _ _ _ (@pg_name _ _ (5) _ sc_law_makers.nd rfl (Or.inl rfl) (by first   | exact .inl rfl   | exact .inr rfl   | assumption)) (@pgs_nil _) (by rfl)) (by rfl)) (by rfl) (by rfl)) (@pss_one _ _ _ (@ps_for _ _ _ _ _ _ _ _ PassesOwn.never rfl (@pi_tup _ _ _ _ (@pv _ 5 _ _ (by rfl) (by first   | exact Or.inl rfl   | exact Or.inr (Or.inl rfl)   | exact Or.inr (Or.inr rfl)) (by decide) (by decide))) (@pg_name _ _ (6) _ sc_law_makers.nd rfl (Or.inl rfl) (by first   | exact .inl rfl   | exact .inr rfl   | assumption)) (@pss_one _ _ _ (@ps_if _ _ _ _ _ _ _ _ (@pt_cmpR _ _ _ _ _ _ _ _ (@op_eq _) (@pe_ix _ _ _ _ _ _ _ (@ix_tup _) (@pv _ 6 _ _ (by rfl) (by first   | exact Or.inl rfl   | exact Or.inr (Or.inl rfl)   | exact Or.inr (Or.inr rfl)) (by decide) (by decide)) (@pe_int _ _ _ _) (fun _ _=>rfl)) (@pe_str _ _ _ _) (nomark _)) (@pss_one _ _ _ (@ps_for _ _ _ _ _ _ _ _ PassesOwn.never rfl (@pi_tup _ _ _ _ (@pe_ix _ _ _ _ _ _ _ (@ix_tup _) (@pv _ 6 _ _ (by rfl) (by first   | exact Or.inl rfl   | exact Or.inr (Or.inl rfl)   | exact Or.inr (Or.inr rfl)) (by decide) (by decide)) (@pe_int _ _ _ _) (fun _ _=>rfl))) (@pg_tup _ _ _ _ _ _ rfl (@pgs_cons _ _ _ _ _ (@pg_name _ _ (7) _ sc_law_makers.nd rfl (Or.inl rfl) (by first   | exact .inl rfl   | exact .inr rfl   | assumption)) (@pgs_cons _ _ _ _ _ (@pg_name _ _ (8) _ sc_law_makers.nd rfl (Or.inl rfl) (by first   | exact .inl rfl   | exact .inr rfl   | assumption)) (@pgs_nil _) (by rfl)) (by rfl)) (by rfl) (by rfl)) (@pss_one _ _ _ (@ps_dput _ _ _ _ _ _ _ _ _ hu (@pv _ 3 _ _ (by rfl) (by first   | exact Or.inl rfl   | exact Or.inr (Or.inl rfl)   | exact Or.inr (Or.inr rfl)) (by decide) (by decide)) (@pe_tup _ _ _ _ _ (@pa_cons _ _ _ _ _ (@pv _ 4 _ _ (by rfl) (by first   | exact Or.inl rfl   | exact Or.inr (Or.inl rfl)   | exact Or.inr (Or.inr rfl)) (by decide) (by decide)) (@pa_cons _ _ _ _ _ (@pv _ 8 _ _ (by rfl) (by first   | exact Or.inl rfl   | exact Or.inr (Or.inl rfl)   | exact Or.inr (Or.inr rfl)) (by decide) (by decide)) (@pa_nil _) (by rfl)) (by rfl))) (@pe_dget _ _ _ _ _ _ hu (@pv _ 2 _ _ (by rfl) (by first   | exact Or.inl rfl   | exact Or.inr (Or.inl rfl)   | exact Or.inr (Or.inr rfl)) (by decide) (by decide)) (@pe_tup _ _ _ _ _ (@pa_cons _ _ _ _ _ (@pe_ix _ _ _ _ _ _ _ (@ix_tup _) (@pv _ 6 _ _ (by rfl) (by first   | exact Or.inl rfl   | exact Or.inr (Or.inl rfl)   | exact Or.inr (Or.inr rfl)) (by decide) (by decide)) (@pe_int _ _ _ _) (fun _ _=>rfl)) (@pa_cons _ _ _ _ _ (@pv _ 7 _ _ (by rfl) (by first   | exact Or.inl rfl   | exact Or.inr (Or.inl rfl)   | exact Or.inr (Or.inr rfl)) (by decide) (by decide)) (@pa_nil _) (by rfl)) (by rfl))) (fun _ _=>rfl)) rfl)) (by intro _; rfl))) (@pss_nil _))) (by intro _; rfl))) (by intro _; rfl)) (@pss_cons _ _ _ _ _ (@ps_for _ _ _ _ _ _ _ _ PassesOwn.never rfl (@pi_dictT _ _ _ _ (@pv _ 3 _ _ (by rfl) (by first   | exact Or.inl rfl   | exact Or.inr (Or.inl rfl)   | exact Or.inr (Or.inr rfl)) (by decide) (by decide))) (@pg_name _ _ (9) _ sc_law_makers.nd rfl (Or.inl rfl) (by first   | exact .inl rfl   | exact .inr rfl   | assumption)) (@pss_cons _ _ _ _ _ (@ps_set _ _ (10) _ _ _ _ sc_law_makers.nd rfl (Or.inl rfl) (@pv _ 9 _ _ (by rfl) (by first   | exact Or.inl rfl   | exact Or.inr (Or.inl rfl)   | exact Or.inr (Or.inr rfl)) (by decide) (by decide)) (by rfl) (by first   | exact .inl rfl   | exact .inr rfl   | assumption)) (@pss_cons _ _ _ _ _ (@ps_while _ _ _ _ _ _ PassesOwn.never (@pt_cmp _ _ _ _ _ _ (@pc_din _ _ _ _ _ hu (@pv _ 10 _ _ (by rfl) (by first   | exact Or.inl rfl   | exact Or.inr (Or.inl rfl)   | exact Or.inr (Or.inr rfl)) (by decide) (by decide)) (@pv _ 3 _ _ (by rfl) (by first   | exact Or.inl rfl   | exact Or.inr (Or.inl rfl)   | exact Or.inr (Or.inr rfl)) (by decide) (by decide))) (by first   | exact nobehind _ (by decide) (by decide)   | rfl)) (@pss_one _ _ _ (@ps_set _ _ (10) _ _ _ _ sc_law_makers.nd rfl (Or.inl rfl) (@pe_dget _ _ _ _ _ _ hu (@pv _ 3 _ _ (by rfl) (by first   | exact Or.inl rfl   | exact Or.inr (Or.inl rfl)   | exact Or.inr (Or.inr rfl)) (by decide) (by decide)) (@pv _ 10 _ _ (by rfl) (by first   | exact Or.inl rfl   | exact Or.inr (Or.inl rfl)   | exact Or.inr (Or.inr rfl)) (by decide) (by decide)) (fun _ _=>rfl)) (by rfl) (by first   | exact .inl rfl   | exact .inr rfl   | assumption)))) (@pss_one _ _ _ (@ps_dput _ _ _ _ _ _ _ _ _ hu (@pv _ 1 _ _ (by rfl) (by first   | exact Or.inl rfl   | exact Or.inr (Or.inl rfl)   | exact Or.inr (Or.inr rfl)) (by decide) (by decide)) (@pv _ 9 _ _ (by rfl) (by first   | exact Or.inl rfl   | exact Or.inr (Or.inl rfl)   | exact Or.inr (Or.inr rfl)) (by decide) (by decide)) (@pe_dget _ _ _ _ _ _ hu (@pv _ 1 _ _ (by rfl) (by first   | exact Or.inl rfl   | exact Or.inr (Or.inl rfl)   | exact Or.inr (Or.inr rfl)) (by decide) (by decide)) (@pv _ 10 _ _ (by rfl) (by first   | exact Or.inl rfl   | exact Or.inr (Or.inl rfl)   | exact Or.inr (Or.inr rfl)) (by decide) (by decide)) (fun _ _=>rfl)) rfl)))) (by intro _; rfl)) (@pss_one _ _ _ (@ps_ret _ _ _ _ (@pv _ 1 _ _ (by rfl) (by first   | exact Or.inl rfl   | exact Or.inr (Or.inl rfl)   | exact Or.inr (Or.inr rfl)) (by decide) (by decide)))))))))),?_⟩
  refine ⟨_,rfl,a,ps,rfl,hpf,hfit,hnet,fun f mkv H0 s0 gf hf0 hmk=>?_⟩
  have ha0:=s0 _ _ ha
  have hps0 : Paired (PartAt H0) vs ps:=Paired.mapP hps fun _ _ z=>z.mono s0.tups
  intro g gg
  intro d gd
  have hgd : g ≠ d:=fun z=>by rw [z] at gg; rw [← z,upd_same] at gd; cases gd
  have sqa : ∀ {H2 : Hp},Same H0 H2→SqT K H2 a vs:=fun s2=>.inl (.inr ⟨o,s2 _ _ ha0⟩)
  have gd0 : H0 d = none:=by
   rw [← upd_ne (H:=H0) (o:=.dT []) hgd.symm]
   exact gd
  have s1 : Same H0 (upd (upd H0 g (.dT [])) d (.dT [])):=((Same.refl H0).new gg).new gd
  refine ⟨_,rfl,a,rfl,⟨_,sqa s1⟩,for_tup (K:=K) (a:=a) (xs:=vs) (fun i σ H2=>∃ (gvs : List (List Key × V)) (v4 v5 v6 : Option V),σ = [some (.ref a),some (.ref f),some (.ref g),some (.ref d),v4,v5,v6,none,none,none,none]∧Same H0 H2∧H2 g = some (.dT gvs)∧H2 d = some (.dT [])∧Paired (GtAt H2) gvs (glsOf (plsOf (ps.take i))))
   ⟨[],none,none,none,rfl,s1,by rw [upd_ne hgd,upd_same],upd_same,by rw [List.take_zero]; exact .nil⟩ (fun i σ H2 _ ⟨_,_,_,_,_,s3,_⟩=>sqa s3) ?_ ?_⟩
  ·rintro i y σ H2 hy ⟨gvs,v4,v5,v6,rfl,s3,hg3,hd3,hgk⟩
   obtain ⟨pt,hpt,t,u,ws,ey,ht,hu',hrs⟩:=Paired.get? hps0 hy
   subst ey
   have hwl : ws.length = pt.2.length:=Paired.length hrs
   refine ⟨t,_,rfl,SqT.of (s3 _ _ ht),rfl,_,_,rfl,_,_,rfl,rfl,?_⟩
   refine ⟨_,rfl,u,rfl,⟨_,SqT.of (s3 _ _ hu')⟩,for_tup (K:=K) (a:=u) (xs:=ws) (fun j σ H3=>∃ (gvs : List (List Key × V)) (v6 : Option V),σ = [some (.ref a),some (.ref f),some (.ref g),some (.ref d),some (.str pt.1),some (.ref u),v6,none,none,none,none]∧Same H0 H3∧H3 g = some (.dT gvs)∧H3 d = some (.dT [])∧Paired (GtAt H3) gvs (glsOf (plsOf (ps.take i) ++ rowsPl pt.1 (pt.2.take j))))
    ⟨gvs,_,rfl,s3,hg3,hd3,by rw [List.take_zero]; show Paired _ gvs (glsOf (plsOf (ps.take i) ++ [])); rw [List.append_nil]; exact hgk⟩ (fun j σ H3 _ ⟨_,_,_,s4,_⟩=>SqT.of (s4 _ _ hu')) ?_ ?_⟩
   ·rintro j y σ H3 hy3 ⟨gvs3,w6,rfl,s4,hg4,hd4,hgk3⟩
    obtain ⟨rr,hrw,r,er,hra⟩:=Paired.get? hrs hy3
    subst er
    obtain ⟨rest,hsp⟩:=pls_at hpt hrw
    have hX:=pls_snoc (ps:=ps) (i:=i) hrw
    have hra4:=hra.mono s4.tups
    generalize plsOf (ps.take i) ++ rowsPl pt.1 (pt.2.take j) = Xs at hgk3 hsp hX
    have hgl : gvs3.length ≤ 960:=by
     rw [Paired.length hgk3]
     have:=gls_len Xs
     have h1:=congrArg List.length hsp
     rw [List.length_append] at h1
     omega
    have hsp1 : plsOf ps = (Xs ++ [(pt.1,j,rr)]) ++ rest:=by rw [hsp,List.append_assoc]; rfl
    show gName 6 _ _ _ _
    rcases row_give hra4 with ⟨o,gv,hgo,hrt2⟩ | ⟨hng,hgo⟩
    ·have hg3' : glsOf [(pt.1,j,rr)] = [((pt.1,gv),o)]:=by simp [glsOf,hgo]
     have hnew : key2 (pt.1,gv) ∉ gvs3.map (·.1):=new_key (fun _ _ h=>h.1) hgk3 (fun z=>by
      have h1:=take_nodup hnet.gk (by rw [hsp1,gls_app])
      rw [gls_app,hg3',List.map_append] at h1
      exact (List.nodup_append.mp h1).2.2 _ z _ (List.mem_singleton.mpr rfl) rfl)
     refine ⟨_,rfl,r,_,_,_,rfl,rfl,SqT.of hrt2,rfl,rfl,_,rfl,iteSE ?_⟩
     refine ⟨_,rfl,_,rfl,r,_,_,_,rfl,rfl,SqT.of hrt2,rfl,leS2,fun e1 ge=>?_⟩
     have s5 : Same H3 (upd H3 e1 (.tup [.str pt.1,.str o])):=(Same.refl H3).new ge
     refine ⟨_,rfl,_,rfl,_,rfl,r,_,_,_,rfl,rfl,SqT.of (s5 _ _ hrt2),rfl,leS2,fun c gc=>?_⟩
     have s6 : Same H3 (upd (upd H3 e1 (.tup [.str pt.1,.str o])) c (.tup [.str pt.1,.str gv])):=s5.new gc
     have hc6 : upd (upd H3 e1 (.tup [.str pt.1,.str o])) c (.tup [.str pt.1,.str gv]) c = some (.tup ((key2 (pt.1,gv)).map kV)):=upd_same
     have he6 : upd (upd H3 e1 (.tup [.str pt.1,.str o])) c (.tup [.str pt.1,.str gv]) e1 = some (.tup [.str pt.1,.str o]):=upd_keep upd_same gc
     generalize upd (upd H3 e1 (.tup [.str pt.1,.str o])) c (.tup [.str pt.1,.str gv]) = H6 at s6 hc6 he6 ⊢
     have hg6:=s6 _ _ hg4
     refine ⟨g,_,rfl,DPut.t (k:=key2 (pt.1,gv)) hg6 hc6 (szK (by omega)),?_⟩
     rw [putK_new hnew]
     have TD:=Tups.dT (kvs':=gvs3 ++ [(key2 (pt.1,gv),.ref e1)]) hg6
     have T7:=s6.tups.trans TD
     refine ⟨gvs3 ++ [(key2 (pt.1,gv),.ref e1)],_,rfl,(s4.trans s6).put gg,upd_same,by rw [upd_ne hgd.symm]; exact s6 _ _ hd4,?_⟩
     rw [hX,gls_app,hg3']
     exact Paired.snoc (Paired.mapP hgk3 fun _ _ z=>z.mono T7) ⟨rfl,e1,rfl,TD _ _ he6⟩
    ·obtain ⟨x1,rs,hrt⟩:=hra4.kind
     have z0 : atI (V.str (kindS rr) :: x1 :: rs) 0 = some (.str (kindS rr)):=atI_nat (j:=0) rfl
     refine ⟨_,rfl,r,_,_,_,rfl,rfl,SqT.of hrt,z0,rfl,_,rfl,iteSN hng ?_⟩
     have h3 : glsOf [(pt.1,j,rr)] = []:=by simp [glsOf,hgo]
     exact ⟨gvs3,_,rfl,s4,hg4,hd4,by rw [hX,gls_app,h3,List.append_nil]; exact hgk3⟩
   ·rintro σ H3 ⟨gvs3,w6,rfl,s4,hg4,hd4,hgk3⟩
    rw [hwl,List.take_length,← plsOf_snoc,← take_succ_get hpt] at hgk3
    exact ⟨gvs3,_,_,_,rfl,s4,hg4,hd4,hgk3⟩
  rintro σ H1 ⟨gvs,v4,v5,v6,rfl,sg,hg1,hd1,hgk⟩
  rw [hvl,List.take_length] at hgk
  obtain ⟨Hb,eHb⟩ : ∃ Hb : Hp,Hb = fun x=>if x = d then none else H1 x:=⟨_,rfl⟩
  have hbd : Hb d = none:=by rw [eHb]; exact if_pos rfl
  have hbn : ∀ {x : Addr},x ≠ d→Hb x = H1 x:=fun {x} hx=>by rw [eHb]; exact if_neg hx
  have sb1 : Same Hb H1:=fun x v e=>by
   by_cases hx : x = d
   ·rw [hx,hbd] at e; cases e
   ·rw [hbn hx] at e; exact e
  have s0b : Same H0 Hb:=fun x v e=>by
   have hx : x ≠ d:=fun z=>by rw [z,gd0] at e; cases e
   rw [hbn hx]
   exact sg _ _ e
  have tb : Tups H1 Hb:=fun x v e=>by
   have hx : x ≠ d:=fun z=>by rw [z,hd1] at e; cases e
   rw [hbn hx]
   exact e
  have hgb : Hb g = some (.dT gvs):=by rw [hbn hgd]; exact hg1
  have hgp : Paired (GtAt Hb) gvs (glsOf (plsOf ps)):=Paired.mapP hgk fun _ _ z=>z.mono tb
  have hpsb : Paired (PartAt Hb) vs ps:=Paired.mapP hps0 fun _ _ z=>z.mono s0b.tups
  have hfb : Hb f = some (.dT mkv):=s0b _ _ hf0
  have hmkb : Paired (MvAt Hb) mkv (mlsOf (plsOf ps)):=Paired.mapP hmk fun _ _ z=>z.mono s0b.tups
  have haq : ∀ {H2 : Hp},Same Hb H2→SqT K H2 a vs:=fun s2=>sqa (s0b.trans s2)
  have sHb : Same H Hb:=s0.trans s0b
  clear tb hgk hps0 hg1 sg hmk
  refine ⟨_,rfl,a,rfl,⟨_,haq sb1⟩,for_tup (K:=K) (a:=a) (xs:=vs) (fun i σ H2=>∃ (kvs : List (List Key × V)) (v3 v4 v5 v6 v7 v9 v10 : Option V),σ = [some (.ref a),some (.ref f),some (.ref g),some (.ref d),v3,v4,v5,v6,v7,v9,v10]∧Same Hb H2∧H2 d = some (.dT kvs)∧Paired (LvAt H2) kvs (llG (glsOf (plsOf ps)) (blsOf (plsOf (ps.take i)))))
   ⟨[],_,_,_,_,_,_,_,rfl,sb1,hd1,by rw [List.take_zero]; exact .nil⟩ (fun i σ H2 _ ⟨_,_,_,_,_,_,_,_,_,s3,_⟩=>haq s3) ?_ ?_⟩
  ·rintro i y σ H2 hy ⟨kvs,v3,v4,v5,v6,v7,v9,v10,rfl,s3,hd3,hk⟩
   obtain ⟨pt,hpt,t,u,ws,ey,ht,hu',hrs⟩:=Paired.get? hpsb hy
   subst ey
   have hwl : ws.length = pt.2.length:=Paired.length hrs
   refine ⟨t,_,rfl,SqT.of (s3 _ _ ht),rfl,_,_,rfl,_,_,rfl,rfl,?_⟩
   refine ⟨_,rfl,u,rfl,⟨_,SqT.of (s3 _ _ hu')⟩,for_tup (K:=K) (a:=u) (xs:=ws) (fun j σ H3=>∃ (kvs : List (List Key × V)) (v5 v6 v7 : Option V),σ = [some (.ref a),some (.ref f),some (.ref g),some (.ref d),some (.str pt.1),some (.ref u),v5,v6,v7,v9,v10]∧Same Hb H3∧H3 d = some (.dT kvs)∧Paired (LvAt H3) kvs (llG (glsOf (plsOf ps)) (blsOf (plsOf (ps.take i) ++ rowsPl pt.1 (pt.2.take j)))))
    ⟨kvs,_,_,_,rfl,s3,hd3,by rw [List.take_zero]; show Paired _ kvs (llG _ (blsOf (plsOf (ps.take i) ++ []))); rw [List.append_nil]; exact hk⟩ (fun j σ H3 _ ⟨_,_,_,_,_,s4,_⟩=>SqT.of (s4 _ _ hu')) ?_ ?_⟩
   ·rintro j y σ H3 hy3 ⟨kvs3,w5,w6,w7,rfl,s4,hd4,hk3⟩
    obtain ⟨rr,hrw,r,er,hra⟩:=Paired.get? hrs hy3
    subst er
    obtain ⟨rest,hsp⟩:=pls_at hpt hrw
    have hX:=pls_snoc (ps:=ps) (i:=i) hrw
    have hra4:=hra.mono s4.tups
    generalize plsOf (ps.take i) ++ rowsPl pt.1 (pt.2.take j) = Xs at hk3 hsp hX
    have hXm : ∀ x ∈ Xs,x ∈ plsOf ps:=fun x hx=>by rw [hsp]; exact List.mem_append_left _ hx
    have hxm : (pt.1,j,rr) ∈ plsOf ps:=by rw [hsp]; exact List.mem_append_right _ List.mem_cons_self
    have hbl : (blsOf Xs).length ≤ 5760:=by
     have h1:=bls_len (pls:=Xs) fun x hx=>hnet.brs x (hXm x hx)
     have h2:=congrArg List.length hsp
     rw [List.length_append] at h2
     omega
    have hsp1 : plsOf ps = (Xs ++ [(pt.1,j,rr)]) ++ rest:=by rw [hsp,List.append_assoc]; rfl
    show gName 6 _ _ _ _
    rcases row_bring hra4 with ⟨m,prs,t',e,hrt,⟨vs',ht',hprs⟩,hp6⟩ | ⟨hkd,ho'⟩
    ·subst e
     have hvl' : vs'.length = prs.length:=Paired.length hprs
     refine ⟨_,rfl,r,_,_,_,rfl,rfl,SqT.of hrt,rfl,rfl,_,rfl,iteSE ?_⟩
     have hnd : ((blsOf Xs).map (·.1) ++ (brOf pt.1 m prs).map (·.1)).Nodup:=by
      have h1:=hnet.keys
      rw [hsp1,bls_app,bls_app,bls_one,List.map_append,List.map_append,← List.append_assoc] at h1
      have h2:=(List.nodup_append.mp h1).1
      exact (List.nodup_append.mp h2).2.1
     refine ⟨_,rfl,r,_,_,_,rfl,rfl,SqT.of hrt,rfl,t',rfl,⟨_,SqT.of ht'⟩,for_tup (K:=K) (a:=t') (xs:=vs') (fun k σ H4=>∃ (kvs : List (List Key × V)) (v6 v7 : Option V),σ = [some (.ref a),some (.ref f),some (.ref g),some (.ref d),some (.str pt.1),some (.ref u),some (.ref r),v6,v7,v9,v10]∧Same Hb H4∧Tups H3 H4∧H4 d = some (.dT kvs)∧Paired (LvAt H4) kvs (llG (glsOf (plsOf ps)) (blsOf Xs ++ brOf pt.1 m (prs.take k))))
      ⟨kvs3,_,_,rfl,s4,Tups.refl H3,hd4,by rw [List.take_zero]; show Paired _ kvs3 (llG _ (blsOf Xs ++ [])); rw [List.append_nil]; exact hk3⟩ (fun k σ H4 _ ⟨_,_,_,_,_,TT,_⟩=>SqT.of (TT _ _ ht')) ?_ ?_⟩
     ·rintro k y σ H4 hy4 ⟨kv4,x6,x7,rfl,s5,T4,hd5,hk4⟩
      obtain ⟨qq,hq,c,ec,hc,_,_⟩:=Paired.get? hprs hy4
      subst ec
      have hj : k < prs.length:=(List.getElem?_eq_some_iff.mp hq).1
      have hrt4:=T4 _ _ hrt
      have htk4 : brOf pt.1 m (prs.take (k + 1)) = brOf pt.1 m (prs.take k) ++ [((pt.1,qq.2),(m,qq.1))]:=by
       rw [take_succ_get hq]
       unfold brOf
       rw [List.map_append]
       rfl
      have hkl : kv4.length ≤ 6000:=by
       rw [Paired.length hk4]
       unfold llG
       rw [List.length_map,List.length_append]
       have : (brOf pt.1 m (prs.take k)).length = k:=by unfold brOf; rw [List.length_map,List.length_take]; omega
       omega
      have hxb : ((pt.1,qq.2),(m,qq.1)) ∈ blsOf (plsOf ps):=by
       unfold blsOf
       refine List.mem_flatMap.mpr ⟨_,hxm,?_⟩
       exact List.mem_map.mpr ⟨(m,qq),List.mem_map.mpr ⟨qq,List.mem_of_getElem? hq,rfl⟩,rfl⟩
      obtain ⟨o',ho'⟩:=hnet.gv _ hxb
      have hgg : gget (glsOf (plsOf ps)) (m,qq.1) = o':=gget_eq hG ho'
      obtain ⟨kv',⟨_,t0,hv1,ht0⟩,hv2⟩:=val_of (F:=GtAt Hb) (fun _ _ h=>h.1) hgp hG ho'
      refine ⟨c,_,rfl,SqT.of (T4 _ _ hc),rfl,_,_,rfl,_,_,rfl,rfl,?_⟩
      refine ⟨_,rfl,_,rfl,r,_,_,_,rfl,rfl,SqT.of hrt4,rfl,_,rfl,leS2,fun e ge=>?_⟩
      have s6 : Same H4 (upd H4 e (.tup [.str m,.str qq.1])):=(Same.refl H4).new ge
      have hg4 : upd H4 e (.tup [.str m,.str qq.1]) g = some (.dT gvs):=s6 _ _ (s5 _ _ hgb)
      have hget : DGet (upd H4 e (.tup [.str m,.str qq.1])) g (.ref e) (some (.ref t0)):=by
       have h1:=DGet.t (k:=key2 (m,qq.1)) hg4 (show upd H4 e (.tup [.str m,.str qq.1]) e = some (.tup ((key2 (m,qq.1)).map kV)) from upd_same)
       rw [hv2,hv1] at h1
       exact h1
      refine ⟨g,_,rfl,hget,?_⟩
      refine ⟨_,rfl,_,rfl,_,rfl,leS2,fun b gb=>?_⟩
      have s8:=s6.new (o:=.tup [.str pt.1,.str qq.2]) gb
      have hd8:=s8 _ _ hd5
      have hb8 : upd (upd H4 e (.tup [.str m,.str qq.1])) b (.tup [.str pt.1,.str qq.2]) b = some (.tup ((key2 (pt.1,qq.2)).map kV)):=upd_same
      refine ⟨d,_,rfl,DPut.t (k:=key2 (pt.1,qq.2)) hd8 hb8 (szK (by omega)),?_⟩
      have hnew : key2 (pt.1,qq.2) ∉ kv4.map (·.1):=new_key (F:=LvAt H4) (fun _ _ h=>h.1) hk4 (fun z=>by
       rw [llG_keys,List.map_append] at z
       have hsub : ((blsOf Xs).map (·.1) ++ (brOf pt.1 m (prs.take (k + 1))).map (·.1)).Sublist ((blsOf Xs).map (·.1) ++ (brOf pt.1 m prs).map (·.1)):=by
        refine List.Sublist.append_left ?_ _
        unfold brOf
        exact ((List.take_sublist _ _).map _).map _
       have h1:=hsub.nodup hnd
       rw [htk4,List.map_append,← List.append_assoc] at h1
       exact (List.nodup_append.mp h1).2.2 _ z _ (List.mem_singleton.mpr rfl) rfl)
      rw [putK_new hnew]
      have TD:=Tups.dT (kvs':=kv4 ++ [(key2 (pt.1,qq.2),.ref t0)]) hd8
      have T8:=s8.tups.trans TD
      have s9:=(s5.trans s8).put (o:=.dT (kv4 ++ [(key2 (pt.1,qq.2),.ref t0)])) hbd
      refine ⟨kv4 ++ [(key2 (pt.1,qq.2),.ref t0)],_,_,rfl,s9,T4.trans T8,upd_same,?_⟩
      rw [htk4,← List.append_assoc,llG_app]
      refine Paired.snoc (Paired.mapP hk4 fun _ _ z=>z.mono T8) ⟨rfl,t0,rfl,?_⟩
      show _ = some (HO.tup [V.str m,V.str (gget (glsOf (plsOf ps)) (m,qq.1))])
      rw [hgg]
      exact s9 _ _ ht0
     ·rintro σ H4 ⟨kv4,x6,x7,rfl,s5,T4,hd5,hk4⟩
      rw [hvl',List.take_length] at hk4
      refine ⟨kv4,_,_,_,rfl,s5,hd5,?_⟩
      rw [hX,bls_app,bls_one]
      exact hk4
    ·obtain ⟨x1,rs,hrt⟩:=hra4.kind
     have z0 : atI (V.str (kindS rr) :: x1 :: rs) 0 = some (.str (kindS rr)):=atI_nat (j:=0) rfl
     refine ⟨_,rfl,r,_,_,_,rfl,rfl,SqT.of hrt,z0,rfl,_,rfl,iteSN hkd ?_⟩
     have h3 : blsOf [(pt.1,j,rr)] = []:=by unfold blsOf; simp [ho']
     exact ⟨kvs3,_,_,_,rfl,s4,hd4,by rw [hX,bls_app,h3,List.append_nil]; exact hk3⟩
   ·rintro σ H3 ⟨kvs3,w5,w6,w7,rfl,s4,hd4,hk3⟩
    rw [hwl,List.take_length,← plsOf_snoc,← take_succ_get hpt] at hk3
    exact ⟨kvs3,_,_,_,_,_,_,_,rfl,s4,hd4,hk3⟩
  rintro σ H2 ⟨lkv,v3,v4,v5,v6,v7,v9,v10,rfl,s3,hd3,hlk⟩
  rw [hvl,List.take_length] at hlk
  have hlk : Paired (LvAt H2) lkv (llsOf (plsOf ps)):=hlk
  obtain ⟨r,hrk⟩:=hnet.rk
  have hml:=mls_len (plsOf ps)
  have hll : (llsOf (plsOf ps)).length ≤ 5760:=by
   have h1:=bls_len hnet.brs
   unfold llsOf
   rw [List.length_map]
   omega
  have htgt:=fun {x : Kk × Kk} (hx : x ∈ llsOf (plsOf ps))=>hnet.tgt hx
  have hlkn:=hnet.lkNodup
  have fi2 : FI (mlsOf (plsOf ps)) (llsOf (plsOf ps)) H2 mkv:=(mk_of hnet hmkb).mono s3.tups
  generalize mlsOf (plsOf ps) = mls at *
  generalize llsOf (plsOf ps) = ls at *
  have hf2:=s3 _ _ hfb
  have hfd : f ≠ d:=fun z=>by rw [z,hbd] at hfb; cases hfb
  have gdH : H d = none:=by
   cases e : H d with
   | none=>rfl
   | some v=>rw [sHb _ _ e] at hbd; cases hbd
  refine ⟨_,rfl,d,lkv,rfl,hd3,fun ob vs' hvs=>?_⟩
  have hvl' : vs'.length = lkv.length:=Paired.length hvs
  have hlkl : lkv.length = ls.length:=Paired.length hlk
  have T3 : Tups H2 (upd H2 d (.frz ob (.dT lkv))):=Tups.frz hd3
  have sH3 : Same H (upd H2 d (.frz ob (.dT lkv))):=(sHb.trans s3).put gdH
  have hf3 : upd H2 d (.frz ob (.dT lkv)) f = some (.dT mkv):=by rw [upd_ne hfd]; exact hf2
  have hd4 : upd H2 d (.frz ob (.dT lkv)) d = some (.frz ob (.dT lkv)):=upd_same
  have fi3:=fi2.mono T3
  have hlk3 : Paired (LvAt (upd H2 d (.frz ob (.dT lkv)))) lkv ls:=Paired.mapP hlk fun _ _ z=>z.mono T3
  have hvs3 : Paired (KeyAt (upd H2 d (.frz ob (.dT lkv)))) vs' lkv:=Paired.mapP hvs fun _ _ ⟨b,e,hb⟩=>⟨b,e,T3 _ _ hb⟩
  generalize upd H2 d (.frz ob (.dT lkv)) = H3 at T3 sH3 hf3 hd4 fi3 hlk3 hvs3 ⊢
  refine for_dict (d:=d) (o:=ob) (u:=.dT lkv) (ks:=vs') (fun i σ H4=>∃ (kvs : List (List Key × V)) (v9 v10 : Option V),σ = [some (.ref a),some (.ref f),some (.ref g),some (.ref d),v3,v4,v5,v6,v7,v9,v10]∧Same H H4∧H4 d = some (.frz ob (.dT lkv))∧Tups H3 H4∧H4 f = some (.dT kvs)∧FI mls ls H4 kvs∧∀ j x,j < i→ls[j]? = some x→(valV kvs (key2 x.1)).isSome = true)
   ⟨mkv,_,_,rfl,sH3,hd4,Tups.refl H3,hf3,fi3,fun j x hj=>by omega⟩ (fun i σ H4 _ ⟨_,_,_,_,_,h,_⟩=>h) ?_ ?_
  ·rintro i y σ H4 hy ⟨kvs,w9,w10,rfl,s4,hon4,T4,hf4,fi4,hdone⟩
   obtain ⟨kv0,hkv0,b0',eb0,hb0⟩:=Paired.get? hvs3 hy
   subst eb0
   obtain ⟨x0,hx0,hx0k,_⟩:=Paired.get? hlk3 hkv0
   have hx0m : x0 ∈ ls:=List.mem_of_getElem? hx0
   have hb04 : H4 b0' = some (.tup [.str x0.1.1,.str x0.1.2]):=by
    have:=T4 _ _ hb0
    rw [hx0k] at this
    exact this
   have hkl:=fi4.len
   refine ⟨_,rfl,?_⟩
   apply g_while
   ·with_reducible_and_instances rfl
   refine while_by (fun σ H5=>∃ (x : Kk) (b : Addr),σ = [some (.ref a),some (.ref f),some (.ref g),some (.ref d),v3,v4,v5,v6,v7,some (.ref b0'),some (.ref b)]∧H5 = H4∧H4 b = some (.tup [.str x.1,.str x.2])∧(x ∈ mls.map (·.1)∨x ∈ ls.map (·.1))∧∀ p,Mk mls ls x p→Mk mls ls x0.1 p) (fun σ H5=>muM r 10 σ H5)
    ⟨x0.1,b0',rfl,rfl,hb04,.inr (List.mem_map_of_mem (f:=(·.1)) hx0m),fun p hp=>hp⟩ ?_ ?_
   ·rintro σ H5 ⟨x,b,rfl,rfl,hb5,hxk,hmk⟩
    refine ⟨_,rfl,_,rfl,d,_,rfl,(.inr ⟨lkv,key2 x,b,.inr ⟨ob,hon4⟩,rfl,hb5,rfl⟩ : DGet H5 d (.ref b) (valV lkv (key2 x))),_,rfl,?_⟩
    by_cases hxl : x ∈ ls.map (·.1)
    ·obtain ⟨yx,hyx,eyx⟩:=List.mem_map.mp hxl
     obtain ⟨kvx,⟨_,t',e1,e2⟩,e3⟩:=val_of (F:=LvAt H3) (fun _ _ h=>h.1) hlk3 hlkn hyx
     rw [eyx] at e3
     have hyx' : (x,yx.2) ∈ ls:=by rw [← eyx]; exact hyx
     have hlt : r yx.2 < r x:=hrk _ hyx'
     rw [e3]
     refine iteT ?_
     have ht5:=T4 _ _ e2
     refine ⟨_,rfl,_,rfl,d,_,rfl,(.inr ⟨lkv,key2 x,b,.inr ⟨ob,hon4⟩,rfl,hb5,by rw [e3,e1]⟩ : DGet H5 d (.ref b) (some (.ref t'))),?_⟩
     refine ⟨⟨yx.2,t',rfl,rfl,ht5,htgt hyx,fun p hp=>hmk p (.step hyx' hp)⟩,?_⟩
     show muM r 10 [some (V.ref a),some (.ref f),some (.ref g),some (.ref d),v3,v4,v5,v6,v7,some (.ref b0'),some (.ref t')] H5 < muM r 10 [some (V.ref a),some (.ref f),some (.ref g),some (.ref d),v3,v4,v5,v6,v7,some (.ref b0'),some (.ref b)] H5
     have m1 : muM r 10 [some (V.ref a),some (.ref f),some (.ref g),some (.ref d),v3,v4,v5,v6,v7,some (.ref b0'),some (.ref t')] H5 = r yx.2:=by
      unfold muM
      simp only [List.getElem?_cons_succ,List.getElem?_cons_zero]
      rw [ht5]
     have m2 : muM r 10 [some (V.ref a),some (.ref f),some (.ref g),some (.ref d),v3,v4,v5,v6,v7,some (.ref b0'),some (.ref b)] H5 = r x:=by
      unfold muM
      simp only [List.getElem?_cons_succ,List.getElem?_cons_zero]
      rw [hb5]
     rw [m1,m2]
     exact hlt
    ·rw [val_none (F:=LvAt H3) (fun _ _ h=>h.1) hlk3 hxl]
     refine iteF ?_
     have hxm:=hxk.resolve_right hxl
     have hh:=fi4.has x hxm
     cases e : valV kvs (key2 x) with
     | none=>rw [e] at hh; cases hh
     | some v =>
      obtain ⟨t,p,ev,ht,hmk'⟩:=fi4.val x v e
      subst ev
      have hget : DGet H5 f (.ref b) (some (.ref t)):=by
       have h1:=DGet.t (k:=key2 x) hf4 hb5
       rw [e] at h1
       exact h1
      refine ⟨_,rfl,_,rfl,f,_,rfl,hget,_,rfl,_,rfl,f,_,rfl,DPut.t (k:=key2 x0.1) hf4 hb04 (szK (by omega)),?_⟩
      have T7:=Tups.dT (kvs':=putK kvs (key2 x0.1) (.ref t)) hf4
      refine ⟨putK kvs (key2 x0.1) (.ref t),_,_,rfl,s4.put gf,by rw [upd_ne hfd.symm]; exact hon4,T4.trans T7,upd_same,(fi4.put (List.mem_append_right _ (List.mem_map_of_mem (f:=(·.1)) hx0m)) ht (hmk p hmk')).mono T7,fun j y hj hy'=>?_⟩
      rw [valV_put]
      by_cases hji : j = i
      ·subst hji
       rw [hx0] at hy'
       cases hy'
       rw [if_pos rfl]
       rfl
      ·split
       ·rfl
       ·exact hdone j y (by omega) hy'
   ·rintro σ H5 Q1 Q2 hQ ⟨v,e,v2,e2,a2,o,e7,hg,c,e8,hq⟩
    exact ⟨v,e,v2,e2,a2,o,e7,hg,c,e8,hQ _ _ hq⟩
  ·rintro σ H4 ⟨kvs,w9,w10,rfl,s4,hon4,T4,hf4,fi4,hdone⟩
   refine ⟨_,rfl,q f kvs H4 s4 gf hf4 fi4 fun x hx=>?_⟩
   obtain ⟨y,hy,ey⟩:=List.mem_map.mp hx
   obtain ⟨j,hj⟩:=List.getElem?_of_mem hy
   have hjl:=(List.getElem?_eq_some_iff.mp hj).1
   rw [← ey]
   exact hdone j y (by omega) hj
def kp (p : Str × Nat) : List Key:=[Sum.inr p.1,Sum.inl (p.2 : Int)]
theorem kp_inj {p q : Str × Nat} (h : kp p = kp q) : p = q:=by
 unfold kp at h
 simp only [List.cons.injEq,Sum.inr.injEq,Sum.inl.injEq,and_true] at h
 obtain ⟨a,b⟩:=p
 obtain ⟨c,d⟩:=q
 simp only at h
 rw [h.1,Int.ofNat.inj h.2]
def nlsOf (mls : List (Kk × (Str × Nat))) (ts : List Tr) : List ((Str × Nat) × Str):=(mls.map (·.2)).zip (newsOf ts)
def NvAt (kv : List Key × V) (x : (Str × Nat) × Str) : Prop:=kv.1 = kp x.1∧kv.2 = .str x.2
theorem mkeys_mls (pls : List Pl) : mkeys pls = (mlsOf pls).map (·.1):=by
 unfold mkeys mlsOf
 rw [List.map_filterMap]
 congr 1
 funext x
 cases ownOf x.2.2 <;> rfl
theorem mls_sub : ∀ pls : List Pl,((mlsOf pls).map (·.2)).Sublist (pls.map fun x=>(x.1,x.2.1))
 | []=>by simp [mlsOf]
 | x :: r=>by
  have ih:=mls_sub r
  have e : mlsOf (x :: r) = mlsOf [x] ++ mlsOf r:=by rw [← mls_app]; rfl
  rw [e,List.map_append,List.map_cons]
  cases ho : ownOf x.2.2 with
  | none =>
   have : mlsOf [x] = []:=by simp [mlsOf,ho]
   rw [this]
   exact ih.trans (List.sublist_cons_self _ _)
  | some o =>
   have : mlsOf [x] = [((x.1,o),(x.1,x.2.1))]:=by simp [mlsOf,ho]
   rw [this]
   exact ih.cons_cons _
theorem rowsPl_nodup (n : Str) (rs : List Rw) : ((rowsPl n rs).map fun x=>(x.1,x.2.1)).Nodup:=by
 have e : (rowsPl n rs).map (fun x=>(x.1,x.2.1)) = (List.range rs.length).map fun i=>(n,i):=by
  refine List.ext_getElem? fun i=>?_
  unfold rowsPl
  rw [List.map_map,List.getElem?_map,List.getElem?_map,List.getElem?_zipIdx]
  by_cases h : i < rs.length
  ·rw [List.getElem?_eq_getElem h,List.getElem?_range h]
   simp
  ·rw [List.getElem?_eq_none (by omega),List.getElem?_eq_none (by rw [List.length_range]; omega)]
   rfl
 rw [e,List.nodup_iff_pairwise_ne,List.pairwise_map]
 exact (List.nodup_iff_pairwise_ne.mp List.nodup_range).imp fun hne z=>hne (Prod.mk.inj z).2
theorem pls_nodup : ∀ {ps : List Pt},(ps.map (·.1)).Nodup→((plsOf ps).map fun x=>(x.1,x.2.1)).Nodup
 | [],_=>by simp [plsOf]
 | pt :: r,hn=>by
  rw [List.map_cons,List.nodup_cons] at hn
  have e : plsOf (pt :: r) = rowsPl pt.1 pt.2 ++ plsOf r:=rfl
  rw [e,List.map_append]
  refine List.nodup_append.mpr ⟨rowsPl_nodup _ _,pls_nodup hn.2,fun x hx y hy z=>?_⟩
  obtain ⟨x',hx',e1⟩:=List.mem_map.mp hx
  obtain ⟨y',hy',e2⟩:=List.mem_map.mp hy
  have h1:=(mem_rowsPl.mp hx').1
  obtain ⟨rs,h2,_⟩:=mem_plsOf.mp hy'
  rw [← e1,← e2] at z
  have h3 : x'.1 = y'.1:=(Prod.mk.inj z).1
  exact hn.1 (by rw [← h1,h3]; exact List.mem_map_of_mem (f:=(·.1)) h2)
theorem places_nodup {ps : List Pt} (h : (ps.map (·.1)).Nodup) : ((mlsOf (plsOf ps)).map (·.2)).Nodup:=(mls_sub _).nodup (pls_nodup h)
theorem nls_fst {mls : List (Kk × (Str × Nat))} {ts : List Tr} (h : ts.length = mls.length) : (nlsOf mls ts).map (·.1) = mls.map (·.2):=by
 unfold nlsOf newsOf
 rw [List.map_fst_zip]
 rw [List.length_map,List.length_map]
 omega
theorem nls_at {mls : List (Kk × (Str × Nat))} {ts : List Tr} {i : Nat} {x : Kk × (Str × Nat)} {t : Tr} (h1 : mls[i]? = some x) (h2 : ts[i]? = some t) : (nlsOf mls ts)[i]? = some (x.2,t.2.2):=by
 unfold nlsOf newsOf
 rw [List.getElem?_zip_eq_some]
 exact ⟨by rw [List.getElem?_map,h1]; rfl,by rw [List.getElem?_map,h2]; rfl⟩
theorem nv_val : ∀ {nkv : List (List Key × V)} {nls : List ((Str × Nat) × Str)} {x : (Str × Nat) × Str},Paired NvAt nkv nls→(nls.map (·.1)).Nodup→x ∈ nls→valV nkv (kp x.1) = some (.str x.2)
 | _,_,x,.nil,_,hx=>by simp at hx
 | _,_,x,.cons (a:=kv) (b:=y) (l₂:=r) ⟨e1,e2⟩ t,hn,hx=>by
  rw [List.map_cons,List.nodup_cons] at hn
  rcases List.mem_cons.mp hx with z | z
  ·subst z
   rw [valV_pos e1,e2]
  ·rw [valV_neg (fun w=>hn.1 (by rw [kp_inj (e1.symm.trans w)]; exact List.mem_map_of_mem (f:=(·.1)) z))]
   exact nv_val t hn.2 z
theorem nv_new {nkv : List (List Key × V)} {nls : List ((Str × Nat) × Str)} {p : Str × Nat} (h : Paired NvAt nkv nls) (hp : p ∉ nls.map (·.1)) : kp p ∉ nkv.map (·.1):=by
 intro z
 obtain ⟨kv,hkv,e⟩:=List.mem_map.mp z
 obtain ⟨i,hi⟩:=List.getElem?_of_mem hkv
 obtain ⟨x,hx,e1,_⟩:=Paired.get? h hi
 exact hp (List.mem_map.mpr ⟨x,List.mem_of_getElem? hx,kp_inj (e1.symm.trans e)⟩)
theorem val_here {κ : Type} [DecidableEq κ] : ∀ {kvs : List (κ × V)} {i : Nat} {kv : κ × V},(kvs.map (·.1)).Nodup→kvs[i]? = some kv→valV kvs kv.1 = some kv.2
 | [],i,kv,_,h=>by simp at h
 | x :: r,i,kv,hn,h=>by
  rw [List.map_cons,List.nodup_cons] at hn
  cases i with
  | zero=>cases h; exact valV_pos rfl
  | succ i =>
   have h' : r[i]? = some kv:=h
   rw [valV_neg (fun z=>hn.1 (by rw [z]; exact List.mem_map_of_mem (f:=(·.1)) (List.mem_of_getElem? h')))]
   exact val_here hn.2 h'
theorem Mk.place {mls : List (Kk × (Str × Nat))} {ls : List (Kk × Kk)} {k : Kk} {p : Str × Nat} (h : Mk mls ls k p) : ∃ k',(k',p) ∈ mls:=by
 induction h with
 | base h=>exact ⟨_,h⟩
 | step _ _ ih=>exact ih
def NamesAt (mls : List (Kk × (Str × Nat))) (ls : List (Kk × Kk)) (ts : List Tr) (fkv : List (List Key × V)) : Prop:=∀ x ∈ mls.map (·.1) ++ ls.map (·.1),∃ p n,Mk mls ls x p∧(p,n) ∈ nlsOf mls ts∧valV fkv (key2 x) = some (.str n)
def spMNames : Sp:=fun vs H Q _=>∃ (a : Addr) (ps : List Pt),vs = [.ref a]∧PartsF H a ps∧PsFit ps∧NetOk (plsOf ps)∧(∀ k ∈ mkeys (plsOf ps),k.2.length ≤ 100)∧∀ (f : Addr) (fkv : List (List Key × V)) (ts : List Tr) (H' : Hp),Same H H'→H' f = some (.dT fkv)→ts.map (fun t=>(t.1,t.2.1)) = mkeys (plsOf ps)→NNAt ((mkeys (plsOf ps)).map (·.2)) ts→NamesAt (mlsOf (plsOf ps)) (llsOf (plsOf ps)) ts fkv→Q (.ref f) H'
theorem ok_mnames (T : Txt K mg) : L2.Cl P w K mg base 5 "makers_names" ["parts"] spMNames:=by
 have C_makers:=ok_makers (P:=P) (w:=w) (base:=base) T
 have C_new_names:=ok_new (P:=P) (w:=w) (base:=base) T
 refine Cl.of T.d_makers_names sc_makers_names (fun vs H Q E h=>?_) (fun _ _ _ _ _ _ us hl=>by obtain ⟨a,rfl⟩:=len1 hl; rfl) (fun fa cdv A outer s H vs Q E hr h=>?_)
 ·obtain ⟨a,ps,rfl,_⟩:=h
  rfl
 ·obtain ⟨a,ps,rfl,hpf,hfit,hnet,hklen,q⟩:=h
  have hu:=hu_of hr
  have hpl:=hnet.len
  have hml:=mls_len (plsOf ps)
  have hll : (llsOf (plsOf ps)).length ≤ 5760:=by
   have h1:=bls_len hnet.brs
   unfold llsOf
   rw [List.length_map]
   omega
  have hknd : (mkeys (plsOf ps)).Nodup:=by rw [mkeys_mls]; exact hnet.mkNodup
  have hpnd:=places_nodup hfit.nd
  refine ⟨_,(@pss_cons _ _ _ _ _ (@ps_set _ _ (1) _ _ _ _ sc_makers_names.nd rfl (Or.inl rfl) (@pe_fn _ _ _ _ _ _ _ _ _ _ _ C_makers hr (by rfl) (@pa_cons _ _ _ _ _ (@pv _ 0 _ _ (by rfl) (by first   | exact Or.inl rfl   | exact Or.inr (Or.inl rfl)   | exact Or.inr (Or.inr rfl)) (by decide) (by decide)) (@pa_nil _) (by rfl)) (by decide) (by decide) (by rfl) (by rfl)) (by rfl) (by first   | exact .inl rfl   | exact .inr rfl   | assumption)) (@pss_cons _ _ _ _ _ (@ps_set _ _ (2) _ _ _ _ sc_makers_names.nd rfl (Or.inl rfl) (@pe_dnewT _ _) (by rfl) (by first   | exact .inl rfl   | exact .inr rfl   | assumption)) (@pss_cons _ _ _ _ _ (@ps_for _ _ _ _ _ _ _ _ PassesOwn.never rfl (@pi_tup _ _ _ _ (@pe_fn _ _ _ _ _ _ _ _ _ _ _ C_new_names hr (by rfl) (@pa_cons _ _ _ _ _ (@pv _ 0 _ _ (by rfl) (by first   | exact Or.inl rfl   | exact Or.inr (Or.inl rfl)   | exact Or.inr (Or.inr rfl)) (by decide) (by decide)) (@pa_nil _) (by rfl)) (by decide) (by decide) (by rfl) (by rfl))) (@pg_tup _ _ _ _ _ _ rfl (@pgs_cons _ _ _ _ _ (@pg_name _ _ (3) _ sc_makers_names.nd rfl (Or.inl rfl) (by first   | exact .inl rfl   | exact .inr rfl   | assumption)) (@pgs_cons _ _ _ _ _ (@pg_name _ _ (4) _ sc_makers_names.nd rfl (Or.inl rfl) (by first   | exact .inl rfl   | exact .inr rfl   | assumption)) (@pgs_cons _ _ _ _ _ (@pg_name _ _ (5) _ sc_makers_names.nd rfl (Or.inl rfl) (by first   | exact .inl rfl   | exact .inr rfl   | assumption)) (@pgs_nil _) (by rfl)) (by rfl)) (by rfl)) (by rfl) (by rfl)) (@pss_one _ _ _ (@ps_dput _ _ _ _ _ _ _ _ _ hu (@pv _ 2 _ _ (by rfl) (by first   | exact Or.inl rfl   | exact Or.inr (Or.inl rfl)   | exact Or.inr (Or.inr rfl)) (by decide) (by decide)) (@pe_dget _ _ _ _ _ _ hu (@pv _ 1 _ _ (by rfl) (by first   | exact Or.inl rfl   | exact Or.inr (Or.inl rfl)   | exact Or.inr (Or.inr rfl)) (by decide) (by decide)) (@pe_tup _ _ _ _ _ (@pa_cons _ _ _ _ _ (@pv _ 3 _ _ (by rfl) (by first   | exact Or.inl rfl   | exact Or.inr (Or.inl rfl)   | exact Or.inr (Or.inr rfl)) (by decide) (by decide)) (@pa_cons _ _ _ _ _ (@pv _ 4 _ _ (by rfl) (by first   | exact Or.inl rfl   | exact Or.inr (Or.inl rfl)   | exact Or.inr (Or.inr rfl)) (by decide) (by decide)) (@pa_nil _) (by rfl)) (by rfl))) (fun _ _=>rfl)) (@pv _ 5 _ _ (by rfl) (by first   | exact Or.inl rfl   | exact Or.inr (Or.inl rfl)   | exact Or.inr (Or.inr rfl)) (by decide) (by decide)) rfl)) (by intro _; rfl)) (@pss_cons _ _ _ _ _ (@ps_set _ _ (6) _ _ _ _ sc_makers_names.nd rfl (Or.inl rfl) (@pe_dnewT _ _) (by rfl) (by first   | exact .inl rfl   | exact .inr rfl   | assumption)) (@pss_cons _ _ _ _ _ (@ps_for _ _ _ _ _ _ _ _ PassesOwn.never rfl (@pi_itemsT _ _ _ _ _ _ _ _ (@pv _ 1 _ _ (by rfl) (by first   | exact Or.inl rfl   | exact Or.inr (Or.inl rfl)   | exact Or.inr (Or.inr rfl)) (by decide) (by decide)) (by rfl) (by rfl)) (@pg_tup _ _ _ _ _ _ rfl (@pgs_cons _ _ _ _ _ (@pg_name _ _ (7) _ sc_makers_names.nd rfl (Or.inl rfl) (by first   | exact .inl rfl   | exact .inr rfl   | assumption)) (@pgs_cons _ _ _ _ _ (@pg_name _ _ (8) _ sc_makers_names.nd rfl (Or.inl rfl) (by first   | exact .inl rfl   | exact .inr rfl   | assumption)) (@pgs_nil _) (by rfl)) (by rfl)) (by rfl) (by rfl)) (@pss_one _ _ _ (@ps_dput _ _ _ _ _ _ _ _ _ hu (@pv _ 6 _ _ (by rfl) (by first   | exact Or.inl rfl   | exact Or.inr (Or.inl rfl)   | exact Or.inr (Or.inr rfl)) (by decide) (by decide)) (@pv _ 7 _ _ (by rfl) (by first   | exact Or.inl rfl   | exact Or.inr (Or.inl rfl)   | exact Or.inr (Or.inr rfl)) (by decide) (by decide)) (@pe_dget _ _ _ _ _ _ hu (@pv _ 2 _ _ (by rfl) (by first   | exact Or.inl rfl   | exact Or.inr (Or.inl rfl)   | exact Or.inr (Or.inr rfl)) (by decide) (by decide)) (@pv _ 8 _ _ (by rfl) (by first   | exact Or.inl rfl   | exact Or.inr (Or.inl rfl)   | exact Or.inr (Or.inr rfl)) (by decide) (by decide)) (fun _ _=>rfl)) rfl)) (by intro _; rfl)) (@pss_one _ _ _ (@ps_ret _ _ _ _ (@pv _ 6 _ _ (by rfl) (by first   | exact Or.inl rfl   | exact Or.inr (Or.inl rfl)   | exact Or.inr (Or.inr rfl)) (by decide) (by decide))))))))),?_⟩
  refine ⟨_,rfl,a,ps,rfl,hpf,hfit,hnet,fun d pkv H1 s1 gd hd1 fi1 hall=>?_⟩
  intro n gn
  have s2 : Same H1 (upd H1 n (.dT [])):=(Same.refl H1).new gn
  refine ⟨_,rfl,a,ps,rfl,(s1.trans s2).partsF hpf,hfit,hknd,hklen,fun p vs ts H3 s3 hp hvs hks hnn=>?_⟩
  have htl : ts.length = (mlsOf (plsOf ps)).length:=by
   have:=congrArg List.length hks
   rw [List.length_map,mkeys_mls,List.length_map] at this
   exact this
  have hnf:=nls_fst htl
  have hnl : (nlsOf (mlsOf (plsOf ps)) ts).length = ts.length:=by
   have:=congrArg List.length hnf
   rw [List.length_map,List.length_map] at this
   omega
  have hvl : vs.length = ts.length:=Paired.length hvs
  have s13:=s2.trans s3
  refine ⟨p,rfl,⟨_,SqT.of hp⟩,for_tup (K:=K) (a:=p) (xs:=vs) (fun i σ H4=>∃ (nkv : List (List Key × V)) (v3 v4 v5 : Option V),σ = [some (.ref a),some (.ref d),some (.ref n),v3,v4,v5,none,none,none]∧Same H1 H4∧Tups H3 H4∧H4 n = some (.dT nkv)∧Paired NvAt nkv ((nlsOf (mlsOf (plsOf ps)) ts).take i))
   ⟨[],none,none,none,rfl,s13,Tups.refl H3,s3 _ _ upd_same,by rw [List.take_zero]; exact .nil⟩ (fun i σ H4 _ ⟨_,_,_,_,_,_,t4,_⟩=>SqT.of (t4 _ _ hp)) ?_ ?_⟩
  ·rintro i y σ H4 hy ⟨nkv,v3,v4,v5,rfl,s4,t4,hn4,hnv⟩
   obtain ⟨t,ht,c,ey,hc⟩:=Paired.get? hvs hy
   subst ey
   have hi : i < ts.length:=(List.getElem?_eq_some_iff.mp ht).1
   obtain ⟨x,hx⟩ : ∃ x,(mlsOf (plsOf ps))[i]? = some x:=⟨(mlsOf (plsOf ps))[i]'(by omega),by simp [show i < (mlsOf (plsOf ps)).length by omega]⟩
   have hxk : x.1 = (t.1,t.2.1):=by
    have h1:=congrArg (fun l=>l[i]?) hks
    simp only [mkeys_mls,List.getElem?_map,ht,hx,Option.map_some,Option.some.injEq] at h1
    exact h1.symm
   have hxm:=List.mem_of_getElem? hx
   have hn:=nls_at hx ht
   have hnkl : nkv.length ≤ 960:=by
    rw [Paired.length hnv,List.length_take]
    omega
   have hsome:=fi1.has x.1 (List.mem_map_of_mem (f:=(·.1)) hxm)
   cases e : valV pkv (key2 x.1) with
   | none=>rw [e] at hsome; cases hsome
   | some v =>
    obtain ⟨t',p',ev,ht',hmk⟩:=fi1.val _ v e
    subst ev
    have hpp : p' = x.2:=hnet.uniq hmk (.base hxm)
    subst hpp
    refine ⟨c,_,rfl,SqT.of (t4 _ _ hc),rfl,_,_,rfl,_,_,rfl,_,_,rfl,rfl,?_⟩
    refine ⟨_,rfl,_,rfl,_,rfl,_,rfl,_,rfl,leS2,fun e' ge=>?_⟩
    have s5 : Same H4 (upd H4 e' (.tup [.str t.1,.str t.2.1])):=(Same.refl H4).new ge
    have hget : DGet (upd H4 e' (.tup [.str t.1,.str t.2.1])) d (.ref e') (some (.ref t')):=by
     have h1:=DGet.t (k:=key2 (t.1,t.2.1)) (s5 _ _ (s4 _ _ hd1)) (show upd H4 e' (.tup [.str t.1,.str t.2.1]) e' = some (.tup ((key2 (t.1,t.2.1)).map kV)) from upd_same)
     rw [← hxk,e] at h1
     exact h1
    have hn5:=s5 _ _ hn4
    refine ⟨d,_,rfl,hget,n,_,rfl,DPut.t (k:=kp x.2) hn5 (s5 _ _ (s4 _ _ ht')) (szK (by omega)),?_⟩
    have hnew : kp x.2 ∉ nkv.map (·.1):=nv_new hnv (fun z=>by
     have h1 : ((nlsOf (mlsOf (plsOf ps)) ts).take (i + 1)).map (·.1) = ((mlsOf (plsOf ps)).map (·.2)).take (i + 1):=by rw [List.map_take,hnf]
     have h2 : (((nlsOf (mlsOf (plsOf ps)) ts).take (i + 1)).map (·.1)).Nodup:=by
      rw [h1]
      exact (List.take_sublist _ _).nodup hpnd
     rw [take_succ_get hn,List.map_append] at h2
     exact (List.nodup_append.mp h2).2.2 _ z _ (List.mem_singleton.mpr rfl) rfl)
    rw [putK_new hnew]
    have TD:=Tups.dT (kvs':=nkv ++ [(kp x.2,.str t.2.2)]) hn5
    refine ⟨nkv ++ [(kp x.2,.str t.2.2)],_,_,_,rfl,(s4.trans s5).put gn,t4.trans (s5.tups.trans TD),upd_same,?_⟩
    rw [take_succ_get hn]
    exact Paired.snoc hnv ⟨rfl,rfl⟩
  ·rintro σ H4 ⟨nkv,v3,v4,v5,rfl,s4,t4,hn4,hnv⟩
   rw [hvl,← hnl,List.take_length] at hnv
   intro f gf
   have s5 : Same H4 (upd H4 f (.dT [])):=(Same.refl H4).new gf
   have hd5:=s5 _ _ (s4 _ _ hd1)
   have hdf : d ≠ f:=fun z=>by rw [← z,s4 _ _ hd1] at gf; cases gf
   have hdn : d ≠ n:=fun z=>by rw [← z,hd1] at gn; cases gn
   have hfn : f ≠ n:=fun z=>by rw [z,hn4] at gf; cases gf
   have gfH : H f = none:=(s1.trans s4).free gf
   have fi5 : FI (mlsOf (plsOf ps)) (llsOf (plsOf ps)) (upd H4 f (.dT [])) pkv:=fi1.mono (s4.trans s5).tups
   refine ⟨_,rfl,d,pkv,rfl,hd5,fun ob prs hprs=>?_⟩
   have T6 : Tups (upd H4 f (.dT [])) (upd (upd H4 f (.dT [])) d (.frz ob (.dT pkv))):=Tups.frz hd5
   have s6 : Same H (upd (upd H4 f (.dT [])) d (.frz ob (.dT pkv))):=((s1.trans s4).trans s5).put gd
   have hd6 : upd (upd H4 f (.dT [])) d (.frz ob (.dT pkv)) d = some (.frz ob (.dT pkv)):=upd_same
   have hn6 : upd (upd H4 f (.dT [])) d (.frz ob (.dT pkv)) n = some (.dT nkv):=by rw [upd_ne hdn.symm]; exact s5 _ _ hn4
   have hf6 : upd (upd H4 f (.dT [])) d (.frz ob (.dT pkv)) f = some (.dT []):=by rw [upd_ne hdf.symm,upd_same]
   have fi6:=fi5.mono T6
   have hprs6 : Paired (KvAt (upd (upd H4 f (.dT [])) d (.frz ob (.dT pkv)))) prs pkv:=Paired.mapP hprs fun _ _ ⟨⟨b,e,hb⟩,e2⟩=>⟨⟨b,e,T6 _ _ hb⟩,e2⟩
   have hprl : prs.length = pkv.length:=Paired.length hprs
   have hpkl:=fi6.len
   generalize upd (upd H4 f (.dT [])) d (.frz ob (.dT pkv)) = H6 at s6 hd6 hn6 hf6 fi6 hprs6 ⊢
   refine for_itemsT (d:=d) (o:=ob) (u:=.dT pkv) (ps:=prs) (fun i σ H7=>∃ (fkv : List (List Key × V)) (v7 v8 : Option V),σ = [some (.ref a),some (.ref d),some (.ref n),v3,v4,v5,some (.ref f),v7,v8]∧Same H H7∧Tups H6 H7∧H7 d = some (.frz ob (.dT pkv))∧H7 n = some (.dT nkv)∧H7 f = some (.dT fkv)∧fkv.length ≤ i∧∀ j kv,j < i→pkv[j]? = some kv→∃ x p nm,kv.1 = key2 x∧Mk (mlsOf (plsOf ps)) (llsOf (plsOf ps)) x p∧(p,nm) ∈ nlsOf (mlsOf (plsOf ps)) ts∧valV fkv (key2 x) = some (.str nm))
    ⟨[],none,none,rfl,s6,Tups.refl H6,hd6,hn6,hf6,by simp,fun j kv hj=>by omega⟩ (fun i σ H7 _ ⟨_,_,_,_,_,_,h,_⟩=>h) ?_ ?_
   ·rintro i kv' pa σ H7 hkv' ⟨fkv,v7,v8,rfl,s7,t7,hd7,hn7,hf7,hfl,hdone⟩ gpa
    obtain ⟨kv,hkv,⟨b,eb,hb⟩,ev2⟩:=Paired.get? hprs6 hkv'
    have hi : i < pkv.length:=(List.getElem?_eq_some_iff.mp hkv).1
    have hsub:=fi6.sub kv.1 (List.mem_map_of_mem (f:=(·.1)) (List.mem_of_getElem? hkv))
    obtain ⟨x,hxm,ex⟩:=List.mem_map.mp hsub
    have hval:=val_here fi6.nd hkv
    rw [← ex] at hval hb
    obtain ⟨t,p',ev,ht,hmk⟩:=fi6.val x _ hval
    obtain ⟨k',hk'⟩:=hmk.place
    obtain ⟨m,hm⟩:=List.getElem?_of_mem hk'
    have hmt : m < ts.length:=by
     have:=(List.getElem?_eq_some_iff.mp hm).1
     omega
    have hnm:=List.mem_of_getElem? (nls_at hm (List.getElem?_eq_getElem hmt))
    have hnval:=nv_val hnv (by rw [hnf]; exact hpnd) hnm
    generalize (ts[m]).2.2 = nm at hnm hnval
    have s8 : Same H7 (upd H7 pa (.tup [kv'.1,kv'.2])):=(Same.refl H7).new gpa
    refine ⟨pa,_,rfl,SqT.of upd_same,rfl,_,_,rfl,_,_,rfl,rfl,?_⟩
    rw [eb,ev2,ev] at s8 ⊢
    generalize upd H7 pa (.tup [V.ref b,V.ref t]) = H8 at s8 ⊢
    have hget : DGet H8 n (.ref t) (some (.str nm)):=by
     have h1:=DGet.t (k:=kp p') (s8 _ _ hn7) (s8 _ _ (t7 _ _ ht))
     rw [hnval] at h1
     exact h1
    have hf8:=s8 _ _ hf7
    refine ⟨_,rfl,_,rfl,n,_,rfl,hget,_,rfl,_,rfl,f,_,rfl,DPut.t (k:=key2 x) hf8 (s8 _ _ (t7 _ _ hb)) (szK (by omega)),?_⟩
    have TD:=Tups.dT (kvs':=putK fkv (key2 x) (.str nm)) hf8
    refine ⟨putK fkv (key2 x) (.str nm),_,_,rfl,(s7.trans s8).put gfH,t7.trans (s8.tups.trans TD),by rw [upd_ne hdf]; exact s8 _ _ hd7,by rw [upd_ne hfn.symm]; exact s8 _ _ hn7,upd_same,?_,fun j kj hj hkj=>?_⟩
    ·have:=length_putK fkv (key2 x) (.str nm)
     omega
    ·by_cases hji : j = i
     ·subst hji
      rw [hkv] at hkj
      cases hkj
      exact ⟨x,p',nm,ex.symm,hmk,hnm,by rw [valV_put,if_pos rfl]⟩
     ·obtain ⟨x2,p2,n2,h1,h2,h3,h4⟩:=hdone j kj (by omega) hkj
      by_cases hxx : key2 x2 = key2 x
      ·rw [key2_inj hxx] at h1
       exact ⟨x,p',nm,h1,hmk,hnm,by rw [valV_put,if_pos rfl]⟩
      ·exact ⟨x2,p2,n2,h1,h2,h3,by rw [valV_put,if_neg hxx]; exact h4⟩
   ·rintro σ H7 ⟨fkv,v7,v8,rfl,s7,t7,hd7,hn7,hf7,hfl,hdone⟩
    refine ⟨_,rfl,q f fkv ts H7 s7 hf7 hks hnn fun x hx=>?_⟩
    have hsome : (valV pkv (key2 x)).isSome = true:=by
     rcases List.mem_append.mp hx with z | z
     ·exact fi1.has x z
     ·exact hall x z
    cases e : valV pkv (key2 x) with
    | none=>rw [e] at hsome; cases hsome
    | some v =>
     obtain ⟨kv,hkv,ek⟩:=List.mem_map.mp (valV_in e)
     obtain ⟨j,hj⟩:=List.getElem?_of_mem hkv
     have hjl:=(List.getElem?_eq_some_iff.mp hj).1
     obtain ⟨x2,p2,n2,h1,h2,h3,h4⟩:=hdone j kv (by omega) hj
     have : x2 = x:=key2_inj (h1.symm.trans ek)
     subst this
     exact ⟨p2,n2,h2,h3,h4⟩
theorem key_here {β : Type} {F : Hp→List Key × V→Kk × β→Prop} (hF : ∀ H kv x,F H kv x→kv.1 = key2 x.1) {H : Hp} {vs : List V} {kvs : List (List Key × V)} {xs : List (Kk × β)} (h1 : Paired (KeyAt H) vs kvs) (h2 : Paired (F H) kvs xs) : Paired (OwAt H) vs (xs.map (·.1)):=by
 induction h1 generalizing xs with
 | nil=>cases h2; exact .nil
 | cons a t ih =>
  cases h2 with
  | cons b t2 =>
   obtain ⟨c,e,hc⟩:=a
   rw [hF _ _ _ b] at hc
   exact .cons ⟨c,e,hc⟩ (ih t2)
def muW (σ : L2.St) : Nat:=match σ[8]? with
 | some (some (V.int n))=>(6000 - n).toNat
 | _=>0
def nmM (o : Str) (m : Nat) : Str:=if m = 1 then o else o ++ nt m
theorem few2 {own : Str} {L : List Str} {n : Nat} (hn : n ≤ 6000) (h : ∀ j,2 ≤ j→j < n→own ++ nt j ∈ L) : n ≤ L.length + 2:=by
 have:=few (own:=own) (kvs:=L.map fun y=>((Sum.inr y : Key),V.non)) hn (fun j h1 h2=>by
  rw [← valV_any]
  exact List.any_eq_true.mpr ⟨_,List.mem_map_of_mem (h j h1 h2),by simp⟩)
 rw [List.length_map] at this
 exact this
theorem nls_snoc {mls : List (Kk × (Str × Nat))} {ts : List Tr} (h : ts.length = mls.length) (x : Kk × (Str × Nat)) (t : Tr) : nlsOf (mls ++ [x]) (ts ++ [t]) = nlsOf mls ts ++ [(x.2,t.2.2)]:=by
 unfold nlsOf newsOf
 rw [List.map_append,List.map_append,List.zip_append (by rw [List.length_map,List.length_map,h])]
 rfl
def spLNews : Sp:=fun vs H Q _=>∃ (a : Addr) (ps : List Pt),vs = [.ref a]∧PartsF H a ps∧PsFit ps∧NetOk (plsOf ps)∧(∀ k ∈ mkeys (plsOf ps),k.2.length ≤ 100)∧∀ (d : Addr) (nkv : List (List Key × V)) (ts : List Tr) (H' : Hp),Same H H'→H' d = some (.dT nkv)→ts.map (fun t=>(t.1,t.2.1)) = mkeys (plsOf ps)→NNAt ((mkeys (plsOf ps)).map (·.2)) ts→Paired NvAt nkv (nlsOf (mlsOf (plsOf ps)) ts)→Q (.ref d) H'
theorem ok_lnews (T : Txt K mg) : L2.Cl P w K mg base 2 "_law_news" ["_law_parts_here"] spLNews:=by
 have C_law_made:=ok_lmade (P:=P) (w:=w) (base:=base) T
 refine Cl.of T.d_law_news sc_law_news (fun vs H Q E h=>?_) (fun _ _ _ _ _ _ us hl=>by obtain ⟨a,rfl⟩:=len1 hl; rfl) (fun fa cdv A outer s H vs Q E hr h=>?_)
 ·obtain ⟨a,ps,rfl,_⟩:=h
  rfl
 ·obtain ⟨a,ps,rfl,hpf,hfit,hnet,hklen,q⟩:=h
  have hu:=hu_of hr
  have hpl:=hnet.len
  obtain ⟨o,vs,ha,ho,hps⟩:=id hpf
  have hvl : vs.length = ps.length:=Paired.length hps
  have hhi:=hfit.hi
  have hml:=mls_len (plsOf ps)
  have hpnd:=places_nodup hfit.nd
  refine ⟨_,(@pss_cons _ _ _ _ _ (@ps_setC _ _ _ _ _ _ _ (["_law_name_here", "_law_own"]) ([none,none]) _ _ _ _ (1) _ _ _ (defScope s_law_news) ["_law_parts_here", "_law_owns", "_law_news_here", "_law_used", "_law_name_here", "_law_rows", "_law_k", "_law_new", "_law_number"] ⟨rfl,by decide +kernel,by decide +kernel,by decide +kernel,rfl,by decide +kernel,by decide +kernel⟩ sc_law_news.nd rfl (Or.inl rfl) (@pi_dictT _ _ _ _ (@pe_fn _ _ _ _ _ _ _ _ _ _ _ C_law_made hr (by rfl) (@pa_cons _ _ _ _ _ (@pv _ 0 _ _ (by rfl) (by first   | exact Or.inl rfl   | exact Or.inr (Or.inl rfl)   | exact Or.inr (Or.inr rfl)) (by decide) (by decide)) (@pa_nil _) (by rfl)) (by decide) (by decide) (by rfl) (by rfl))) (fun _ _ _ _ _ _=>(@pg_tupK _ (K) _ _ _ _ (2) rfl rfl (@pgs_cons _ _ _ _ _ (@pg_name _ _ (0) _ (show (["_law_name_here", "_law_own"] : List Str).Nodup by decide +kernel) rfl (Or.inl rfl) (by first   | exact .inl rfl   | exact .inr rfl   | assumption)) (@pgs_cons _ _ _ _ _ (@pg_name _ _ (1) _ (show (["_law_name_here", "_law_own"] : List Str).Nodup by decide +kernel) rfl (Or.inl rfl) (by first   | exact .inl rfl   | exact .inr rfl   | assumption)) (@pgs_nil _) (by rfl)) (by rfl)) (by rfl) (by rfl))) (fun _ _ _ _ _ _=>@pts_nil _) (fun _ _ _ _ _ _=>(@pv _ 1 _ _ (by rfl) (by first   | exact Or.inl rfl   | exact Or.inr (Or.inl rfl)   | exact Or.inr (Or.inr rfl)) (by decide) (by decide))) (by rfl) (by rfl) (by rfl) (by rfl) (by intro _; rfl) (by first   | exact .inl rfl   | exact .inr rfl   | assumption)) (@pss_cons _ _ _ _ _ (@ps_set _ _ (2) _ _ _ _ sc_law_news.nd rfl (Or.inl rfl) (@pe_dnewT _ _) (by rfl) (by first   | exact .inl rfl   | exact .inr rfl   | assumption)) (@pss_cons _ _ _ _ _ (@ps_set _ _ (3) _ _ _ _ sc_law_news.nd rfl (Or.inl rfl) (@pe_dnewK _ _) (by rfl) (by first   | exact .inl rfl   | exact .inr rfl   | assumption)) (@pss_cons _ _ _ _ _ (@ps_for _ _ _ _ _ _ _ _ PassesOwn.never rfl (@pi_tup _ _ _ _ (@pv _ 0 _ _ (by rfl) (by first   | exact Or.inl rfl   | exact Or.inr (Or.inl rfl)   | exact Or.inr (Or.inr rfl)) (by decide) (by decide))) (@pg_tup _ _ _ _ _ _ rfl (@pgs_cons _ _ _ _ _ (@pg_name _ _ (4) _ sc_law_news.nd rfl (Or.inl rfl) (by first   | exact .inl rfl   | exact .inr rfl   | assumption)) (@pgs_cons _ _ _ _ _ (@pg_name _ _ (5) _ sc_law_news.nd rfl (Or.inl rfl) (by first   | exact .inl rfl   | exact .inr rfl   | assumption)) (@pgs_nil _) (by rfl)) (by rfl)) (by rfl) (by rfl)) (@pss_one _ _ _ (@ps_for _ _ _ _ _ _ _ _ PassesOwn.never rfl (@pi_range1 _ _ _ _ _ _ (by rfl) T.n_range (@pa_cons _ _ _ _ _ (@pe_callB _ _ _ _ _ _ _ _ _ (@call_len_seq _) (by rfl) T.n_len PySem.boot_len (@pa_cons _ _ _ _ _ (@pv _ 5 _ _ (by rfl) (by first   | exact Or.inl rfl   | exact Or.inr (Or.inl rfl)   | exact Or.inr (Or.inr rfl)) (by decide) (by decide)) (@pa_nil _) (by rfl)) (by decide) (by decide) (by rfl) (by rfl)) (@pa_nil _) (by rfl)) (by rfl)) (@pg_name _ _ (6) _ sc_law_news.nd rfl (Or.inl rfl) (by first   | exact .inl rfl   | exact .inr rfl   | assumption)) (@pss_one _ _ _ (@ps_if _ _ _ _ _ _ _ _ (PW.pt (@pw_or _ _ _ _ _ _ _ (@pt_cmpR _ _ _ _ _ _ _ _ (@op_eq _) (@pe_ix _ _ _ _ _ _ _ (@ix_tup _) (@pe_ix _ _ _ _ _ _ _ (@ix_tup _) (@pv _ 5 _ _ (by rfl) (by first   | exact Or.inl rfl   | exact Or.inr (Or.inl rfl)   | exact Or.inr (Or.inr rfl)) (by decide) (by decide)) (@pv _ 6 _ _ (by rfl) (by first   | exact Or.inl rfl   | exact Or.inr (Or.inl rfl)   | exact Or.inr (Or.inr rfl)) (by decide) (by decide)) (fun _ _=>rfl)) (@pe_int _ _ _ _) (fun _ _=>rfl)) (@pe_str _ _ _ _) (nomark _)) (@pw_or1 _ _ _ _ (@pt_cmpR _ _ _ _ _ _ _ _ (@op_eq _) (@pe_ix _ _ _ _ _ _ _ (@ix_tup _) (@pe_ix _ _ _ _ _ _ _ (@ix_tup _) (@pv _ 5 _ _ (by rfl) (by first   | exact Or.inl rfl   | exact Or.inr (Or.inl rfl)   | exact Or.inr (Or.inr rfl)) (by decide) (by decide)) (@pv _ 6 _ _ (by rfl) (by first   | exact Or.inl rfl   | exact Or.inr (Or.inl rfl)   | exact Or.inr (Or.inr rfl)) (by decide) (by decide)) (fun _ _=>rfl)) (@pe_int _ _ _ _) (fun _ _=>rfl)) (@pe_str _ _ _ _) (nomark _))))) (@pss_cons _ _ _ _ _ (@ps_set _ _ (7) _ _ _ _ sc_law_news.nd rfl (Or.inl rfl) (@pe_ix _ _ _ _ _ _ _ (@ix_tup _) (@pe_ix _ _ _ _ _ _ _ (@ix_tup _) (@pv _ 5 _ _ (by rfl) (by first   | exact Or.inl rfl   | exact Or.inr (Or.inl rfl)   | exact Or.inr (Or.inr rfl)) (by decide) (by decide)) (@pv _ 6 _ _ (by rfl) (by first   | exact Or.inl rfl   | exact Or.inr (Or.inl rfl)   | exact Or.inr (Or.inr rfl)) (by decide) (by decide)) (fun _ _=>rfl)) (@pe_int _ _ _ _) (fun _ _=>rfl)) (by rfl) (by first   | exact .inl rfl   | exact .inr rfl   | assumption)) (@pss_cons _ _ _ _ _ (@ps_set _ _ (8) _ _ _ _ sc_law_news.nd rfl (Or.inl rfl) (@pe_int _ _ _ _) (by rfl) (by first   | exact .inl rfl   | exact .inr rfl   | assumption)) (@pss_cons _ _ _ _ _ (@ps_while _ _ _ _ _ _ PassesOwn.never (PW.pt (@pw_or _ _ _ _ _ _ _ (@pt_cmp _ _ _ _ _ _ (@pc_din _ _ _ _ _ hu (@pv _ 7 _ _ (by rfl) (by first   | exact Or.inl rfl   | exact Or.inr (Or.inl rfl)   | exact Or.inr (Or.inr rfl)) (by decide) (by decide)) (@pv _ 3 _ _ (by rfl) (by first   | exact Or.inl rfl   | exact Or.inr (Or.inl rfl)   | exact Or.inr (Or.inr rfl)) (by decide) (by decide))) (by first   | exact nobehind _ (by decide) (by decide)   | rfl)) (@pw_or1 _ _ _ _ (PW.pt (@pw_and _ _ _ _ _ _ _ (@pt_cmpR _ _ _ _ _ _ _ _ (@op_gt _) (@pv _ 8 _ _ (by rfl) (by first   | exact Or.inl rfl   | exact Or.inr (Or.inl rfl)   | exact Or.inr (Or.inr rfl)) (by decide) (by decide)) (@pe_int _ _ _ _) (nomark _)) (@pw_and1 _ _ _ _ (@pt_cmpR _ _ _ _ _ _ _ _ (@op_in_seq _) (@pv _ 7 _ _ (by rfl) (by first   | exact Or.inl rfl   | exact Or.inr (Or.inl rfl)   | exact Or.inr (Or.inr rfl)) (by decide) (by decide)) (@pv _ 1 _ _ (by rfl) (by first   | exact Or.inl rfl   | exact Or.inr (Or.inl rfl)   | exact Or.inr (Or.inr rfl)) (by decide) (by decide)) (by with_unfolding_all rfl)))))))) (@pss_cons _ _ _ _ _ (@ps_set _ _ (8) _ _ _ _ sc_law_news.nd rfl (Or.inl rfl) (@pe_op _ _ _ _ _ _ _ _ (@op_add _) (@pv _ 8 _ _ (by rfl) (by first   | exact Or.inl rfl   | exact Or.inr (Or.inl rfl)   | exact Or.inr (Or.inr rfl)) (by decide) (by decide)) (@pe_int _ _ _ _)) (by rfl) (by first   | exact .inl rfl   | exact .inr rfl   | assumption)) (@pss_one _ _ _ (@ps_set _ _ (7) _ _ _ _ sc_law_news.nd rfl (Or.inl rfl) (@pe_op _ _ _ _ _ _ _ _ (@op_add_str _) (@pe_ix _ _ _ _ _ _ _ (@ix_tup _) (@pe_ix _ _ _ _ _ _ _ (@ix_tup _) (@pv _ 5 _ _ (by rfl) (by first   | exact Or.inl rfl   | exact Or.inr (Or.inl rfl)   | exact Or.inr (Or.inr rfl)) (by decide) (by decide)) (@pv _ 6 _ _ (by rfl) (by first   | exact Or.inl rfl   | exact Or.inr (Or.inl rfl)   | exact Or.inr (Or.inr rfl)) (by decide) (by decide)) (fun _ _=>rfl)) (@pe_int _ _ _ _) (fun _ _=>rfl)) (@pe_callTy _ _ _ _ _ _ _ _ _ (@call_str_int _) (by rfl) T.n_str boot_str (@pa_cons _ _ _ _ _ (@pv _ 8 _ _ (by rfl) (by first   | exact Or.inl rfl   | exact Or.inr (Or.inl rfl)   | exact Or.inr (Or.inr rfl)) (by decide) (by decide)) (@pa_nil _) (by rfl)) (by decide) (by decide) (by rfl) (by rfl))) (by rfl) (by first   | exact .inl rfl   | exact .inr rfl   | assumption))))) (@pss_cons _ _ _ _ _ (@ps_dput _ _ _ _ _ _ _ _ _ hu (@pv _ 3 _ _ (by rfl) (by first   | exact Or.inl rfl   | exact Or.inr (Or.inl rfl)   | exact Or.inr (Or.inr rfl)) (by decide) (by decide)) (@pv _ 7 _ _ (by rfl) (by first   | exact Or.inl rfl   | exact Or.inr (Or.inl rfl)   | exact Or.inr (Or.inr rfl)) (by decide) (by decide)) (@pe_bl _ _ _ _) rfl) (@pss_one _ _ _ (@ps_dput _ _ _ _ _ _ _ _ _ hu (@pv _ 2 _ _ (by rfl) (by first   | exact Or.inl rfl   | exact Or.inr (Or.inl rfl)   | exact Or.inr (Or.inr rfl)) (by decide) (by decide)) (@pe_tup _ _ _ _ _ (@pa_cons _ _ _ _ _ (@pv _ 4 _ _ (by rfl) (by first   | exact Or.inl rfl   | exact Or.inr (Or.inl rfl)   | exact Or.inr (Or.inr rfl)) (by decide) (by decide)) (@pa_cons _ _ _ _ _ (@pv _ 6 _ _ (by rfl) (by first   | exact Or.inl rfl   | exact Or.inr (Or.inl rfl)   | exact Or.inr (Or.inr rfl)) (by decide) (by decide)) (@pa_nil _) (by rfl)) (by rfl))) (@pv _ 7 _ _ (by rfl) (by first   | exact Or.inl rfl   | exact Or.inr (Or.inl rfl)   | exact Or.inr (Or.inr rfl)) (by decide) (by decide)) rfl)))))) (@pss_nil _))) (by intro _; rfl))) (by intro _; rfl)) (@pss_one _ _ _ (@ps_ret _ _ _ _ (@pv _ 2 _ _ (by rfl) (by first   | exact Or.inl rfl   | exact Or.inr (Or.inl rfl)   | exact Or.inr (Or.inr rfl)) (by decide) (by decide)))))))),?_⟩
  refine ⟨_,rfl,a,ps,rfl,hpf,hfit,hnet,fun md mkv H1 s1 gmd hmd hmk=>⟨md,mkv,rfl,hmd,fun ob ks hks=>fun D hD=>?_⟩⟩
  have hmne : D ≠ md:=fun z=>by rw [z,upd_same] at hD; cases hD
  have gD1 : H1 D = none:=by rw [upd_ne hmne] at hD; exact hD
  have T1 : Tups H1 (upd H1 md (.frz ob (.dT mkv))):=Tups.frz hmd
  have sF : Same H (upd H1 md (.frz ob (.dT mkv))):=s1.put gmd
  have hks' : Paired (OwAt (upd H1 md (.frz ob (.dT mkv)))) ks ((mlsOf (plsOf ps)).map (·.1)):=Paired.mapP (key_here (F:=MvAt) (fun _ _ _ h=>h.1) hks hmk) fun _ _ z=>z.mono T1
  have hkl : ks.length = (mlsOf (plsOf ps)).length:=by rw [Paired.length hks',List.length_map]
  have hmdF : upd H1 md (.frz ob (.dT mkv)) md = some (.frz ob (.dT mkv)):=upd_same
  generalize upd H1 md (.frz ob (.dT mkv)) = HF at hD sF hks' hmdF T1 ⊢
  refine comp_by ks.length (fun i σ H2=>∃ (v0 v1 : Option V),σ = [v0,v1]∧Same HF H2∧H2 D = some (.lst ((((mkeys (plsOf ps)).map (·.2)).take i).map V.str))) ⟨_,_,rfl,(Same.refl HF).new hD,by rw [List.take_zero]; exact upd_same⟩ ?_ ?_
  ·rintro i σ H2 hi ⟨v0,v1,rfl,s2,hD2⟩
   refine ⟨⟨s2 _ _ hmdF,hi⟩,?_⟩
   rintro x H3 ⟨rfl,hx⟩
   obtain ⟨k,hk,c,ec,hc⟩:=Paired.get? hks' hx
   subst ec
   refine ⟨c,_,rfl,SqT.of (s2 _ _ hc),rfl,_,_,rfl,_,_,rfl,rfl,?_⟩
   have hk2 : ((mkeys (plsOf ps)).map (·.2))[i]? = some k.2:=by
    rw [mkeys_mls,List.getElem?_map,hk]
    rfl
   refine ⟨_,rfl,_,hD2,small1000 (by rw [List.length_map,List.length_take,List.length_map,mkeys_mls,List.length_map]; omega),_,_,rfl,s2.put hD,?_⟩
   rw [upd_same,take_succ_get hk2,List.map_append]
   rfl
  ·rintro σ H2 ⟨v0,v1,rfl,s2,hD2⟩
   refine ⟨⟨s2 _ _ hmdF,Nat.le_refl _⟩,?_⟩
   rw [hkl,List.take_of_length_le (by rw [List.length_map,mkeys_mls,List.length_map]; omega)] at hD2
   generalize hmdl : (mkeys (plsOf ps)).map (·.2) = mdl at *
   have hmdlen : mdl.length ≤ 960:=by rw [← hmdl,List.length_map,mkeys_mls,List.length_map]; omega
   have sH2 : Same H H2:=sF.trans s2
   have ha2:=sH2 _ _ ha
   have hps2 : Paired (PartAt H2) vs ps:=Paired.mapP hps fun _ _ z=>z.mono sH2.tups
   have sqa : ∀ {H5 : Hp},Same H2 H5→SqT K H5 a vs:=fun s5=>.inl (.inr ⟨o,s5 _ _ ha2⟩)
   intro n gn
   intro us gus
   have hnu : n ≠ us:=fun z=>by rw [← z,upd_same] at gus; cases gus
   have gus2 : H2 us = none:=by rw [← upd_ne (H:=H2) (o:=.dT []) hnu.symm]; exact gus
   have s3 : Same H2 (upd (upd H2 n (.dT [])) us (.dK [])):=((Same.refl H2).new gn).new gus
   refine ⟨_,rfl,a,rfl,⟨_,sqa s3⟩,for_tup (K:=K) (a:=a) (xs:=vs) (fun i σ H3=>∃ (nkv : List (List Key × V)) (lu : List Str) (ts : List Tr) (v4 v5 v6 v7 v8 : Option V),σ = [some (.ref a),some (.ref D),some (.ref n),some (.ref us),v4,v5,v6,v7,v8]∧Same H2 H3∧H3 n = some (.dT nkv)∧H3 us = some (.dK (setD lu))∧(∀ y,y ∈ lu↔y ∈ newsOf ts)∧lu.length ≤ ts.length∧ts.map (fun t=>(t.1,t.2.1)) = mkeys (plsOf (ps.take i))∧NNAt mdl ts∧Paired NvAt nkv (nlsOf (mlsOf (plsOf (ps.take i))) ts))
    ⟨[],[],[],none,none,none,none,none,rfl,s3,by rw [upd_ne hnu,upd_same],upd_same,fun y=>by simp [newsOf],Nat.le_refl _,by rw [List.take_zero]; rfl,fun i t e=>by simp at e,by rw [List.take_zero]; exact .nil⟩ (fun i σ H3 _ ⟨_,_,_,_,_,_,_,_,_,s4,_⟩=>sqa s4) ?_ ?_⟩
   ·rintro i y σ H3 hy ⟨nkv,lu,ts,v4,v5,v6,v7,v8,rfl,s4,hn4,hus4,hlu,hlul,hts,hnn,hnv⟩
    obtain ⟨pt,hpt,t,u,ws,ey,ht,hu',hrs⟩:=Paired.get? hps2 hy
    subst ey
    have hwl : ws.length = pt.2.length:=Paired.length hrs
    have hr40:=hfit.rows _ (List.mem_of_getElem? hpt)
    refine ⟨t,_,rfl,SqT.of (s4 _ _ ht),rfl,_,_,rfl,_,_,rfl,rfl,?_⟩
    refine ⟨_,rfl,u,_,rfl,.inr (SqT.of (s4 _ _ hu')),_,rfl,(by omega),(by omega),for_range (fun j σ H4=>∃ (nkv : List (List Key × V)) (lu : List Str) (ts : List Tr) (v6 v7 v8 : Option V),σ = [some (.ref a),some (.ref D),some (.ref n),some (.ref us),some (.str pt.1),some (.ref u),v6,v7,v8]∧Same H2 H4∧H4 n = some (.dT nkv)∧H4 us = some (.dK (setD lu))∧(∀ y,y ∈ lu↔y ∈ newsOf ts)∧lu.length ≤ ts.length∧ts.map (fun t=>(t.1,t.2.1)) = mkeys (plsOf (ps.take i) ++ rowsPl pt.1 (pt.2.take j))∧NNAt mdl ts∧Paired NvAt nkv (nlsOf (mlsOf (plsOf (ps.take i) ++ rowsPl pt.1 (pt.2.take j))) ts))
     ⟨nkv,lu,ts,_,_,_,rfl,s4,hn4,hus4,hlu,hlul,by rw [List.take_zero]; show _ = mkeys (plsOf (ps.take i) ++ []); rw [List.append_nil]; exact hts,hnn,by rw [List.take_zero]; show Paired _ nkv (nlsOf (mlsOf (plsOf (ps.take i) ++ [])) ts); rw [List.append_nil]; exact hnv⟩ ?_ ?_⟩
    ·rintro j σ H4 hj ⟨nkv,lu,ts,w6,w7,w8,rfl,s5,hn5,hus5,hlu,hlul,hts,hnn,hnv⟩
     rw [Int.zero_add]
     have hj' : j < pt.2.length:=by omega
     obtain ⟨rr,hrw⟩ : ∃ rr,pt.2[j]? = some rr:=⟨pt.2[j],by simp [hj']⟩
     obtain ⟨rest,hsp⟩:=pls_at hpt hrw
     have hX:=pls_snoc (ps:=ps) (i:=i) hrw
     obtain ⟨v,hv,r,er,hra⟩:=Paired.get?' hrs hrw
     subst er
     have hra4:=hra.mono s5.tups
     have hu4:=s5 _ _ hu'
     have hat : atI ws (j : Int) = some (.ref r):=atI_nat hv
     generalize plsOf (ps.take i) ++ rowsPl pt.1 (pt.2.take j) = Xs at hts hnv hsp hX
     have hXl : Xs.length ≤ 960:=by
      have h1:=congrArg List.length hsp
      rw [List.length_append] at h1
      omega
     have htl : ts.length = (mlsOf Xs).length:=by
      have:=congrArg List.length hts
      rw [List.length_map,mkeys_mls,List.length_map] at this
      exact this
     have hmX:=mls_len Xs
     have hnkl : nkv.length ≤ 960:=by
      rw [Paired.length hnv]
      unfold nlsOf newsOf
      rw [List.length_zip,List.length_map,List.length_map]
      omega
     have hsp1 : plsOf ps = (Xs ++ [(pt.1,j,rr)]) ++ rest:=by rw [hsp,List.append_assoc]; rfl
     rcases row_own hra4 with ⟨o,rs,hkd,ho',hrt⟩ | ⟨hkd,ho'⟩
     ·have hm3 : mlsOf [(pt.1,j,rr)] = [((pt.1,o),(pt.1,j))]:=by simp [mlsOf,ho']
      have hk3 : mkeys [(pt.1,j,rr)] = [(pt.1,o)]:=by simp [mkeys,ho']
      have hkX : mkeys (Xs ++ [(pt.1,j,rr)]) = mkeys Xs ++ [(pt.1,o)]:=by rw [← hk3]; unfold mkeys; rw [List.filterMap_append]
      have hol : o.length ≤ 100:=hklen (pt.1,o) (by
       rw [hsp1]
       unfold mkeys at hkX ⊢
       rw [List.filterMap_append,hkX]
       simp)
      have hpnew : (pt.1,j) ∉ (nlsOf (mlsOf Xs) ts).map (·.1):=by
       rw [nls_fst htl]
       intro z
       rw [hsp1,mls_app,mls_app,hm3,List.map_append,List.map_append] at hpnd
       exact (List.nodup_append.mp (List.nodup_append.mp hpnd).1).2.2 _ z _ (List.mem_singleton.mpr rfl) rfl
      have z1 : ∀ kd : Str,atI (V.str kd :: V.str o :: rs) 1 = some (.str o):=fun kd=>atI_nat (j:=1) rfl
      have z0 : ∀ kd : Str,atI (V.str kd :: V.str o :: rs) 0 = some (.str kd):=fun kd=>atI_nat (j:=0) rfl
      have hlog : ∀ n : Nat,n ≤ 6000→((n : Int)).natAbs.log2 < 1920:=fun n hn=>by
       rw [Int.natAbs_natCast n]
       by_cases hz : n = 0
       ·subst hz; decide
       ·have:=(Nat.log2_lt hz).mpr (show n < 2 ^ 13 by omega)
        omega
      have hsz : ∀ n : Nat,n ≤ 6000→o.length + (nt n).length ≤ sizeLine:=fun n hn=>by
       have:=(nt_len n (by omega)).2
       exact Nat.le_of_lt (small1000 (by omega))
      rcases hkd with e | e <;> rw [e] at hrt
      refine ⟨_,rfl,_,rfl,u,_,_,_,rfl,rfl,SqT.of hu4,hat,r,_,_,_,rfl,rfl,SqT.of hrt,z0 _,rfl,_,rfl,iteSE (iteT ?_)⟩
      rotate_left
      refine ⟨_,rfl,_,rfl,u,_,_,_,rfl,rfl,SqT.of hu4,hat,r,_,_,_,rfl,rfl,SqT.of hrt,z0 _,rfl,_,rfl,iteSN (show ¬ ("take" : Str) = "set" by decide +kernel) ?_⟩
      refine ⟨_,rfl,_,rfl,u,_,_,_,rfl,rfl,SqT.of hu4,hat,r,_,_,_,rfl,rfl,SqT.of hrt,z0 _,rfl,_,rfl,iteSE ?_⟩
      all_goals
       refine ⟨_,rfl,_,rfl,u,_,_,_,rfl,rfl,SqT.of hu4,hat,r,_,_,_,rfl,rfl,SqT.of hrt,z1 _,?_⟩
       apply nx_set_while
       ·with_reducible_and_instances rfl
       refine while_by (fun σ H5=>∃ m : Nat,σ = [some (.ref a),some (.ref D),some (.ref n),some (.ref us),some (.str pt.1),some (.ref u),some (.int (j : Int)),some (.str (nmM o m)),some (.int (m : Int))]∧H5 = H4∧1 ≤ m∧m ≤ 5000∧(2 ≤ m→o ∈ lu)∧∀ k,2 ≤ k→k < m→(o ++ nt k ∈ lu∨o ++ nt k ∈ mdl)) (fun σ _=>muW σ) ⟨1,rfl,rfl,by omega,by omega,fun h=>by omega,fun k h1 h2=>by omega⟩ ?_ ?_
       ·rintro σ H5 ⟨m,rfl,rfl,hm1,hm2,hmo,hmk'⟩
        have hDD : H5 D = some (.lst (mdl.map V.str)):=s5 _ _ hD2
        refine tor_pure (a:=decide (nmM o m ∈ lu)) (b:=decide (1 < m) && decide (nmM o m ∈ mdl)) (fun Q' h=>?_) (tand_pure (fun Q' h=>?_) (fun Q' h=>?_)) ?_
        ·refine ⟨_,rfl,_,rfl,us,_,rfl,DGet.k (k:=Sum.inr (nmM o m)) hus5,_,rfl,?_⟩
         rw [setD_some]
         exact h
        ·refine ⟨_,rfl,_,_,rfl,rfl,_,rfl,?_⟩
         rw [show decide ((1 : Int) < (m : Int)) = decide (1 < m) by simp only [decide_eq_decide]; omega]
         exact h
        ·refine ⟨_,rfl,_,rfl,D,_,rfl,.inl (SqL.of hDD),rfl,flat_strs _,_,rfl,?_⟩
         rw [inV_strs]
         exact h
        ·by_cases hc : (decide (nmM o m ∈ lu) || (decide (1 < m) && decide (nmM o m ∈ mdl))) = true
         ·rw [hc]
          refine iteT ?_
          have hc' : nmM o m ∈ lu∨(1 < m∧nmM o m ∈ mdl):=by simpa using hc
          have ho1 : o ∈ lu:=by
           by_cases h1 : m = 1
           ·rcases hc' with z | z
            ·rw [h1] at z
             exact z
            ·omega
           ·exact hmo (by omega)
          have hall : ∀ k,2 ≤ k→k < m + 1→(o ++ nt k ∈ lu∨o ++ nt k ∈ mdl):=fun k h1 h2=>by
           by_cases h3 : k < m
           ·exact hmk' k h1 h3
           ·have h4 : k = m:=by omega
            subst h4
            have h5 : nmM o k = o ++ nt k:=if_neg (by omega)
            rw [h5] at hc'
            rcases hc' with z | z
            ·exact .inl z
            ·exact .inr z.2
          have hfew:=few2 (own:=o) (L:=lu ++ mdl) (n:=m + 1) (by omega) fun k h1 h2=>List.mem_append.mpr (hall k h1 h2)
          rw [List.length_append] at hfew
          have em : ((m : Int) + 1) = ((m + 1 : Nat) : Int):=by omega
          refine ⟨_,rfl,_,_,rfl,rfl,?_⟩
          show gName 8 (V.int ((m + 1 : Nat) : Int)) _ _ _
          refine ⟨_,rfl,_,rfl,u,_,_,_,rfl,rfl,SqT.of hu4,hat,r,_,_,_,rfl,rfl,SqT.of hrt,z1 _,_,rfl,_,rfl,hlog (m + 1) (by omega),_,_,rfl,rfl,hsz (m + 1) (by omega),?_⟩
          refine ⟨⟨m + 1,?_,rfl,by omega,by omega,fun _=>ho1,hall⟩,?_⟩
          ·have h5 : nmM o (m + 1) = o ++ nt (m + 1):=if_neg (by omega)
           rw [h5]
           rfl
          ·show muW [some (V.ref a),some (.ref D),some (.ref n),some (.ref us),some (.str pt.1),some (.ref u),some (.int (j : Int)),some (.str (o ++ nt (m + 1))),some (.int ((m + 1 : Nat) : Int))] < muW [some (.ref a),some (.ref D),some (.ref n),some (.ref us),some (.str pt.1),some (.ref u),some (.int (j : Int)),some (.str (nmM o m)),some (.int (m : Int))]
           simp only [muW,List.getElem?_cons_succ,List.getElem?_cons_zero]
           omega
         ·have hc' : ¬ (nmM o m ∈ lu∨(1 < m∧nmM o m ∈ mdl)):=fun z=>hc (by simpa using z)
          rw [Bool.not_eq_true] at hc
          rw [hc]
          refine iteF ?_
          have hyl : nmM o m ∉ lu:=fun z=>hc' (.inl z)
          have hone : m = 1→nmM o m = o:=fun z=>by rw [z]; rfl
          refine ⟨_,rfl,_,rfl,us,_,rfl,DPut.k (k:=Sum.inr (nmM o m)) hus5 (szK (by rw [setD_len]; omega)),?_⟩
          rw [setD_put]
          have hn6 : upd H5 us (.dK (setD (addN lu (nmM o m)))) n = some (.dT nkv):=by rw [upd_ne hnu]; exact hn5
          have hus6 : upd H5 us (.dK (setD (addN lu (nmM o m)))) us = some (.dK (setD (addN lu (nmM o m)))):=upd_same
          have s6 : Same H2 (upd H5 us (.dK (setD (addN lu (nmM o m))))):=s5.put gus2
          generalize upd H5 us (.dK (setD (addN lu (nmM o m)))) = H6 at hn6 hus6 s6 ⊢
          refine ⟨_,rfl,_,rfl,_,rfl,_,rfl,leS2,fun c gc=>?_⟩
          have s7 : Same H6 (upd H6 c (.tup [.str pt.1,.int (j : Int)])):=(Same.refl H6).new gc
          have hc7 : upd H6 c (.tup [.str pt.1,.int (j : Int)]) c = some (.tup ((kp (pt.1,j)).map kV)):=upd_same
          generalize upd H6 c (.tup [.str pt.1,.int (j : Int)]) = H7 at s7 hc7 ⊢
          refine ⟨n,_,rfl,DPut.t (k:=kp (pt.1,j)) (s7 _ _ hn6) hc7 (szK (by omega)),?_⟩
          rw [putK_new (nv_new hnv hpnew)]
          refine ⟨nkv ++ [(kp (pt.1,j),.str (nmM o m))],addN lu (nmM o m),ts ++ [(pt.1,o,nmM o m)],_,_,_,rfl,(s6.trans s7).put gn,upd_same,by rw [upd_ne hnu.symm]; exact s7 _ _ hus6,fun y=>?_,?_,?_,hnn.snoc (fun z=>?_) (fun z=>?_),?_⟩
          ·rw [addN_mem,hlu y]
           unfold newsOf
           rw [List.map_append,List.mem_append]
           simp
          ·have:=addN_len lu (nmM o m)
           rw [List.length_append,List.length_singleton]
           omega
          ·rw [hX,hkX,List.map_append,hts]
           rfl
          ·by_cases h1 : m = 1
           ·exact hone h1
           ·exact absurd ((hlu o).mp (hmo (by omega))) z
          ·have hol2 : o ∈ lu:=(hlu o).mpr z
           have h1 : m ≠ 1:=fun h1=>hyl (by rw [hone h1]; exact hol2)
           refine ⟨m,by omega,by omega,if_neg h1,fun w=>hyl ((hlu _).mpr w),fun w=>hc' (.inr ⟨by omega,w⟩),fun k h2 h3=>?_⟩
           rcases hmk' k h2 h3 with w | w
           ·exact .inl ((hlu _).mp w)
           ·exact .inr w
          ·rw [hX,mls_app,hm3,nls_snoc htl]
           exact Paired.snoc hnv ⟨rfl,rfl⟩
       ·rintro σ H5 Q1 Q2 hQ ⟨v,e1,v2,e2,a2,o2,e7,hg,c,e8,hq⟩
        refine ⟨v,e1,v2,e2,a2,o2,e7,hg,c,e8,?_⟩
        dsimp only at hq ⊢
        split at hq
        ·rename_i h
         rw [if_pos h]
         exact hQ _ _ hq
        ·rename_i h
         rw [if_neg h]
         obtain ⟨v,e1,i1,j1,e3,e4,c2,e5,hq⟩:=hq
         refine ⟨v,e1,i1,j1,e3,e4,c2,e5,?_⟩
         dsimp only at hq ⊢
         split at hq
         ·rename_i h
          rw [if_pos h]
          obtain ⟨v,e1,v2,e2,d2,xs2,e3,h3,f1,f2,c3,e4,hq⟩:=hq
          exact ⟨v,e1,v2,e2,d2,xs2,e3,h3,f1,f2,c3,e4,hQ _ _ hq⟩
         ·rename_i h
          rw [if_neg h]
          exact hQ _ _ hq
     ·have hm3 : mlsOf [(pt.1,j,rr)] = []:=by simp [mlsOf,ho']
      have hkX : mkeys (Xs ++ [(pt.1,j,rr)]) = mkeys Xs:=by rw [mkeys_mls,mkeys_mls,mls_app,hm3,List.append_nil]
      obtain ⟨x1,rs,hrt⟩:=hra4.kind
      have z0 : atI (V.str (kindS rr) :: x1 :: rs) 0 = some (.str (kindS rr)):=atI_nat (j:=0) rfl
      refine ⟨_,rfl,_,rfl,u,_,_,_,rfl,rfl,SqT.of hu4,hat,r,_,_,_,rfl,rfl,SqT.of hrt,z0,rfl,_,rfl,iteSN (fun z=>hkd (.inl z)) ?_⟩
      refine ⟨_,rfl,_,rfl,u,_,_,_,rfl,rfl,SqT.of hu4,hat,r,_,_,_,rfl,rfl,SqT.of hrt,z0,rfl,_,rfl,iteSN (fun z=>hkd (.inr z)) ?_⟩
      exact ⟨nkv,lu,ts,_,_,_,rfl,s5,hn5,hus5,hlu,hlul,by rw [hX,hkX]; exact hts,hnn,by rw [hX,mls_app,hm3,List.append_nil]; exact hnv⟩
    ·rintro σ H4 ⟨nkv,lu,ts,w6,w7,w8,rfl,s5,hn5,hus5,hlu,hlul,hts,hnn,hnv⟩
     rw [hwl,Int.toNat_natCast,List.take_length,← plsOf_snoc,← take_succ_get hpt] at hts hnv
     exact ⟨nkv,lu,ts,_,_,_,_,_,rfl,s5,hn5,hus5,hlu,hlul,hts,hnn,hnv⟩
   ·rintro σ H3 ⟨nkv,lu,ts,v4,v5,v6,v7,v8,rfl,s4,hn4,hus4,hlu,hlul,hts,hnn,hnv⟩
    rw [hvl,List.take_length] at hts hnv
    exact ⟨_,rfl,q n nkv ts H3 (sH2.trans s4) hn4 hts hnn hnv⟩
def thN (N : Str→Str) : Th→V
 | .num n=>.int n
 | .nam y=>.str (N y)
def TmV (N : Str→Str) (H : Hp) (v : V) (d : Int × Th) : Prop:=∃ p,v = .ref p∧H p = some (.tup [.int d.1,thN N d.2])
def TmsV (N : Str→Str) (H : Hp) (t : Addr) (ts : List (Int × Th)) : Prop:=∃ vs,H t = some (.tup vs)∧Paired (TmV N H) vs ts
theorem TmV.mono {N : Str→Str} {H H' : Hp} (s : Tups H H') {v : V} {d : Int × Th} (h : TmV N H v d) : TmV N H' v d:=by
 obtain ⟨p,e,h⟩:=h
 exact ⟨p,e,s _ _ h⟩
theorem TmsV.mono {N : Str→Str} {H H' : Hp} (s : Tups H H') {t : Addr} {ts : List (Int × Th)} (h : TmsV N H t ts) : TmsV N H' t ts:=by
 obtain ⟨vs,h1,h2⟩:=h
 exact ⟨vs,s _ _ h1,Paired.mapP h2 fun _ _ z=>z.mono s⟩
def RV (N : Str→Str) (H : Hp) (r : Addr) : Rw→Prop
 | .set o ts=>∃ t,H r = some (.tup [.str "set",.str (N o),.ref t])∧TmsV N H t ts
 | .take o=>H r = some (.tup [.str "take",.str (N o)])
 | .say ts w=>∃ t,H r = some (.tup [.str "say",.ref t,optV (w.map N)])∧TmsV N H t ts
 | .need ts=>∃ t,H r = some (.tup [.str "need",.ref t])∧TmsV N H t ts
 | .ask p w=>H r = some (.tup [.str "ask",.str p,optV (w.map N)])
 | _=>False
theorem RV.mono {N : Str→Str} {H H' : Hp} (s : Tups H H') {r : Addr} {rw : Rw} (h : RV N H r rw) : RV N H' r rw:=by
 cases rw with
 | set o ts=>obtain ⟨t,h1,h2⟩:=h; exact ⟨t,s _ _ h1,h2.mono s⟩
 | take o=>exact s _ _ h
 | say ts w=>obtain ⟨t,h1,h2⟩:=h; exact ⟨t,s _ _ h1,h2.mono s⟩
 | need ts=>obtain ⟨t,h1,h2⟩:=h; exact ⟨t,s _ _ h1,h2.mono s⟩
 | ask p w=>exact s _ _ h
 | _=>exact h
def UsesT (C : Str→Prop) (ts : List (Int × Th)) : Prop:=∀ d ∈ ts,∀ y,d.2 = Th.nam y→C y
def UsesO (C : Str→Prop) (w : Option Str) : Prop:=∀ y,w = some y→C y
def UsesR (C : Str→Prop) : Rw→Prop
 | .set o ts=>C o∧UsesT C ts
 | .take o=>C o
 | .say ts w=>UsesT C ts∧UsesO C w
 | .need ts=>UsesT C ts
 | .ask _ w=>UsesO C w
 | _=>False
theorem UsesR.imp {C D : Str→Prop} (h : ∀ y,C y→D y) {rw : Rw} (u : UsesR C rw) : UsesR D rw:=by
 have hT : ∀ {ts},UsesT C ts→UsesT D ts:=fun z d hd y e=>h y (z d hd y e)
 have hO : ∀ {w},UsesO C w→UsesO D w:=fun z y e=>h y (z y e)
 cases rw with
 | set o ts=>exact ⟨h _ u.1,hT u.2⟩
 | take o=>exact h _ u
 | say ts w=>exact ⟨hT u.1,hO u.2⟩
 | need ts=>exact hT u
 | ask p w=>exact hO u
 | _=>exact u
def HasN (fkv : List (List Key × V)) (n : Str) (N : Str→Str) (y : Str) : Prop:=valV fkv (key2 (n,y)) = some (.str (N y))
def spThing : Sp:=fun vs H Q _=>∃ (n : Str) (th : Th) (f : Addr) (fkv : List (List Key × V)) (N : Str→Str),vs = [.str n,thV th,.ref f]∧H f = some (.dT fkv)∧(∀ y,th = .nam y→HasN fkv n N y)∧∀ H',Same H H'→Q (thN N th) H'
theorem ok_thing (T : Txt K mg) : L2.Cl P w K mg base 1 "renamed_thing" ["part", "thing", "news"] spThing:=by
 refine Cl.of T.d_renamed_thing sc_renamed_thing (fun vs H Q E h=>?_) (fun _ _ _ _ _ _ us hl=>by obtain ⟨a,b,c,rfl⟩:=len3 hl; rfl) (fun fa cdv A outer s H vs Q E hr h=>?_)
 ·obtain ⟨n,th,f,fkv,N,rfl,_⟩:=h
  rfl
 ·obtain ⟨n,th,f,fkv,N,rfl,hf,hN,q⟩:=h
  have hu:=hu_of hr
  refine ⟨_,(pss_cons (ps_if (pt_val (pe_callB call_isinst (by rfl) T.n_isinstance PyProof.Rows.boot_isinstance (pa_cons (pv 1) (pa_cons (pe_bltn (v:=.ty "str") (by rfl) T.n_str boot_str rfl) pa_nil))))
    (pss_one (ps_ret (pe_dget hu (pv 2) (pe_tup (pa_cons (pv 0) (pa_cons (pv 1) pa_nil))) (fun _ _=>rfl)))) pss_nil)
   (pss_one (ps_ret (pv 1)))),?_⟩
  cases th with
  | num k =>
   refine ⟨_,rfl,_,_,_,_,rfl,.int k,kit_int_str _,_,rfl,iteF ?_⟩
   exact ⟨_,rfl,q H (Same.refl H)⟩
  | nam y =>
   refine ⟨_,rfl,_,_,_,_,rfl,.str y,kit_same _ _,_,rfl,iteT ?_⟩
   refine ⟨_,rfl,_,rfl,_,rfl,leS2,fun e ge=>?_⟩
   have s1 : Same H (upd H e (.tup [.str n,.str y])):=(Same.refl H).new ge
   have h1:=DGet.t (k:=key2 (n,y)) (s1 _ _ hf) (show upd H e (.tup [.str n,.str y]) e = some (.tup ((key2 (n,y)).map kV)) from upd_same)
   rw [hN y rfl] at h1
   exact ⟨f,_,rfl,h1,q _ s1⟩
def spWhenR : Sp:=fun vs H Q _=>∃ (n : Str) (w : Option Str) (f : Addr) (fkv : List (List Key × V)) (N : Str→Str),vs = [.str n,optV w,.ref f]∧H f = some (.dT fkv)∧UsesO (HasN fkv n N) w∧∀ H',Same H H'→Q (optV (w.map N)) H'
theorem ok_whenR (T : Txt K mg) : L2.Cl P w K mg base 1 "renamed_when" ["part", "when", "news"] spWhenR:=by
 refine Cl.of T.d_renamed_when sc_renamed_when (fun vs H Q E h=>?_) (fun _ _ _ _ _ _ us hl=>by obtain ⟨a,b,c,rfl⟩:=len3 hl; rfl) (fun fa cdv A outer s H vs Q E hr h=>?_)
 ·obtain ⟨n,w,f,fkv,N,rfl,_⟩:=h
  rfl
 ·obtain ⟨n,w,f,fkv,N,rfl,hf,hN,q⟩:=h
  have hu:=hu_of hr
  refine ⟨_,(pss_cons (ps_if (pt_cmp (pc_isN (pv 1)))
    (pss_one (ps_ret pe_non)) pss_nil)
   (pss_one (ps_ret (pe_dget hu (pv 2) (pe_tup (pa_cons (pv 0) (pa_cons (pv 1) pa_nil))) (fun _ _=>rfl))))),?_⟩
  cases w with
  | none =>
   refine ⟨_,rfl,_,rfl,iteT ?_⟩
   exact q H (Same.refl H)
  | some y =>
   refine ⟨_,rfl,_,rfl,iteF ?_⟩
   refine ⟨_,rfl,_,rfl,_,rfl,leS2,fun e ge=>?_⟩
   have s1 : Same H (upd H e (.tup [.str n,.str y])):=(Same.refl H).new ge
   have h1:=DGet.t (k:=key2 (n,y)) (s1 _ _ hf) (show upd H e (.tup [.str n,.str y]) e = some (.tup ((key2 (n,y)).map kV)) from upd_same)
   rw [hN y rfl] at h1
   exact ⟨f,_,rfl,h1,q _ s1⟩
def spSumR : Sp:=fun vs H Q _=>∃ (n : Str) (t : Addr) (ts : List (Int × Th)) (f : Addr) (fkv : List (List Key × V)) (N : Str→Str),vs = [.str n,.ref t,.ref f]∧TermsAt H t ts∧H f = some (.dT fkv)∧UsesT (HasN fkv n N) ts∧∀ (t' : Addr) (H' : Hp),Same H H'→TmsV N H' t' ts→Q (.ref t') H'
theorem ok_sumR (T : Txt K mg) : L2.Cl P w K mg base 2 "renamed_sum" ["part", "terms", "news"] spSumR:=by
 have C_renamed_thing:=ok_thing (P:=P) (w:=w) (base:=base) T
 refine Cl.of T.d_renamed_sum sc_renamed_sum (fun vs H Q E h=>?_) (fun _ _ _ _ _ _ us hl=>by obtain ⟨a,b,c,rfl⟩:=len3 hl; rfl) (fun fa cdv A outer s H vs Q E hr h=>?_)
 ·obtain ⟨n,t,ts,f,fkv,N,rfl,_⟩:=h
  rfl
 ·obtain ⟨n,t,ts,f,fkv,N,rfl,⟨⟨vs,ht,hts⟩,hlo,hhi⟩,hf,hN,q⟩:=h
  have hvl : vs.length = ts.length:=Paired.length hts
  refine ⟨_,(pss_one (ps_ret (pe_callTy call_tuple_of (by rfl) T.n_tuple boot_tuple (pa_cons (pe_comp (M:=["sign", "thing", "part", "news"]) (ρ:=[none,none,some 0,some 2]) (defScope s_renamed_sum) ["part", "terms", "news"] ⟨rfl,by decide +kernel,by decide +kernel,by decide +kernel,rfl,by decide +kernel,by decide +kernel⟩ (pi_tup (pv 1)) (fun _ _ _ _ _ _=>(pg_tupK (K:=K) (n:=2) rfl rfl (pgs_cons (pg_name (i:=0) (show (["sign", "thing", "part", "news"] : List Str).Nodup by decide +kernel) rfl (Or.inl rfl)) (pgs_cons (pg_name (i:=1) (show (["sign", "thing", "part", "news"] : List Str).Nodup by decide +kernel) rfl (Or.inl rfl)) pgs_nil)))) (fun _ _ _ _ _ _=>pts_nil) (fun _ _ _ _ _ _=>(pe_tup (pa_cons (pv 0) (pa_cons (pe_fn C_renamed_thing hr (by rfl) (pa_cons (pv 2) (pa_cons (pv 1) (pa_cons (pv 3) pa_nil)))) pa_nil))))) pa_nil)))),?_⟩
  refine ⟨_,rfl,t,rfl,⟨_,SqT.of ht⟩,fun D hD=>?_⟩
  refine comp_tup (K:=K) (a:=t) (xs:=vs) (fun i σ H2=>∃ (v0 v1 : Option V) (us : List V),σ = [v0,v1,some (.str n),some (.ref f)]∧Same H H2∧H2 D = some (.lst us)∧Paired (TmV N H2) us (ts.take i)) ⟨_,_,[],rfl,(Same.refl H).new hD,upd_same,by rw [List.take_zero]; exact .nil⟩ (fun i σ2 H2 ⟨_,_,_,_,s2,_⟩=>SqT.of (s2 _ _ ht)) ?_ ?_
  ·rintro i x σ H2 hx ⟨v0,v1,us,rfl,s2,hD2,hus⟩
   obtain ⟨d,hd,c,ex,hc,_⟩:=Paired.get? hts hx
   subst ex
   have hul : us.length ≤ 6:=by rw [Paired.length hus,List.length_take]; omega
   refine ⟨c,_,rfl,SqT.of (s2 _ _ hc),rfl,_,_,rfl,_,_,rfl,rfl,?_⟩
   refine ⟨_,rfl,_,rfl,_,rfl,_,rfl,n,d.2,f,fkv,N,rfl,s2 _ _ hf,fun y e=>hN d (List.mem_of_getElem? hd) y e,fun H3 s3=>?_⟩
   refine ⟨leS2,fun e ge=>?_⟩
   have s4 : Same H2 (upd H3 e (.tup [.int d.1,thN N d.2])):=s3.new ge
   have hD4:=s4 _ _ hD2
   refine ⟨us,hD4,small1000 (by omega),_,_,us ++ [.ref e],rfl,(s2.trans s4).put hD,upd_same,?_⟩
   rw [take_succ_get hd]
   have TL:=Tups.lst (ys:=us ++ [.ref e]) hD4
   exact Paired.snoc (Paired.mapP hus fun _ _ z=>z.mono (s4.tups.trans TL)) ⟨e,rfl,TL _ _ upd_same⟩
  ·rintro σ H2 ⟨v0,v1,us,rfl,s2,hD2,hus⟩
   rw [hvl,List.take_length] at hus
   refine ⟨D,_,rfl,.inl ⟨SqL.of hD2,fun u gu=>?_⟩⟩
   exact q u _ (s2.new gu) ⟨us,upd_same,Paired.mapP hus fun _ _ z=>z.mono (Tups.new gu)⟩
def spRowR : Sp:=fun vs H Q _=>∃ (n : Str) (r : Addr) (rw : Rw) (f : Addr) (fkv : List (List Key × V)) (N : Str→Str),vs = [.str n,.ref r,.ref f]∧RowAt H r rw∧H f = some (.dT fkv)∧UsesR (HasN fkv n N) rw∧∀ (r' : Addr) (H' : Hp),Same H H'→RV N H' r' rw→Q (.ref r') H'
theorem ok_rowR (T : Txt K mg) : L2.Cl P w K mg base 3 "renamed_row" ["part", "row", "news"] spRowR:=by
 have C_renamed_sum:=ok_sumR (P:=P) (w:=w) (base:=base) T
 have C_renamed_when:=ok_whenR (P:=P) (w:=w) (base:=base) T
 refine Cl.of T.d_renamed_row sc_renamed_row (fun vs H Q E h=>?_) (fun _ _ _ _ _ _ us hl=>by obtain ⟨a,b,c,rfl⟩:=len3 hl; rfl) (fun fa cdv A outer s H vs Q E hr h=>?_)
 ·obtain ⟨n,r,rw,f,fkv,N,rfl,_⟩:=h
  rfl
 ·obtain ⟨n,r,rw,f,fkv,N,rfl,hra,hf,hN,q⟩:=h
  have hu:=hu_of hr
  refine ⟨_,(@pss_cons _ _ _ _ _ (@ps_set _ _ (3) _ _ _ _ sc_renamed_row.nd rfl (Or.inl rfl) (@pe_ix _ _ _ _ _ _ _ (@ix_tup _) (@pv _ 1 _ _ (by rfl) (by first   | exact Or.inl rfl   | exact Or.inr (Or.inl rfl)   | exact Or.inr (Or.inr rfl)) (by decide) (by decide)) (@pe_int _ _ _ _) (fun _ _=>rfl)) (by rfl) (by first   | exact .inl rfl   | exact .inr rfl   | assumption)) (@pss_cons _ _ _ _ _ (@ps_if _ _ _ _ _ _ _ _ (@pt_cmpR _ _ _ _ _ _ _ _ (@op_eq _) (@pv _ 3 _ _ (by rfl) (by first   | exact Or.inl rfl   | exact Or.inr (Or.inl rfl)   | exact Or.inr (Or.inr rfl)) (by decide) (by decide)) (@pe_str _ _ _ _) (nomark _)) (@pss_one _ _ _ (@ps_ret _ _ _ _ (@pe_tup _ _ _ _ _ (@pa_cons _ _ _ _ _ (@pe_str _ _ _ _) (@pa_cons _ _ _ _ _ (@pe_dget _ _ _ _ _ _ hu (@pv _ 2 _ _ (by rfl) (by first   | exact Or.inl rfl   | exact Or.inr (Or.inl rfl)   | exact Or.inr (Or.inr rfl)) (by decide) (by decide)) (@pe_tup _ _ _ _ _ (@pa_cons _ _ _ _ _ (@pv _ 0 _ _ (by rfl) (by first   | exact Or.inl rfl   | exact Or.inr (Or.inl rfl)   | exact Or.inr (Or.inr rfl)) (by decide) (by decide)) (@pa_cons _ _ _ _ _ (@pe_ix _ _ _ _ _ _ _ (@ix_tup _) (@pv _ 1 _ _ (by rfl) (by first   | exact Or.inl rfl   | exact Or.inr (Or.inl rfl)   | exact Or.inr (Or.inr rfl)) (by decide) (by decide)) (@pe_int _ _ _ _) (fun _ _=>rfl)) (@pa_nil _) (by rfl)) (by rfl))) (fun _ _=>rfl)) (@pa_cons _ _ _ _ _ (@pe_fn _ _ _ _ _ _ _ _ _ _ _ C_renamed_sum hr (by rfl) (@pa_cons _ _ _ _ _ (@pv _ 0 _ _ (by rfl) (by first   | exact Or.inl rfl   | exact Or.inr (Or.inl rfl)   | exact Or.inr (Or.inr rfl)) (by decide) (by decide)) (@pa_cons _ _ _ _ _ (@pe_ix _ _ _ _ _ _ _ (@ix_tup _) (@pv _ 1 _ _ (by rfl) (by first   | exact Or.inl rfl   | exact Or.inr (Or.inl rfl)   | exact Or.inr (Or.inr rfl)) (by decide) (by decide)) (@pe_int _ _ _ _) (fun _ _=>rfl)) (@pa_cons _ _ _ _ _ (@pv _ 2 _ _ (by rfl) (by first   | exact Or.inl rfl   | exact Or.inr (Or.inl rfl)   | exact Or.inr (Or.inr rfl)) (by decide) (by decide)) (@pa_nil _) (by rfl)) (by rfl)) (by rfl)) (by decide) (by decide) (by rfl) (by rfl)) (@pa_nil _) (by rfl)) (by rfl)) (by rfl))))) (@pss_nil _)) (@pss_cons _ _ _ _ _ (@ps_if _ _ _ _ _ _ _ _ (@pt_cmpR _ _ _ _ _ _ _ _ (@op_eq _) (@pv _ 3 _ _ (by rfl) (by first   | exact Or.inl rfl   | exact Or.inr (Or.inl rfl)   | exact Or.inr (Or.inr rfl)) (by decide) (by decide)) (@pe_str _ _ _ _) (nomark _)) (@pss_one _ _ _ (@ps_ret _ _ _ _ (@pe_tup _ _ _ _ _ (@pa_cons _ _ _ _ _ (@pe_str _ _ _ _) (@pa_cons _ _ _ _ _ (@pe_dget _ _ _ _ _ _ hu (@pv _ 2 _ _ (by rfl) (by first   | exact Or.inl rfl   | exact Or.inr (Or.inl rfl)   | exact Or.inr (Or.inr rfl)) (by decide) (by decide)) (@pe_tup _ _ _ _ _ (@pa_cons _ _ _ _ _ (@pv _ 0 _ _ (by rfl) (by first   | exact Or.inl rfl   | exact Or.inr (Or.inl rfl)   | exact Or.inr (Or.inr rfl)) (by decide) (by decide)) (@pa_cons _ _ _ _ _ (@pe_ix _ _ _ _ _ _ _ (@ix_tup _) (@pv _ 1 _ _ (by rfl) (by first   | exact Or.inl rfl   | exact Or.inr (Or.inl rfl)   | exact Or.inr (Or.inr rfl)) (by decide) (by decide)) (@pe_int _ _ _ _) (fun _ _=>rfl)) (@pa_nil _) (by rfl)) (by rfl))) (fun _ _=>rfl)) (@pa_nil _) (by rfl)) (by rfl))))) (@pss_nil _)) (@pss_cons _ _ _ _ _ (@ps_if _ _ _ _ _ _ _ _ (@pt_cmpR _ _ _ _ _ _ _ _ (@op_eq _) (@pv _ 3 _ _ (by rfl) (by first   | exact Or.inl rfl   | exact Or.inr (Or.inl rfl)   | exact Or.inr (Or.inr rfl)) (by decide) (by decide)) (@pe_str _ _ _ _) (nomark _)) (@pss_one _ _ _ (@ps_ret _ _ _ _ (@pe_tup _ _ _ _ _ (@pa_cons _ _ _ _ _ (@pe_str _ _ _ _) (@pa_cons _ _ _ _ _ (@pe_fn _ _ _ _ _ _ _ _ _ _ _ C_renamed_sum hr (by rfl) (@pa_cons _ _ _ _ _ (@pv _ 0 _ _ (by rfl) (by first   | exact Or.inl rfl   | exact Or.inr (Or.inl rfl)   | exact Or.inr (Or.inr rfl)) (by decide) (by decide)) (@pa_cons _ _ _ _ _ (@pe_ix _ _ _ _ _ _ _ (@ix_tup _) (@pv _ 1 _ _ (by rfl) (by first   | exact Or.inl rfl   | exact Or.inr (Or.inl rfl)   | exact Or.inr (Or.inr rfl)) (by decide) (by decide)) (@pe_int _ _ _ _) (fun _ _=>rfl)) (@pa_cons _ _ _ _ _ (@pv _ 2 _ _ (by rfl) (by first   | exact Or.inl rfl   | exact Or.inr (Or.inl rfl)   | exact Or.inr (Or.inr rfl)) (by decide) (by decide)) (@pa_nil _) (by rfl)) (by rfl)) (by rfl)) (by decide) (by decide) (by rfl) (by rfl)) (@pa_cons _ _ _ _ _ (@pe_fn _ _ _ _ _ _ _ _ _ _ _ C_renamed_when hr (by rfl) (@pa_cons _ _ _ _ _ (@pv _ 0 _ _ (by rfl) (by first   | exact Or.inl rfl   | exact Or.inr (Or.inl rfl)   | exact Or.inr (Or.inr rfl)) (by decide) (by decide)) (@pa_cons _ _ _ _ _ (@pe_ix _ _ _ _ _ _ _ (@ix_tup _) (@pv _ 1 _ _ (by rfl) (by first   | exact Or.inl rfl   | exact Or.inr (Or.inl rfl)   | exact Or.inr (Or.inr rfl)) (by decide) (by decide)) (@pe_int _ _ _ _) (fun _ _=>rfl)) (@pa_cons _ _ _ _ _ (@pv _ 2 _ _ (by rfl) (by first   | exact Or.inl rfl   | exact Or.inr (Or.inl rfl)   | exact Or.inr (Or.inr rfl)) (by decide) (by decide)) (@pa_nil _) (by rfl)) (by rfl)) (by rfl)) (by decide) (by decide) (by rfl) (by rfl)) (@pa_nil _) (by rfl)) (by rfl)) (by rfl))))) (@pss_nil _)) (@pss_cons _ _ _ _ _ (@ps_if _ _ _ _ _ _ _ _ (@pt_cmpR _ _ _ _ _ _ _ _ (@op_eq _) (@pv _ 3 _ _ (by rfl) (by first   | exact Or.inl rfl   | exact Or.inr (Or.inl rfl)   | exact Or.inr (Or.inr rfl)) (by decide) (by decide)) (@pe_str _ _ _ _) (nomark _)) (@pss_one _ _ _ (@ps_ret _ _ _ _ (@pe_tup _ _ _ _ _ (@pa_cons _ _ _ _ _ (@pe_str _ _ _ _) (@pa_cons _ _ _ _ _ (@pe_fn _ _ _ _ _ _ _ _ _ _ _ C_renamed_sum hr (by rfl) (@pa_cons _ _ _ _ _ (@pv _ 0 _ _ (by rfl) (by first   | exact Or.inl rfl   | exact Or.inr (Or.inl rfl)   | exact Or.inr (Or.inr rfl)) (by decide) (by decide)) (@pa_cons _ _ _ _ _ (@pe_ix _ _ _ _ _ _ _ (@ix_tup _) (@pv _ 1 _ _ (by rfl) (by first   | exact Or.inl rfl   | exact Or.inr (Or.inl rfl)   | exact Or.inr (Or.inr rfl)) (by decide) (by decide)) (@pe_int _ _ _ _) (fun _ _=>rfl)) (@pa_cons _ _ _ _ _ (@pv _ 2 _ _ (by rfl) (by first   | exact Or.inl rfl   | exact Or.inr (Or.inl rfl)   | exact Or.inr (Or.inr rfl)) (by decide) (by decide)) (@pa_nil _) (by rfl)) (by rfl)) (by rfl)) (by decide) (by decide) (by rfl) (by rfl)) (@pa_nil _) (by rfl)) (by rfl))))) (@pss_nil _)) (@pss_one _ _ _ (@ps_ret _ _ _ _ (@pe_tup _ _ _ _ _ (@pa_cons _ _ _ _ _ (@pe_str _ _ _ _) (@pa_cons _ _ _ _ _ (@pe_ix _ _ _ _ _ _ _ (@ix_tup _) (@pv _ 1 _ _ (by rfl) (by first   | exact Or.inl rfl   | exact Or.inr (Or.inl rfl)   | exact Or.inr (Or.inr rfl)) (by decide) (by decide)) (@pe_int _ _ _ _) (fun _ _=>rfl)) (@pa_cons _ _ _ _ _ (@pe_fn _ _ _ _ _ _ _ _ _ _ _ C_renamed_when hr (by rfl) (@pa_cons _ _ _ _ _ (@pv _ 0 _ _ (by rfl) (by first   | exact Or.inl rfl   | exact Or.inr (Or.inl rfl)   | exact Or.inr (Or.inr rfl)) (by decide) (by decide)) (@pa_cons _ _ _ _ _ (@pe_ix _ _ _ _ _ _ _ (@ix_tup _) (@pv _ 1 _ _ (by rfl) (by first   | exact Or.inl rfl   | exact Or.inr (Or.inl rfl)   | exact Or.inr (Or.inr rfl)) (by decide) (by decide)) (@pe_int _ _ _ _) (fun _ _=>rfl)) (@pa_cons _ _ _ _ _ (@pv _ 2 _ _ (by rfl) (by first   | exact Or.inl rfl   | exact Or.inr (Or.inl rfl)   | exact Or.inr (Or.inr rfl)) (by decide) (by decide)) (@pa_nil _) (by rfl)) (by rfl)) (by rfl)) (by decide) (by decide) (by rfl) (by rfl)) (@pa_nil _) (by rfl)) (by rfl)) (by rfl)))))))))),?_⟩
  have get : ∀ {H2 : Hp} {y : Str} {e : Addr},Same H H2→H2 e = some (.tup [.str n,.str y])→HasN fkv n N y→DGet H2 f (.ref e) (some (.str (N y))):=fun {H2 y e} s2 he hn=>by
   have h1:=DGet.t (k:=key2 (n,y)) (s2 _ _ hf) he
   rw [hn] at h1
   exact h1
  cases rw with
  | set o ts =>
   obtain ⟨t,hrt,hts⟩:=hra
   refine ⟨_,rfl,r,_,_,_,rfl,rfl,SqT.of hrt,rfl,?_⟩
   refine ⟨_,rfl,rfl,_,rfl,iteSE ?_⟩
   refine ⟨_,rfl,_,rfl,_,rfl,r,_,_,_,rfl,rfl,SqT.of hrt,rfl,leS2,fun e ge=>?_⟩
   have s1 : Same H (upd H e (.tup [.str n,.str o])):=(Same.refl H).new ge
   refine ⟨f,_,rfl,get s1 upd_same hN.1,?_⟩
   refine ⟨_,rfl,_,rfl,r,_,_,_,rfl,rfl,SqT.of (s1 _ _ hrt),rfl,_,rfl,?_⟩
   refine ⟨n,t,ts,f,fkv,N,rfl,hts.mono s1.tups,s1 _ _ hf,hN.2,fun t' H2 s2 ht'=>?_⟩
   refine ⟨leS3,fun r' gr=>?_⟩
   exact q r' _ ((s1.trans s2).new gr) ⟨t',upd_same,ht'.mono (Tups.new gr)⟩
  | take o =>
   have hrt : H r = some (.tup [.str "take",.str o]):=hra
   refine ⟨_,rfl,r,_,_,_,rfl,rfl,SqT.of hrt,rfl,?_⟩
   refine ⟨_,rfl,rfl,_,rfl,iteSN (show ¬ ("take" : Str) = "set" by decide +kernel) ?_⟩
   refine ⟨_,rfl,rfl,_,rfl,iteSE ?_⟩
   refine ⟨_,rfl,_,rfl,_,rfl,r,_,_,_,rfl,rfl,SqT.of hrt,rfl,leS2,fun e ge=>?_⟩
   have s1 : Same H (upd H e (.tup [.str n,.str o])):=(Same.refl H).new ge
   refine ⟨f,_,rfl,get s1 upd_same hN,?_⟩
   refine ⟨leS2,fun r' gr=>?_⟩
   exact q r' _ (s1.new gr) upd_same
  | say ts w =>
   obtain ⟨t,hrt,hts⟩:=hra
   refine ⟨_,rfl,r,_,_,_,rfl,rfl,SqT.of hrt,rfl,?_⟩
   refine ⟨_,rfl,rfl,_,rfl,iteSN (show ¬ ("say" : Str) = "set" by decide +kernel) ?_⟩
   refine ⟨_,rfl,rfl,_,rfl,iteSN (show ¬ ("say" : Str) = "take" by decide +kernel) ?_⟩
   refine ⟨_,rfl,rfl,_,rfl,iteSE ?_⟩
   refine ⟨_,rfl,_,rfl,r,_,_,_,rfl,rfl,SqT.of hrt,rfl,_,rfl,?_⟩
   refine ⟨n,t,ts,f,fkv,N,rfl,hts,hf,hN.1,fun t' H2 s2 ht'=>?_⟩
   refine ⟨_,rfl,_,rfl,r,_,_,_,rfl,rfl,SqT.of (s2 _ _ hrt),rfl,_,rfl,?_⟩
   refine ⟨n,w,f,fkv,N,rfl,s2 _ _ hf,hN.2,fun H3 s3=>?_⟩
   refine ⟨leS3,fun r' gr=>?_⟩
   exact q r' _ ((s2.trans s3).new gr) ⟨t',upd_same,ht'.mono (s3.new gr).tups⟩
  | need ts =>
   obtain ⟨t,hrt,hts⟩:=hra
   refine ⟨_,rfl,r,_,_,_,rfl,rfl,SqT.of hrt,rfl,?_⟩
   refine ⟨_,rfl,rfl,_,rfl,iteSN (show ¬ ("need" : Str) = "set" by decide +kernel) ?_⟩
   refine ⟨_,rfl,rfl,_,rfl,iteSN (show ¬ ("need" : Str) = "take" by decide +kernel) ?_⟩
   refine ⟨_,rfl,rfl,_,rfl,iteSN (show ¬ ("need" : Str) = "say" by decide +kernel) ?_⟩
   refine ⟨_,rfl,rfl,_,rfl,iteSE ?_⟩
   refine ⟨_,rfl,_,rfl,r,_,_,_,rfl,rfl,SqT.of hrt,rfl,_,rfl,?_⟩
   refine ⟨n,t,ts,f,fkv,N,rfl,hts,hf,hN,fun t' H2 s2 ht'=>?_⟩
   refine ⟨leS2,fun r' gr=>?_⟩
   exact q r' _ (s2.new gr) ⟨t',upd_same,ht'.mono (Tups.new gr)⟩
  | ask p w =>
   have hrt : H r = some (.tup [.str "ask",.str p,optV w]):=hra
   refine ⟨_,rfl,r,_,_,_,rfl,rfl,SqT.of hrt,rfl,?_⟩
   refine ⟨_,rfl,rfl,_,rfl,iteSN (show ¬ ("ask" : Str) = "set" by decide +kernel) ?_⟩
   refine ⟨_,rfl,rfl,_,rfl,iteSN (show ¬ ("ask" : Str) = "take" by decide +kernel) ?_⟩
   refine ⟨_,rfl,rfl,_,rfl,iteSN (show ¬ ("ask" : Str) = "say" by decide +kernel) ?_⟩
   refine ⟨_,rfl,rfl,_,rfl,iteSN (show ¬ ("ask" : Str) = "need" by decide +kernel) ?_⟩
   refine ⟨_,rfl,r,_,_,_,rfl,rfl,SqT.of hrt,rfl,?_⟩
   refine ⟨_,rfl,_,rfl,r,_,_,_,rfl,rfl,SqT.of hrt,rfl,_,rfl,?_⟩
   refine ⟨n,w,f,fkv,N,rfl,hf,hN,fun H3 s3=>?_⟩
   refine ⟨leS3,fun r' gr=>?_⟩
   exact q r' _ (s3.new gr) upd_same
  | _=>exact hN.elim
theorem Cl.absurd {P : Program} {w : World} {K : PySem.W.Frag} {mg : Str→Option Value} {base : Heap} {x : Str} {st : Stmt} {ps : List Str} (T : HasDef K mg x st)
  (hb : ∀ (kV doc pm : Value) (an : Option Addr) (cdv ct : Value) (us : List Value),us.length = ps.length→bindArgs (PySem.W.fnOf x x (defArgs st) (defBody st) (defScope st) .none kV doc pm an cdv ct) ⟨us,[]⟩ = pure (ps.zip us)) : L2.Cl P w K mg base 0 x ps (fun _ _ _ _=>False):=by
 obtain ⟨f,fd,F,m⟩:=T
 exact ⟨f,fd,⟨fun _ _ _ _ h=>h.elim,fun _ _ _ _ _ _ _ _ _ _ _ _ _ h=>h.elim⟩,m,F.kp,F.binds hb⟩
theorem nn_uniq {mdl : List Str} {ts us : List Tr} (h1 : NNAt mdl ts) (h2 : NNAt mdl us) (hk : ts.map (fun t=>(t.1,t.2.1)) = us.map (fun t=>(t.1,t.2.1))) : ts = us:=by
 have hl : ts.length = us.length:=by
  have:=congrArg List.length hk
  rw [List.length_map,List.length_map] at this
  exact this
 have step : ∀ i,ts.take i = us.take i:=by
  intro i
  induction i with
  | zero=>rw [List.take_zero,List.take_zero]
  | succ i ih =>
   by_cases hi : i < ts.length
   ·obtain ⟨t,ht⟩ : ∃ t,ts[i]? = some t:=⟨ts[i],by simp [hi]⟩
    obtain ⟨u,hu⟩ : ∃ u,us[i]? = some u:=⟨us[i]'(by omega),by simp [show i < us.length by omega]⟩
    have hku : (t.1,t.2.1) = (u.1,u.2.1):=by
     have:=congrArg (fun l=>l[i]?) hk
     simp only [List.getElem?_map,ht,hu,Option.map_some,Option.some.injEq] at this
     exact this
    obtain ⟨a1,a2⟩:=h1 i t ht
    obtain ⟨b1,b2⟩:=h2 i u hu
    rw [← ih,← (Prod.mk.inj hku).2] at b1 b2
    have e : t.2.2 = u.2.2:=by
     by_cases ho : t.2.1 ∈ newsOf (ts.take i)
     ·obtain ⟨k,k1,k2,k3,k4,k5,k6⟩:=a2 ho
      obtain ⟨l,l1,l2,l3,l4,l5,l6⟩:=b2 ho
      rcases Nat.lt_trichotomy k l with z | z | z
      ·rcases l6 k k1 z with w | w
       ·exact absurd (by rw [k3]; exact w) k4
       ·exact absurd (by rw [k3]; exact w) k5
      ·rw [k3,l3,z]
      ·rcases k6 l l1 z with w | w
       ·exact absurd (by rw [l3]; exact w) l4
       ·exact absurd (by rw [l3]; exact w) l5
     ·rw [a1 ho,b1 ho]
    have htu : t = u:=by
     obtain ⟨t1,t2,t3⟩:=t
     obtain ⟨u1,u2,u3⟩:=u
     simp only [Prod.mk.injEq] at hku e ⊢
     exact ⟨hku.1,hku.2,e⟩
    rw [take_succ_get ht,take_succ_get hu,ih,htu]
   ·rw [List.take_of_length_le (by omega),List.take_of_length_le (by omega)]
    rw [List.take_of_length_le (by omega),List.take_of_length_le (by omega)] at ih
    exact ih
 have:=step ts.length
 rw [List.take_length,hl,List.take_length] at this
 exact this
def Keys (pls : List Pl) : List Kk:=(mlsOf pls).map (·.1) ++ (llsOf pls).map (·.1)
def IsN (pls : List Pl) (ts : List Tr) (n : Str) (N : Str→Str) : Prop:=∀ y,(n,y) ∈ Keys pls→∃ p,Mk (mlsOf pls) (llsOf pls) (n,y) p∧(p,N y) ∈ nlsOf (mlsOf pls) ts
def strOf : Option V→Str
 | some (.str s)=>s
 | _ => ""
def spRenamed : Sp:=fun vs H Q _=>∃ (a : Addr) (ps : List Pt) (n : Str) (k : Nat) (rs : List Rw) (rw : Rw),vs = [.ref a,.str n,.int (k : Int)]∧PartsF H a ps∧PsFit ps∧NetOk (plsOf ps)∧(∀ k ∈ mkeys (plsOf ps),k.2.length ≤ 100)∧(n,rs) ∈ ps∧rs[k]? = some rw∧UsesR (fun y=>(n,y) ∈ Keys (plsOf ps)) rw ∧
 ∀ (r' : Addr) (N : Str→Str) (ts : List Tr) (H' : Hp),Same H H'→ts.map (fun t=>(t.1,t.2.1)) = mkeys (plsOf ps)→NNAt ((mkeys (plsOf ps)).map (·.2)) ts→IsN (plsOf ps) ts n N→RV N H' r' rw→Q (.ref r') H'
theorem ok_renamed (T : Txt K mg) : L2.Cl P w K mg base 6 "renamed" ["parts", "part", "row"] spRenamed:=by
 have C_renamed_row:=ok_rowR (P:=P) (w:=w) (base:=base) T
 have C_makers_names:=ok_mnames (P:=P) (w:=w) (base:=base) T
 refine Cl.of T.d_renamed sc_renamed (fun vs H Q E h=>?_) (fun _ _ _ _ _ _ us hl=>by obtain ⟨a,b,c,rfl⟩:=len3 hl; rfl) (fun fa cdv A outer s H vs Q E hr h=>?_)
 ·obtain ⟨a,ps,n,k,rs,rw,rfl,_⟩:=h
  rfl
 ·obtain ⟨a,ps,n,k,rs,rw,rfl,hpf,hfit,hnet,hklen,hmem,hrw,hU,q⟩:=h
  have hu:=hu_of hr
  have hhi:=hfit.hi
  obtain ⟨o,vs,ha,ho,hps⟩:=id hpf
  refine ⟨_,(pss_one (ps_ret (pe_fn C_renamed_row hr (by rfl) (pa_cons (pv 1) (pa_cons (pe_ix ix_tup (pe_dget hu (pe_callTy (call_dictT rfl) (by rfl) T.n_dict boot_dict (pa_cons (pv 0) pa_nil)) (pv 1) (fun _ _=>rfl)) (pv 2) (fun _ _=>rfl)) (pa_cons (pe_fn C_makers_names hr (by rfl) (pa_cons (pv 0) pa_nil)) pa_nil)))))),?_⟩
  obtain ⟨qs,g1,g2,g3⟩:=parts_pairs (K:=K) hps
  obtain ⟨u,ws,k1,k2,k3⟩:=g3 n rs hmem
  have hql : qs.length = ps.length:=by
   have:=congrArg List.length g2
   simpa using this
  refine ⟨_,rfl,_,rfl,a,o,vs,qs,rfl,ha,ho,g1,(by omega),fun e ge=>?_⟩
  have s1 : Same H (upd H e (.dK (foldP qs []))):=(Same.refl H).new ge
  have hg:=DGet.k (k:=Sum.inr n) (upd_same (H:=H) (a:=e) (o:=.dK (foldP qs [])))
  rw [foldP_get qs [] n (.ref u) (by rw [g2]; exact hfit.nd) (.inl k1)] at hg
  obtain ⟨v,hv,r,er,hra⟩:=Paired.get?' k3 hrw
  subst er
  refine ⟨_,rfl,e,.ref u,rfl,hg,?_⟩
  refine ⟨_,rfl,u,_,_,_,rfl,rfl,SqT.of (s1 _ _ k2),atI_nat hv,?_⟩
  refine ⟨_,rfl,a,ps,rfl,s1.partsF hpf,hfit,hnet,hklen,fun f fkv ts H2 s2 hf hks hnn hna=>?_⟩
  have s12:=s1.trans s2
  have hN : ∀ y,(n,y) ∈ Keys (plsOf ps)→HasN fkv n (fun y=>strOf (valV fkv (key2 (n,y)))) y∧∃ p,Mk (mlsOf (plsOf ps)) (llsOf (plsOf ps)) (n,y) p∧(p,strOf (valV fkv (key2 (n,y)))) ∈ nlsOf (mlsOf (plsOf ps)) ts:=fun y hy=>by
   obtain ⟨p,nm,h1,h2,h3⟩:=hna _ hy
   refine ⟨?_,p,h1,?_⟩
   ·show valV fkv (key2 (n,y)) = some (.str (strOf (valV fkv (key2 (n,y)))))
    rw [h3]
    rfl
   ·rw [h3]
    exact h2
  refine ⟨n,r,rw,f,fkv,fun y=>strOf (valV fkv (key2 (n,y))),rfl,hra.mono s12.tups,hf,hU.imp fun y hy=>(hN y hy).1,fun r' H3 s3 hrv=>?_⟩
  exact q r' _ ts H3 (s12.trans s3) hks hnn (fun y hy=>(hN y hy).2) hrv
def plainV (x : V) : Prop:=x = .non∨(∃ s,x = .str s)∨∃ i,x = .int i
def AlkD (H : Hp) : Nat→V→V→Prop
 | 0,x,y=>x = y∧plainV x
 | n + 1,x,y=>(x = y∧plainV x)∨∃ a b xs ys,x = .ref a∧y = .ref b∧H a = some (.tup xs)∧H b = some (.tup ys)∧Paired (AlkD H n) xs ys
theorem AlkD.mono {H H' : Hp} (s : Tups H H') : ∀ {n : Nat} {x y : V},AlkD H n x y→AlkD H' n x y
 | 0,x,y,h=>h
 | n + 1,x,y,h=>by
  rcases h with h | ⟨a,b,xs,ys,e1,e2,h1,h2,h3⟩
  ·exact .inl h
  ·exact .inr ⟨a,b,xs,ys,e1,e2,s _ _ h1,s _ _ h2,Paired.mapP h3 fun _ _ z=>AlkD.mono s z⟩
theorem AlkD.flat {H : Hp} {n : Nat} {x : V} (h : plainV x) : AlkD H n x x:=by
 cases n with
 | zero=>exact ⟨rfl,h⟩
 | succ n=>exact .inl ⟨rfl,h⟩
theorem thN_plain (N : Str→Str) (th : Th) : plainV (thN N th):=by
 cases th with
 | num k=>exact .inr (.inr ⟨k,rfl⟩)
 | nam y=>exact .inr (.inl ⟨_,rfl⟩)
theorem optV_plain (w : Option Str) : plainV (optV w):=by
 cases w with
 | none=>exact .inl rfl
 | some y=>exact .inr (.inl ⟨_,rfl⟩)
theorem tms_alk {N : Str→Str} {H : Hp} {t u : Addr} {ts : List (Int × Th)} (h1 : TmsV N H t ts) (h2 : TmsV N H u ts) : AlkD H 2 (.ref t) (.ref u):=by
 obtain ⟨vs,e1,p1⟩:=h1
 obtain ⟨ws,e2,p2⟩:=h2
 refine .inr ⟨t,u,vs,ws,rfl,rfl,e1,e2,?_⟩
 clear e1 e2
 induction p1 generalizing ws with
 | nil=>cases p2; exact .nil
 | cons a _ ih =>
  cases p2 with
  | cons b r2 =>
   obtain ⟨p,e1,hp⟩:=a
   obtain ⟨q,e2,hq⟩:=b
   exact .cons (.inr ⟨p,q,_,_,e1,e2,hp,hq,.cons (AlkD.flat (.inr (.inr ⟨_,rfl⟩))) (.cons (AlkD.flat (thN_plain _ _)) .nil)⟩) (ih _ r2)
theorem rv_alk {N : Str→Str} {H : Hp} {r u : Addr} {rw : Rw} (h1 : RV N H r rw) (h2 : RV N H u rw) : AlkD H 3 (.ref r) (.ref u):=by
 have st : ∀ {n : Nat} (s : Str),AlkD H n (.str s) (.str s):=fun s=>AlkD.flat (.inr (.inl ⟨_,rfl⟩))
 cases rw with
 | set o ts =>
  obtain ⟨t,a1,a2⟩:=h1
  obtain ⟨t',b1,b2⟩:=h2
  exact .inr ⟨r,u,_,_,rfl,rfl,a1,b1,.cons (st _) (.cons (st _) (.cons (tms_alk a2 b2) .nil))⟩
 | take o=>exact .inr ⟨r,u,_,_,rfl,rfl,h1,h2,.cons (st _) (.cons (st _) .nil)⟩
 | say ts w =>
  obtain ⟨t,a1,a2⟩:=h1
  obtain ⟨t',b1,b2⟩:=h2
  exact .inr ⟨r,u,_,_,rfl,rfl,a1,b1,.cons (st _) (.cons (tms_alk a2 b2) (.cons (AlkD.flat (optV_plain _)) .nil))⟩
 | need ts =>
  obtain ⟨t,a1,a2⟩:=h1
  obtain ⟨t',b1,b2⟩:=h2
  exact .inr ⟨r,u,_,_,rfl,rfl,a1,b1,.cons (st _) (.cons (tms_alk a2 b2) .nil)⟩
 | ask p w=>exact .inr ⟨r,u,_,_,rfl,rfl,h1,h2,.cons (st _) (.cons (st _) (.cons (AlkD.flat (optV_plain _)) .nil))⟩
 | _=>exact h1.elim
theorem kit_tup_str (K : PySem.W.Frag) : PySem.W.kitOne K (.type "tuple") (.type "str") = some false:=by kernel_rfl
theorem kit_tup_int (K : PySem.W.Frag) : PySem.W.kitOne K (.type "tuple") (.type "int") = some false:=by kernel_rfl
def spAlk : Nat→Sp
 | 0=>fun _ _ _ _=>False
 | n + 1=>fun vs H Q _=>∃ x y,vs = [x,y]∧AlkD H n x y∧∀ H',Same H H'→Q (.bl true) H'
theorem ok_alk (T : Txt K mg) : ∀ d : Nat,L2.Cl P w K mg base d "_law_alike" ["_law_found", "_law_due"] (spAlk d):=by
 intro d
 induction d with
 | zero=>exact Cl.absurd T.d_law_alike (fun _ _ _ _ _ _ us hl=>by obtain ⟨a,b,rfl⟩:=len2 hl; rfl)
 | succ d ih =>
 have C_law_alike : L2.Cl P w K mg base d "_law_alike" ["_law_found", "_law_due"] (spAlk d):=ih
 refine Cl.of T.d_law_alike sc_law_alike (fun vs H Q E h=>?_) (fun _ _ _ _ _ _ us hl=>by obtain ⟨a,b,rfl⟩:=len2 hl; rfl) (fun f cdv A outer s H vs Q E hr h=>?_)
 ·obtain ⟨x,y,rfl,_⟩:=h
  rfl
 ·obtain ⟨x,y,rfl,hA,q⟩:=h
  refine ⟨_,(@pss_cons _ _ _ _ _ (@ps_if _ _ _ _ _ _ _ _ (@pt_cmp _ _ _ _ _ _ (@pc_isN _ _ _ _ _ (@pv _ 1 _ _ (by rfl) (by first   | exact Or.inl rfl   | exact Or.inr (Or.inl rfl)   | exact Or.inr (Or.inr rfl)) (by decide) (by decide))) (by first   | exact nobehind _ (by decide) (by decide)   | rfl)) (@pss_one _ _ _ (@ps_ret _ _ _ _ (@pe_cmp _ _ _ _ _ _ (@pc_isN _ _ _ _ _ (@pv _ 0 _ _ (by rfl) (by first   | exact Or.inl rfl   | exact Or.inr (Or.inl rfl)   | exact Or.inr (Or.inr rfl)) (by decide) (by decide))) (by first   | exact nobehind _ (by decide) (by decide)   | rfl)))) (@pss_nil _)) (@pss_cons _ _ _ _ _ (@ps_if _ _ _ _ _ _ _ _ (@pt_val _ _ _ (@pe_callB _ _ _ _ _ _ _ _ _ (@call_isinst _) (by rfl) T.n_isinstance PyProof.Rows.boot_isinstance (@pa_cons _ _ _ _ _ (@pv _ 1 _ _ (by rfl) (by first   | exact Or.inl rfl   | exact Or.inr (Or.inl rfl)   | exact Or.inr (Or.inr rfl)) (by decide) (by decide)) (@pa_cons _ _ _ _ _ (@pe_bltn _ _ (.ty "str") _ _ (by rfl) T.n_str boot_str rfl (by decide) (by decide)) (@pa_nil _) (by rfl)) (by rfl)) (by decide) (by decide) (by rfl) (by rfl)) (by intro _; rfl)) (@pss_one _ _ _ (@ps_ret _ _ _ _ (@pe_and _ _ _ _ _ _ _ (@pe_callB _ _ _ _ _ _ _ _ _ (@call_isinst _) (by rfl) T.n_isinstance PyProof.Rows.boot_isinstance (@pa_cons _ _ _ _ _ (@pv _ 0 _ _ (by rfl) (by first   | exact Or.inl rfl   | exact Or.inr (Or.inl rfl)   | exact Or.inr (Or.inr rfl)) (by decide) (by decide)) (@pa_cons _ _ _ _ _ (@pe_bltn _ _ (.ty "str") _ _ (by rfl) T.n_str boot_str rfl (by decide) (by decide)) (@pa_nil _) (by rfl)) (by rfl)) (by decide) (by decide) (by rfl) (by rfl)) (@pe_one _ _ _ _ _ (@pe_cmpR _ _ _ _ _ _ _ _ (@op_eq _) (@pv _ 0 _ _ (by rfl) (by first   | exact Or.inl rfl   | exact Or.inr (Or.inl rfl)   | exact Or.inr (Or.inr rfl)) (by decide) (by decide)) (@pv _ 1 _ _ (by rfl) (by first   | exact Or.inl rfl   | exact Or.inr (Or.inl rfl)   | exact Or.inr (Or.inr rfl)) (by decide) (by decide)) (nomark _)))))) (@pss_nil _)) (@pss_cons _ _ _ _ _ (@ps_if _ _ _ _ _ _ _ _ (@pt_val _ _ _ (@pe_callB _ _ _ _ _ _ _ _ _ (@call_isinst _) (by rfl) T.n_isinstance PyProof.Rows.boot_isinstance (@pa_cons _ _ _ _ _ (@pv _ 1 _ _ (by rfl) (by first   | exact Or.inl rfl   | exact Or.inr (Or.inl rfl)   | exact Or.inr (Or.inr rfl)) (by decide) (by decide)) (@pa_cons _ _ _ _ _ (@pe_bltn _ _ (.ty "int") _ _ (by rfl) T.n_int boot_int rfl (by decide) (by decide)) (@pa_nil _) (by rfl)) (by rfl)) (by decide) (by decide) (by rfl) (by rfl)) (by intro _; rfl)) (@pss_one _ _ _ (@ps_ret _ _ _ _ (@pe_and _ _ _ _ _ _ _ (@pe_callB _ _ _ _ _ _ _ _ _ (@call_isinst _) (by rfl) T.n_isinstance PyProof.Rows.boot_isinstance (@pa_cons _ _ _ _ _ (@pv _ 0 _ _ (by rfl) (by first   | exact Or.inl rfl   | exact Or.inr (Or.inl rfl)   | exact Or.inr (Or.inr rfl)) (by decide) (by decide)) (@pa_cons _ _ _ _ _ (@pe_bltn _ _ (.ty "int") _ _ (by rfl) T.n_int boot_int rfl (by decide) (by decide)) (@pa_nil _) (by rfl)) (by rfl)) (by decide) (by decide) (by rfl) (by rfl)) (@pe_and _ _ _ _ _ _ _ (@pe_not _ _ _ _ (@pe_callB _ _ _ _ _ _ _ _ _ (@call_isinst _) (by rfl) T.n_isinstance PyProof.Rows.boot_isinstance (@pa_cons _ _ _ _ _ (@pv _ 0 _ _ (by rfl) (by first   | exact Or.inl rfl   | exact Or.inr (Or.inl rfl)   | exact Or.inr (Or.inr rfl)) (by decide) (by decide)) (@pa_cons _ _ _ _ _ (@pe_bltn _ _ (.ty "bool") _ _ (by rfl) T.n_bool boot_bool rfl (by decide) (by decide)) (@pa_nil _) (by rfl)) (by rfl)) (by decide) (by decide) (by rfl) (by rfl))) (@pe_one _ _ _ _ _ (@pe_cmpR _ _ _ _ _ _ _ _ (@op_eq _) (@pv _ 0 _ _ (by rfl) (by first   | exact Or.inl rfl   | exact Or.inr (Or.inl rfl)   | exact Or.inr (Or.inr rfl)) (by decide) (by decide)) (@pv _ 1 _ _ (by rfl) (by first   | exact Or.inl rfl   | exact Or.inr (Or.inl rfl)   | exact Or.inr (Or.inr rfl)) (by decide) (by decide)) (nomark _))))))) (@pss_nil _)) (@pss_cons _ _ _ _ _ (@ps_if _ _ _ _ _ _ _ _ (PW.pt (@pw_or _ _ _ _ _ _ _ (@pt_not _ _ _ _ (@pt_val _ _ _ (@pe_callB _ _ _ _ _ _ _ _ _ (@call_isinst _) (by rfl) T.n_isinstance PyProof.Rows.boot_isinstance (@pa_cons _ _ _ _ _ (@pv _ 0 _ _ (by rfl) (by first   | exact Or.inl rfl   | exact Or.inr (Or.inl rfl)   | exact Or.inr (Or.inr rfl)) (by decide) (by decide)) (@pa_cons _ _ _ _ _ (@pe_bltn _ _ (.ty "tuple") _ _ (by rfl) T.n_tuple boot_tuple rfl (by decide) (by decide)) (@pa_nil _) (by rfl)) (by rfl)) (by decide) (by decide) (by rfl) (by rfl)) (by intro _; rfl))) (@pw_or1 _ _ _ _ (@pt_cmpR _ _ _ _ _ _ _ _ (@op_ne _) (@pe_callB _ _ _ _ _ _ _ _ _ (@call_len_seq _) (by rfl) T.n_len PySem.boot_len (@pa_cons _ _ _ _ _ (@pv _ 0 _ _ (by rfl) (by first   | exact Or.inl rfl   | exact Or.inr (Or.inl rfl)   | exact Or.inr (Or.inr rfl)) (by decide) (by decide)) (@pa_nil _) (by rfl)) (by decide) (by decide) (by rfl) (by rfl)) (@pe_callB _ _ _ _ _ _ _ _ _ (@call_len_seq _) (by rfl) T.n_len PySem.boot_len (@pa_cons _ _ _ _ _ (@pv _ 1 _ _ (by rfl) (by first   | exact Or.inl rfl   | exact Or.inr (Or.inl rfl)   | exact Or.inr (Or.inr rfl)) (by decide) (by decide)) (@pa_nil _) (by rfl)) (by decide) (by decide) (by rfl) (by rfl)) (nomark _))))) (@pss_one _ _ _ (@ps_ret _ _ _ _ (@pe_bl _ _ _ _))) (@pss_nil _)) (@pss_cons _ _ _ _ _ (@ps_for _ _ _ _ _ _ _ _ PassesOwn.never rfl (@pi_zipTT _ _ _ _ _ _ _ _ _ (by rfl) T.n_zip (@pa_cons _ _ _ _ _ (@pv _ 0 _ _ (by rfl) (by first   | exact Or.inl rfl   | exact Or.inr (Or.inl rfl)   | exact Or.inr (Or.inr rfl)) (by decide) (by decide)) (@pa_cons _ _ _ _ _ (@pv _ 1 _ _ (by rfl) (by first   | exact Or.inl rfl   | exact Or.inr (Or.inl rfl)   | exact Or.inr (Or.inr rfl)) (by decide) (by decide)) (@pa_nil _) (by rfl)) (by rfl)) (by rfl) (by intro _; rfl)) (@pg_tup _ _ _ _ _ _ rfl (@pgs_cons _ _ _ _ _ (@pg_name _ _ (2) _ sc_law_alike.nd rfl (Or.inl rfl) (by first   | exact .inl rfl   | exact .inr rfl   | assumption)) (@pgs_cons _ _ _ _ _ (@pg_name _ _ (3) _ sc_law_alike.nd rfl (Or.inl rfl) (by first   | exact .inl rfl   | exact .inr rfl   | assumption)) (@pgs_nil _) (by rfl)) (by rfl)) (by rfl) (by rfl)) (@pss_one _ _ _ (@ps_if _ _ _ _ _ _ _ _ (@pt_not _ _ _ _ (@pt_val _ _ _ (@pe_fn _ _ _ _ _ _ _ _ _ _ _ C_law_alike hr (by rfl) (@pa_cons _ _ _ _ _ (@pv _ 2 _ _ (by rfl) (by first   | exact Or.inl rfl   | exact Or.inr (Or.inl rfl)   | exact Or.inr (Or.inr rfl)) (by decide) (by decide)) (@pa_cons _ _ _ _ _ (@pv _ 3 _ _ (by rfl) (by first   | exact Or.inl rfl   | exact Or.inr (Or.inl rfl)   | exact Or.inr (Or.inr rfl)) (by decide) (by decide)) (@pa_nil _) (by rfl)) (by rfl)) (Nat.le_refl _) (by decide) (by rfl) (by rfl)) (by intro _; rfl))) (@pss_one _ _ _ (@ps_ret _ _ _ _ (@pe_bl _ _ _ _))) (@pss_nil _))) (by intro _; rfl)) (@pss_one _ _ _ (@ps_ret _ _ _ _ (@pe_bl _ _ _ _)))))))),?_⟩
  have flat : (x = y∧plainV x)∨∃ m a b xs ys,d = m + 1∧x = .ref a∧y = .ref b∧H a = some (.tup xs)∧H b = some (.tup ys)∧Paired (AlkD H m) xs ys:=by
   cases d with
   | zero=>exact .inl hA
   | succ m =>
    rcases hA with h | ⟨a,b,xs,ys,h⟩
    ·exact .inl h
    ·exact .inr ⟨m,a,b,xs,ys,rfl,h⟩
  rcases flat with ⟨rfl,hp⟩ | ⟨m,a,b,xs,ys,rfl,rfl,rfl,ha,hb,hP⟩
  ·rcases hp with rfl | ⟨s,rfl⟩ | ⟨i,rfl⟩
   ·refine ⟨_,rfl,_,rfl,iteT ?_⟩
    exact ⟨_,rfl,q H (Same.refl H)⟩
   ·refine ⟨_,rfl,_,rfl,iteF ?_⟩
    refine ⟨_,rfl,_,_,_,_,rfl,.str s,kit_same _ _,_,rfl,iteT ?_⟩
    refine ⟨_,rfl,_,_,_,_,rfl,.str s,kit_same _ _,_,rfl,iteT ?_⟩
    refine ⟨_,rfl,_,rfl,rfl,?_⟩
    rw [decide_eq_true rfl]
    exact q H (Same.refl H)
   ·refine ⟨_,rfl,_,rfl,iteF ?_⟩
    refine ⟨_,rfl,_,_,_,_,rfl,.int i,kit_int_str _,_,rfl,iteF ?_⟩
    refine ⟨_,rfl,_,_,_,_,rfl,.int i,kit_same _ _,_,rfl,iteT ?_⟩
    refine ⟨_,rfl,_,_,_,_,rfl,.int i,kit_same _ _,_,rfl,iteT ?_⟩
    refine ⟨_,rfl,_,_,_,_,rfl,.int i,kit_int_bool _,_,rfl,_,rfl,iteT ?_⟩
    refine ⟨_,rfl,_,rfl,rfl,?_⟩
    rw [decide_eq_true rfl]
    exact q H (Same.refl H)
  ·have hl : xs.length = ys.length:=Paired.length hP
   refine ⟨_,rfl,_,rfl,iteF ?_⟩
   refine ⟨_,rfl,_,_,_,_,rfl,.tup hb,kit_tup_str _,_,rfl,iteF ?_⟩
   refine ⟨_,rfl,_,_,_,_,rfl,.tup hb,kit_tup_int _,_,rfl,iteF ?_⟩
   refine ⟨_,rfl,_,_,_,_,rfl,.tup ha,kit_same _ _,_,rfl,iteF ?_⟩
   refine ⟨_,rfl,a,_,rfl,.inr (SqT.of ha),_,rfl,b,_,rfl,.inr (SqT.of hb),rfl,_,rfl,iteNS (by rw [hl]) ?_⟩
   refine ⟨_,rfl,_,rfl,a,b,rfl,⟨_,SqT.of ha⟩,⟨_,SqT.of hb⟩,for_zipTT (K:=K) (a:=a) (b:=b) (xs:=xs) (ys:=ys) (fun i σ H2=>∃ v2 v3 : Option V,σ = [some (.ref a),some (.ref b),v2,v3]∧Same H H2) hl ⟨_,_,rfl,Same.refl H⟩ (fun i σ H2 _ ⟨_,_,_,s2⟩=>⟨SqT.of (s2 _ _ ha),SqT.of (s2 _ _ hb)⟩) ?_ ?_⟩
   ·rintro i x y p σ H2 hx hy ⟨v2,v3,rfl,s2⟩ hp
    obtain ⟨y',hy',hxy⟩:=Paired.get? hP hx
    rw [hy] at hy'
    cases hy'
    have s3 : Same H2 (upd H2 p (.tup [x,y])):=(Same.refl H2).new hp
    refine ⟨p,_,rfl,SqT.of upd_same,rfl,_,_,rfl,_,_,rfl,rfl,?_⟩
    refine ⟨_,rfl,_,rfl,x,y,rfl,hxy.mono (s2.trans s3).tups,fun H4 s4=>?_⟩
    refine ⟨_,rfl,iteF ?_⟩
    exact ⟨_,_,rfl,s2.trans (s3.trans s4)⟩
   ·rintro σ H2 ⟨v2,v3,rfl,s2⟩
    exact q H2 s2
def HasL (H : Hp) (pkv nkv : List (List Key × V)) (n : Str) (N : Str→Str) (y : Str) : Prop:=∃ t p,valV pkv (key2 (n,y)) = some (.ref t)∧H t = some (.tup [.str p.1,.int ((p.2 : Nat) : Int)])∧valV nkv (kp p) = some (.str (N y))
def spChanged : Sp:=fun vs H Q _=>∃ (n : Str) (r : Addr) (rw : Rw) (m nd : Addr) (pkv nkv : List (List Key × V)) (N : Str→Str),vs = [.ref r,.str n,.ref m,.ref nd]∧RowAt H r rw∧H m = some (.dT pkv)∧H nd = some (.dT nkv)∧UsesR (HasL H pkv nkv n N) rw∧∀ (r' : Addr) (H' : Hp),Same H H'→RV N H' r' rw→Q (.ref r') H'
theorem ok_changed (T : Txt K mg) : L2.Cl P w K mg base 1 "_law_changed" ["_law_row_here", "_law_part", "_law_makers_here", "_law_news_here"] spChanged:=by
 refine Cl.of T.d_law_changed sc_law_changed (fun vs H Q E h=>?_) (fun _ _ _ _ _ _ us hl=>by obtain ⟨a,b,c,d,rfl⟩:=len4 hl; rfl) (fun fa cdv A outer s H vs Q E hr h=>?_)
 ·obtain ⟨n,r,rw,m,nd,pkv,nkv,N,rfl,_⟩:=h
  rfl
 ·obtain ⟨n,r,rw,m,nd,pkv,nkv,N,rfl,hra,hm,hnd,hN,q⟩:=h
  have hu:=hu_of hr
  refine ⟨_,(@pss_cons _ _ _ _ _ (@ps_if _ _ _ _ _ _ _ _ (@pt_cmpR _ _ _ _ _ _ _ _ (@op_eq _) (@pe_ix _ _ _ _ _ _ _ (@ix_tup _) (@pv _ 0 _ _ (by rfl) (by first   | exact Or.inl rfl   | exact Or.inr (Or.inl rfl)   | exact Or.inr (Or.inr rfl)) (by decide) (by decide)) (@pe_int _ _ _ _) (fun _ _=>rfl)) (@pe_str _ _ _ _) (nomark _)) (@pss_one _ _ _ (@ps_ret _ _ _ _ (@pe_tup _ _ _ _ _ (@pa_cons _ _ _ _ _ (@pe_str _ _ _ _) (@pa_cons _ _ _ _ _ (@pe_dget _ _ _ _ _ _ hu (@pv _ 3 _ _ (by rfl) (by first   | exact Or.inl rfl   | exact Or.inr (Or.inl rfl)   | exact Or.inr (Or.inr rfl)) (by decide) (by decide)) (@pe_dget _ _ _ _ _ _ hu (@pv _ 2 _ _ (by rfl) (by first   | exact Or.inl rfl   | exact Or.inr (Or.inl rfl)   | exact Or.inr (Or.inr rfl)) (by decide) (by decide)) (@pe_tup _ _ _ _ _ (@pa_cons _ _ _ _ _ (@pv _ 1 _ _ (by rfl) (by first   | exact Or.inl rfl   | exact Or.inr (Or.inl rfl)   | exact Or.inr (Or.inr rfl)) (by decide) (by decide)) (@pa_cons _ _ _ _ _ (@pe_ix _ _ _ _ _ _ _ (@ix_tup _) (@pv _ 0 _ _ (by rfl) (by first   | exact Or.inl rfl   | exact Or.inr (Or.inl rfl)   | exact Or.inr (Or.inr rfl)) (by decide) (by decide)) (@pe_int _ _ _ _) (fun _ _=>rfl)) (@pa_nil _) (by rfl)) (by rfl))) (fun _ _=>rfl)) (fun _ _=>rfl)) (@pa_nil _) (by rfl)) (by rfl))))) (@pss_nil _)) (@pss_cons _ _ _ _ _ (@ps_set _ _ (4) _ _ _ _ sc_law_changed.nd rfl (Or.inl rfl) (@pe_non _ _ _) (by rfl) (by first   | exact .inl rfl   | exact .inr rfl   | assumption)) (@pss_cons _ _ _ _ _ (@ps_if _ _ _ _ _ _ _ _ (PW.pt (@pw_and _ _ _ _ _ _ _ (@pt_cmpR _ _ _ _ _ _ _ _ (@op_in_seq _) (@pe_ix _ _ _ _ _ _ _ (@ix_tup _) (@pv _ 0 _ _ (by rfl) (by first   | exact Or.inl rfl   | exact Or.inr (Or.inl rfl)   | exact Or.inr (Or.inr rfl)) (by decide) (by decide)) (@pe_int _ _ _ _) (fun _ _=>rfl)) (@pe_tup _ _ _ _ _ (@pa_cons _ _ _ _ _ (@pe_str _ _ _ _) (@pa_cons _ _ _ _ _ (@pe_str _ _ _ _) (@pa_nil _) (by rfl)) (by rfl))) (by with_unfolding_all rfl)) (@pw_and1 _ _ _ _ (@pt_cmp _ _ _ _ _ _ (@pc_notN _ _ _ _ _ (@pe_ix _ _ _ _ _ _ _ (@ix_tup _) (@pv _ 0 _ _ (by rfl) (by first   | exact Or.inl rfl   | exact Or.inr (Or.inl rfl)   | exact Or.inr (Or.inr rfl)) (by decide) (by decide)) (@pe_int _ _ _ _) (fun _ _=>rfl))) (by first   | exact nobehind _ (by decide) (by decide)   | rfl))))) (@pss_one _ _ _ (@ps_set _ _ (4) _ _ _ _ sc_law_changed.nd rfl (Or.inl rfl) (@pe_dget _ _ _ _ _ _ hu (@pv _ 3 _ _ (by rfl) (by first   | exact Or.inl rfl   | exact Or.inr (Or.inl rfl)   | exact Or.inr (Or.inr rfl)) (by decide) (by decide)) (@pe_dget _ _ _ _ _ _ hu (@pv _ 2 _ _ (by rfl) (by first   | exact Or.inl rfl   | exact Or.inr (Or.inl rfl)   | exact Or.inr (Or.inr rfl)) (by decide) (by decide)) (@pe_tup _ _ _ _ _ (@pa_cons _ _ _ _ _ (@pv _ 1 _ _ (by rfl) (by first   | exact Or.inl rfl   | exact Or.inr (Or.inl rfl)   | exact Or.inr (Or.inr rfl)) (by decide) (by decide)) (@pa_cons _ _ _ _ _ (@pe_ix _ _ _ _ _ _ _ (@ix_tup _) (@pv _ 0 _ _ (by rfl) (by first   | exact Or.inl rfl   | exact Or.inr (Or.inl rfl)   | exact Or.inr (Or.inr rfl)) (by decide) (by decide)) (@pe_int _ _ _ _) (fun _ _=>rfl)) (@pa_nil _) (by rfl)) (by rfl))) (fun _ _=>rfl)) (fun _ _=>rfl)) (by rfl) (by first   | exact .inl rfl   | exact .inr rfl   | assumption))) (@pss_nil _)) (@pss_cons _ _ _ _ _ (@ps_if _ _ _ _ _ _ _ _ (@pt_cmpR _ _ _ _ _ _ _ _ (@op_eq _) (@pe_ix _ _ _ _ _ _ _ (@ix_tup _) (@pv _ 0 _ _ (by rfl) (by first   | exact Or.inl rfl   | exact Or.inr (Or.inl rfl)   | exact Or.inr (Or.inr rfl)) (by decide) (by decide)) (@pe_int _ _ _ _) (fun _ _=>rfl)) (@pe_str _ _ _ _) (nomark _)) (@pss_one _ _ _ (@ps_ret _ _ _ _ (@pe_tup _ _ _ _ _ (@pa_cons _ _ _ _ _ (@pe_str _ _ _ _) (@pa_cons _ _ _ _ _ (@pe_ix _ _ _ _ _ _ _ (@ix_tup _) (@pv _ 0 _ _ (by rfl) (by first   | exact Or.inl rfl   | exact Or.inr (Or.inl rfl)   | exact Or.inr (Or.inr rfl)) (by decide) (by decide)) (@pe_int _ _ _ _) (fun _ _=>rfl)) (@pa_cons _ _ _ _ _ (@pv _ 4 _ _ (by rfl) (by first   | exact Or.inl rfl   | exact Or.inr (Or.inl rfl)   | exact Or.inr (Or.inr rfl)) (by decide) (by decide)) (@pa_nil _) (by rfl)) (by rfl)) (by rfl))))) (@pss_nil _)) (@pss_cons _ _ _ _ _ (@ps_set _ _ (5) _ _ _ _ sc_law_changed.nd rfl (Or.inl rfl) (@pe_lst _ _ _ _ (@pa_nil _)) (by rfl) (by first   | exact .inl rfl   | exact .inr rfl   | assumption)) (@pss_cons _ _ _ _ _ (@ps_for _ _ _ _ _ _ _ _ PassesOwn.never rfl (@pi_tup _ _ _ _ (@pe_ix _ _ _ _ _ _ _ (@ix_tup _) (@pv _ 0 _ _ (by rfl) (by first   | exact Or.inl rfl   | exact Or.inr (Or.inl rfl)   | exact Or.inr (Or.inr rfl)) (by decide) (by decide)) (@pe_ix _ _ _ _ _ _ _ ix_list (@pe_lst _ _ _ _ (@pa_cons _ _ _ _ _ (@pe_int _ _ _ _) (@pa_cons _ _ _ _ _ (@pe_int _ _ _ _) (@pa_nil _) (by rfl)) (by rfl))) (@pe_callTy _ _ _ _ _ _ _ _ _ call_int1 (by rfl) T.n_int boot_int (@pa_cons _ _ _ _ _ (@pe_cmpR _ _ _ _ _ _ _ _ (@op_eq _) (@pe_ix _ _ _ _ _ _ _ (@ix_tup _) (@pv _ 0 _ _ (by rfl) (by first   | exact Or.inl rfl   | exact Or.inr (Or.inl rfl)   | exact Or.inr (Or.inr rfl)) (by decide) (by decide)) (@pe_int _ _ _ _) (fun _ _=>rfl)) (@pe_str _ _ _ _) (nomark _)) (@pa_nil _) (by rfl)) (by decide) (by decide) (by rfl) (by rfl)) (fun _ _=>rfl)) (fun _ _=>rfl))) (@pg_tup _ _ _ _ _ _ rfl (@pgs_cons _ _ _ _ _ (@pg_name _ _ (6) _ sc_law_changed.nd rfl (Or.inl rfl) (by first   | exact .inl rfl   | exact .inr rfl   | assumption)) (@pgs_cons _ _ _ _ _ (@pg_name _ _ (7) _ sc_law_changed.nd rfl (Or.inl rfl) (by first   | exact .inl rfl   | exact .inr rfl   | assumption)) (@pgs_nil _) (by rfl)) (by rfl)) (by rfl) (by rfl)) (@pss_cons _ _ _ _ _ (@ps_if _ _ _ _ _ _ _ _ (@pt_val _ _ _ (@pe_callB _ _ _ _ _ _ _ _ _ (@call_isinst _) (by rfl) T.n_isinstance PyProof.Rows.boot_isinstance (@pa_cons _ _ _ _ _ (@pv _ 7 _ _ (by rfl) (by first   | exact Or.inl rfl   | exact Or.inr (Or.inl rfl)   | exact Or.inr (Or.inr rfl)) (by decide) (by decide)) (@pa_cons _ _ _ _ _ (@pe_bltn _ _ (.ty "str") _ _ (by rfl) T.n_str boot_str rfl (by decide) (by decide)) (@pa_nil _) (by rfl)) (by rfl)) (by decide) (by decide) (by rfl) (by rfl)) (by intro _; rfl)) (@pss_one _ _ _ (@ps_set _ _ (7) _ _ _ _ sc_law_changed.nd rfl (Or.inl rfl) (@pe_dget _ _ _ _ _ _ hu (@pv _ 3 _ _ (by rfl) (by first   | exact Or.inl rfl   | exact Or.inr (Or.inl rfl)   | exact Or.inr (Or.inr rfl)) (by decide) (by decide)) (@pe_dget _ _ _ _ _ _ hu (@pv _ 2 _ _ (by rfl) (by first   | exact Or.inl rfl   | exact Or.inr (Or.inl rfl)   | exact Or.inr (Or.inr rfl)) (by decide) (by decide)) (@pe_tup _ _ _ _ _ (@pa_cons _ _ _ _ _ (@pv _ 1 _ _ (by rfl) (by first   | exact Or.inl rfl   | exact Or.inr (Or.inl rfl)   | exact Or.inr (Or.inr rfl)) (by decide) (by decide)) (@pa_cons _ _ _ _ _ (@pv _ 7 _ _ (by rfl) (by first   | exact Or.inl rfl   | exact Or.inr (Or.inl rfl)   | exact Or.inr (Or.inr rfl)) (by decide) (by decide)) (@pa_nil _) (by rfl)) (by rfl))) (fun _ _=>rfl)) (fun _ _=>rfl)) (by rfl) (by first   | exact .inl rfl   | exact .inr rfl   | assumption))) (@pss_nil _)) (@pss_one _ _ _ (@ps_expr _ _ _ _ (@pe_bm _ _ _ _ _ _ _ _ _ _ _ _ PySem.F.plainAttrs_list PySem.F.slot_list_append PySem.F.type_list_append (@mt_append _) (@pv _ 5 _ _ (by rfl) (by first   | exact Or.inl rfl   | exact Or.inr (Or.inl rfl)   | exact Or.inr (Or.inr rfl)) (by decide) (by decide)) (@pa_cons _ _ _ _ _ (@pe_tup _ _ _ _ _ (@pa_cons _ _ _ _ _ (@pv _ 6 _ _ (by rfl) (by first   | exact Or.inl rfl   | exact Or.inr (Or.inl rfl)   | exact Or.inr (Or.inr rfl)) (by decide) (by decide)) (@pa_cons _ _ _ _ _ (@pv _ 7 _ _ (by rfl) (by first   | exact Or.inl rfl   | exact Or.inr (Or.inl rfl)   | exact Or.inr (Or.inr rfl)) (by decide) (by decide)) (@pa_nil _) (by rfl)) (by rfl))) (@pa_nil _) (by rfl)) (by rfl) (by rfl) (by rfl) (by rfl) (by rfl)) (by rfl)))) (by intro _; rfl)) (@pss_cons _ _ _ _ _ (@ps_if _ _ _ _ _ _ _ _ (@pt_cmpR _ _ _ _ _ _ _ _ (@op_eq _) (@pe_ix _ _ _ _ _ _ _ (@ix_tup _) (@pv _ 0 _ _ (by rfl) (by first   | exact Or.inl rfl   | exact Or.inr (Or.inl rfl)   | exact Or.inr (Or.inr rfl)) (by decide) (by decide)) (@pe_int _ _ _ _) (fun _ _=>rfl)) (@pe_str _ _ _ _) (nomark _)) (@pss_one _ _ _ (@ps_ret _ _ _ _ (@pe_tup _ _ _ _ _ (@pa_cons _ _ _ _ _ (@pe_str _ _ _ _) (@pa_cons _ _ _ _ _ (@pe_dget _ _ _ _ _ _ hu (@pv _ 3 _ _ (by rfl) (by first   | exact Or.inl rfl   | exact Or.inr (Or.inl rfl)   | exact Or.inr (Or.inr rfl)) (by decide) (by decide)) (@pe_dget _ _ _ _ _ _ hu (@pv _ 2 _ _ (by rfl) (by first   | exact Or.inl rfl   | exact Or.inr (Or.inl rfl)   | exact Or.inr (Or.inr rfl)) (by decide) (by decide)) (@pe_tup _ _ _ _ _ (@pa_cons _ _ _ _ _ (@pv _ 1 _ _ (by rfl) (by first   | exact Or.inl rfl   | exact Or.inr (Or.inl rfl)   | exact Or.inr (Or.inr rfl)) (by decide) (by decide)) (@pa_cons _ _ _ _ _ (@pe_ix _ _ _ _ _ _ _ (@ix_tup _) (@pv _ 0 _ _ (by rfl) (by first   | exact Or.inl rfl   | exact Or.inr (Or.inl rfl)   | exact Or.inr (Or.inr rfl)) (by decide) (by decide)) (@pe_int _ _ _ _) (fun _ _=>rfl)) (@pa_nil _) (by rfl)) (by rfl))) (fun _ _=>rfl)) (fun _ _=>rfl)) (@pa_cons _ _ _ _ _ (@pe_callTy _ _ _ _ _ _ _ _ _ (@call_tuple_of _) (by rfl) T.n_tuple boot_tuple (@pa_cons _ _ _ _ _ (@pv _ 5 _ _ (by rfl) (by first   | exact Or.inl rfl   | exact Or.inr (Or.inl rfl)   | exact Or.inr (Or.inr rfl)) (by decide) (by decide)) (@pa_nil _) (by rfl)) (by decide) (by decide) (by rfl) (by rfl)) (@pa_nil _) (by rfl)) (by rfl)) (by rfl))))) (@pss_nil _)) (@pss_cons _ _ _ _ _ (@ps_if _ _ _ _ _ _ _ _ (@pt_cmpR _ _ _ _ _ _ _ _ (@op_eq _) (@pe_ix _ _ _ _ _ _ _ (@ix_tup _) (@pv _ 0 _ _ (by rfl) (by first   | exact Or.inl rfl   | exact Or.inr (Or.inl rfl)   | exact Or.inr (Or.inr rfl)) (by decide) (by decide)) (@pe_int _ _ _ _) (fun _ _=>rfl)) (@pe_str _ _ _ _) (nomark _)) (@pss_one _ _ _ (@ps_ret _ _ _ _ (@pe_tup _ _ _ _ _ (@pa_cons _ _ _ _ _ (@pe_str _ _ _ _) (@pa_cons _ _ _ _ _ (@pe_callTy _ _ _ _ _ _ _ _ _ (@call_tuple_of _) (by rfl) T.n_tuple boot_tuple (@pa_cons _ _ _ _ _ (@pv _ 5 _ _ (by rfl) (by first   | exact Or.inl rfl   | exact Or.inr (Or.inl rfl)   | exact Or.inr (Or.inr rfl)) (by decide) (by decide)) (@pa_nil _) (by rfl)) (by decide) (by decide) (by rfl) (by rfl)) (@pa_nil _) (by rfl)) (by rfl))))) (@pss_nil _)) (@pss_one _ _ _ (@ps_ret _ _ _ _ (@pe_tup _ _ _ _ _ (@pa_cons _ _ _ _ _ (@pe_str _ _ _ _) (@pa_cons _ _ _ _ _ (@pe_callTy _ _ _ _ _ _ _ _ _ (@call_tuple_of _) (by rfl) T.n_tuple boot_tuple (@pa_cons _ _ _ _ _ (@pv _ 5 _ _ (by rfl) (by first   | exact Or.inl rfl   | exact Or.inr (Or.inl rfl)   | exact Or.inr (Or.inr rfl)) (by decide) (by decide)) (@pa_nil _) (by rfl)) (by decide) (by decide) (by rfl) (by rfl)) (@pa_cons _ _ _ _ _ (@pv _ 4 _ _ (by rfl) (by first   | exact Or.inl rfl   | exact Or.inr (Or.inl rfl)   | exact Or.inr (Or.inr rfl)) (by decide) (by decide)) (@pa_nil _) (by rfl)) (by rfl)) (by rfl))))))))))))),?_⟩
  have get : ∀ {H2 : Hp} {y : Str} {e : Addr},Same H H2→H2 e = some (.tup [.str n,.str y])→HasL H pkv nkv n N y→∃ t,DGet H2 m (.ref e) (some (.ref t))∧DGet H2 nd (.ref t) (some (.str (N y))):=fun {H2 y e} s2 he ⟨t,p,h1,h2,h3⟩=>by
   have a1:=DGet.t (k:=key2 (n,y)) (s2 _ _ hm) he
   have a2:=DGet.t (k:=kp p) (s2 _ _ hnd) (s2 _ _ h2)
   rw [h1] at a1
   rw [h3] at a2
   exact ⟨t,a1,a2⟩
  cases rw with
  | take o =>
   have hrt : H r = some (.tup [.str "take",.str o]):=hra
   refine ⟨_,rfl,r,_,_,_,rfl,rfl,SqT.of hrt,rfl,rfl,_,rfl,iteSE ?_⟩
   refine ⟨_,rfl,_,rfl,_,rfl,_,rfl,r,_,_,_,rfl,rfl,SqT.of hrt,rfl,leS2,fun e ge=>?_⟩
   have s1 : Same H (upd H e (.tup [.str n,.str o])):=(Same.refl H).new ge
   obtain ⟨t,g1,g2⟩:=get s1 upd_same hN
   refine ⟨m,_,rfl,g1,nd,_,rfl,g2,leS2,fun r' gr=>?_⟩
   exact q r' _ (s1.new gr) upd_same
  | ask p w =>
   have hrt : H r = some (.tup [.str "ask",.str p,optV w]):=hra
   refine ⟨_,rfl,r,_,_,_,rfl,rfl,SqT.of hrt,rfl,rfl,_,rfl,iteSN (show ¬ ("ask" : Str) = "take" by decide +kernel) ?_⟩
   refine ⟨_,rfl,r,_,_,_,rfl,rfl,SqT.of hrt,rfl,leS2,fun c gc=>?_⟩
   have s1 : Same H (upd H c (.tup [.str "say",.str "ask"])):=(Same.refl H).new gc
   refine ⟨c,_,rfl,.inr (SqT.of upd_same),rfl,rfl,_,rfl,?_⟩
   rw [if_neg (by decide),inV2,decide_eq_true (show ("ask" : Str) = "say" ∨ ("ask" : Str) = "ask" from .inr rfl)]
   refine iteT ?_
   generalize upd H c (.tup [.str "say",.str "ask"]) = H1 at s1 ⊢
   cases w with
   | none =>
    refine ⟨_,rfl,r,_,_,_,rfl,rfl,SqT.of (s1 _ _ hrt),rfl,_,rfl,iteF ?_⟩
    have sx:=s1
    generalize H1 = Hx at sx ⊢
    refine ⟨_,rfl,r,_,_,_,rfl,rfl,SqT.of (sx _ _ hrt),rfl,rfl,_,rfl,iteSE ?_⟩
    refine ⟨_,rfl,r,_,_,_,rfl,rfl,SqT.of (sx _ _ hrt),rfl,_,rfl,leS3,fun r' gr=>?_⟩
    exact q r' _ (sx.new gr) upd_same
   | some y =>
    refine ⟨_,rfl,r,_,_,_,rfl,rfl,SqT.of (s1 _ _ hrt),rfl,_,rfl,iteT ?_⟩
    refine ⟨_,rfl,_,rfl,_,rfl,_,rfl,r,_,_,_,rfl,rfl,SqT.of (s1 _ _ hrt),rfl,leS2,fun e ge=>?_⟩
    have s2 : Same H1 (upd H1 e (.tup [.str n,optV (some y)])):=(Same.refl H1).new ge
    obtain ⟨t0,g1,g2⟩:=get (y:=y) (s1.trans s2) upd_same (hN y rfl)
    refine ⟨m,_,rfl,g1,nd,_,rfl,g2,?_⟩
    have sx:=s1.trans s2
    generalize upd H1 e (.tup [.str n,optV (some y)]) = Hx at sx ⊢
    refine ⟨_,rfl,r,_,_,_,rfl,rfl,SqT.of (sx _ _ hrt),rfl,rfl,_,rfl,iteSE ?_⟩
    refine ⟨_,rfl,r,_,_,_,rfl,rfl,SqT.of (sx _ _ hrt),rfl,_,rfl,leS3,fun r' gr=>?_⟩
    exact q r' _ (sx.new gr) upd_same
  | set o ts =>
   obtain ⟨t,hrt,hts⟩:=hra
   refine ⟨_,rfl,r,_,_,_,rfl,rfl,SqT.of hrt,rfl,rfl,_,rfl,iteSN (show ¬ ("set" : Str) = "take" by decide +kernel) ?_⟩
   refine ⟨_,rfl,r,_,_,_,rfl,rfl,SqT.of hrt,rfl,leS2,fun c gc=>?_⟩
   have s1 : Same H (upd H c (.tup [.str "say",.str "ask"])):=(Same.refl H).new gc
   refine ⟨c,_,rfl,.inr (SqT.of upd_same),rfl,rfl,_,rfl,?_⟩
   rw [if_neg (by decide),inV2,decide_eq_false (show ¬ (("set" : Str) = "say" ∨ ("set" : Str) = "ask") by decide +kernel)]
   refine iteF ?_
   refine iteF ?_
   generalize upd H c (.tup [.str "say",.str "ask"]) = H1 at s1 ⊢
   have sx:=s1
   generalize H1 = Hx at sx ⊢
   refine ⟨_,rfl,r,_,_,_,rfl,rfl,SqT.of (sx _ _ hrt),rfl,rfl,_,rfl,iteSN (show ¬ ("set" : Str) = "ask" by decide +kernel) ?_⟩
   refine ⟨leS0,fun L gL=>?_⟩
   have sl : Same Hx (upd Hx L (.lst [])):=(Same.refl Hx).new gL
   have hL0 : upd Hx L (.lst []) L = some (.lst []):=upd_same
   generalize upd Hx L (.lst []) = H3 at sl hL0 ⊢
   refine ⟨_,rfl,leS2,fun l2 gl2=>?_⟩
   have s4 : Same H3 (upd H3 l2 (.lst [.int 1,.int 2])):=(Same.refl H3).new gl2
   have hl2 : upd H3 l2 (.lst [.int 1,.int 2]) l2 = some (.lst [.int 1,.int 2]):=upd_same
   generalize upd H3 l2 (.lst [.int 1,.int 2]) = H4 at s4 hl2 ⊢
   have hrt4:=s4 _ _ (sl _ _ (sx _ _ hrt))
   refine ⟨_,rfl,r,_,_,_,rfl,rfl,SqT.of hrt4,rfl,rfl,.inr ⟨_,rfl,?_⟩⟩
   rw [decide_eq_true (show V.str "set" = V.str "set" from rfl)]
   refine ⟨l2,_,_,_,rfl,rfl,SqL.of hl2,rfl,r,_,_,_,rfl,rfl,SqT.of hrt4,rfl,?_⟩
   obtain ⟨⟨vs,ht,htv⟩,hlo,hhi⟩:=hts.mono (sx.tups.trans (sl.tups.trans s4.tups))
   have hvl : vs.length = ts.length:=Paired.length htv
   have s34:=sx.trans (sl.trans s4)
   have hLH : Hx L = none:=gL
   refine ⟨t,rfl,⟨_,SqT.of ht⟩,for_tup (K:=K) (a:=t) (xs:=vs) (fun i σ H5=>∃ (us : List V) (v6 v7 : Option V),σ = [some (.ref r),some (.str n),some (.ref m),some (.ref nd),some (.non),some (.ref L),v6,v7]∧Same Hx H5∧Tups H4 H5∧H5 L = some (.lst us)∧Paired (TmV N H5) us (ts.take i))
    ⟨[],_,_,rfl,sl.trans s4,Tups.refl H4,s4 _ _ hL0,by rw [List.take_zero]; exact .nil⟩ (fun i σ H5 _ ⟨_,_,_,_,_,t5,_⟩=>SqT.of (t5 _ _ ht)) ?_ ?_⟩
   ·rintro i x σ H5 hx ⟨us,v6,v7,rfl,s5,t5,hL5,hus⟩
    obtain ⟨d,hd,c2,ex,hc2,_⟩:=Paired.get? htv hx
    subst ex
    have hul : us.length ≤ 6:=by rw [Paired.length hus,List.length_take]; omega
    refine ⟨c2,_,rfl,SqT.of (t5 _ _ hc2),rfl,_,_,rfl,_,_,rfl,rfl,?_⟩
    obtain ⟨sg,th⟩:=d
    cases th with
    | num k =>
     refine ⟨_,rfl,_,_,_,_,rfl,.int k,kit_int_str _,_,rfl,iteF ?_⟩
     refine ⟨_,rfl,.inl ⟨rfl,_,SqL.of hL5⟩,_,rfl,_,rfl,leS2,fun e2 ge2=>?_⟩
     have s6 : Same H5 (upd H5 e2 (.tup [.int sg,.int k])):=(Same.refl H5).new ge2
     have hL6:=s6 _ _ hL5
     have TL:=Tups.lst (ys:=us ++ [.ref e2]) hL6
     refine ⟨L,_,_,rfl,rfl,hL6,small1000 (by omega),us ++ [.ref e2],_,_,rfl,(s5.trans s6).put hLH,t5.trans (s6.tups.trans TL),upd_same,?_⟩
     rw [take_succ_get hd]
     exact Paired.snoc (Paired.mapP hus fun _ _ z=>z.mono (s6.tups.trans TL)) ⟨e2,rfl,TL _ _ upd_same⟩
    | nam yy =>
     refine ⟨_,rfl,_,_,_,_,rfl,.str yy,kit_same _ _,_,rfl,iteT ?_⟩
     refine ⟨_,rfl,_,rfl,_,rfl,_,rfl,leS2,fun e1 ge1=>?_⟩
     have s6 : Same H5 (upd H5 e1 (.tup [.str n,thV ((sg,Th.nam yy) : Int × Th).2])):=(Same.refl H5).new ge1
     obtain ⟨t0,g1,g2⟩:=get (y:=yy) (sx.trans (s5.trans s6)) upd_same (hN.2 _ (List.mem_of_getElem? hd) yy rfl)
     refine ⟨m,_,rfl,g1,nd,_,rfl,g2,?_⟩
     generalize upd H5 e1 (.tup [.str n,thV ((sg,Th.nam yy) : Int × Th).2]) = H6 at s6 ⊢
     refine ⟨_,rfl,.inl ⟨rfl,_,SqL.of (s6 _ _ hL5)⟩,_,rfl,_,rfl,leS2,fun e2 ge2=>?_⟩
     have s7 : Same H5 (upd H6 e2 (.tup [.int sg,.str (N yy)])):=s6.new ge2
     have hL6:=s7 _ _ hL5
     have TL:=Tups.lst (ys:=us ++ [.ref e2]) hL6
     refine ⟨L,_,_,rfl,rfl,hL6,small1000 (by omega),us ++ [.ref e2],_,_,rfl,(s5.trans s7).put hLH,t5.trans (s7.tups.trans TL),upd_same,?_⟩
     rw [take_succ_get hd]
     exact Paired.snoc (Paired.mapP hus fun _ _ z=>z.mono (s7.tups.trans TL)) ⟨e2,rfl,TL _ _ upd_same⟩
   ·rintro σ H5 ⟨us,v6,v7,rfl,s5,t5,hL5,hus⟩
    rw [hvl,List.take_length] at hus
    have sh:=sx.trans s5
    refine ⟨_,rfl,r,_,_,_,rfl,rfl,SqT.of (sh _ _ hrt),rfl,rfl,_,rfl,iteSE ?_⟩
    refine ⟨_,rfl,_,rfl,_,rfl,_,rfl,r,_,_,_,rfl,rfl,SqT.of (sh _ _ hrt),rfl,leS2,fun e ge=>?_⟩
    have s6 : Same H5 (upd H5 e (.tup [.str n,.str o])):=(Same.refl H5).new ge
    obtain ⟨t0,g1,g2⟩:=get (sh.trans s6) upd_same hN.1
    refine ⟨m,_,rfl,g1,nd,_,rfl,g2,_,rfl,L,_,rfl,.inl ⟨SqL.of (s6 _ _ hL5),fun u gu=>?_⟩⟩
    have s7:=s6.new (o:=.tup us) gu
    refine ⟨leS3,fun r' gr=>?_⟩
    exact q r' _ (sh.trans (s7.new gr)) ⟨u,upd_same,us,upd_keep upd_same gr,Paired.mapP hus fun _ _ z=>z.mono (s7.new gr).tups⟩
  | say ts w =>
   obtain ⟨t,hrt,hts⟩:=hra
   refine ⟨_,rfl,r,_,_,_,rfl,rfl,SqT.of hrt,rfl,rfl,_,rfl,iteSN (show ¬ ("say" : Str) = "take" by decide +kernel) ?_⟩
   refine ⟨_,rfl,r,_,_,_,rfl,rfl,SqT.of hrt,rfl,leS2,fun c gc=>?_⟩
   have s1 : Same H (upd H c (.tup [.str "say",.str "ask"])):=(Same.refl H).new gc
   refine ⟨c,_,rfl,.inr (SqT.of upd_same),rfl,rfl,_,rfl,?_⟩
   rw [if_neg (by decide),inV2,decide_eq_true (show ("say" : Str) = "say" ∨ ("say" : Str) = "ask" from .inl rfl)]
   refine iteT ?_
   generalize upd H c (.tup [.str "say",.str "ask"]) = H1 at s1 ⊢
   cases w with
   | none =>
    refine ⟨_,rfl,r,_,_,_,rfl,rfl,SqT.of (s1 _ _ hrt),rfl,_,rfl,iteF ?_⟩
    have sx:=s1
    generalize H1 = Hx at sx ⊢
    refine ⟨_,rfl,r,_,_,_,rfl,rfl,SqT.of (sx _ _ hrt),rfl,rfl,_,rfl,iteSN (show ¬ ("say" : Str) = "ask" by decide +kernel) ?_⟩
    refine ⟨leS0,fun L gL=>?_⟩
    have sl : Same Hx (upd Hx L (.lst [])):=(Same.refl Hx).new gL
    have hL0 : upd Hx L (.lst []) L = some (.lst []):=upd_same
    generalize upd Hx L (.lst []) = H3 at sl hL0 ⊢
    refine ⟨_,rfl,leS2,fun l2 gl2=>?_⟩
    have s4 : Same H3 (upd H3 l2 (.lst [.int 1,.int 2])):=(Same.refl H3).new gl2
    have hl2 : upd H3 l2 (.lst [.int 1,.int 2]) l2 = some (.lst [.int 1,.int 2]):=upd_same
    generalize upd H3 l2 (.lst [.int 1,.int 2]) = H4 at s4 hl2 ⊢
    have hrt4:=s4 _ _ (sl _ _ (sx _ _ hrt))
    refine ⟨_,rfl,r,_,_,_,rfl,rfl,SqT.of hrt4,rfl,rfl,.inr ⟨_,rfl,?_⟩⟩
    rw [decide_eq_false (show ¬ V.str "say" = V.str "set" from fun z=>absurd (V.str.inj z) (by decide +kernel))]
    refine ⟨l2,_,_,_,rfl,rfl,SqL.of hl2,rfl,r,_,_,_,rfl,rfl,SqT.of hrt4,rfl,?_⟩
    obtain ⟨⟨vs,ht,htv⟩,hlo,hhi⟩:=hts.mono (sx.tups.trans (sl.tups.trans s4.tups))
    have hvl : vs.length = ts.length:=Paired.length htv
    have s34:=sx.trans (sl.trans s4)
    have hLH : Hx L = none:=gL
    refine ⟨t,rfl,⟨_,SqT.of ht⟩,for_tup (K:=K) (a:=t) (xs:=vs) (fun i σ H5=>∃ (us : List V) (v6 v7 : Option V),σ = [some (.ref r),some (.str n),some (.ref m),some (.ref nd),some (.non),some (.ref L),v6,v7]∧Same Hx H5∧Tups H4 H5∧H5 L = some (.lst us)∧Paired (TmV N H5) us (ts.take i))
     ⟨[],_,_,rfl,sl.trans s4,Tups.refl H4,s4 _ _ hL0,by rw [List.take_zero]; exact .nil⟩ (fun i σ H5 _ ⟨_,_,_,_,_,t5,_⟩=>SqT.of (t5 _ _ ht)) ?_ ?_⟩
    ·rintro i x σ H5 hx ⟨us,v6,v7,rfl,s5,t5,hL5,hus⟩
     obtain ⟨d,hd,c2,ex,hc2,_⟩:=Paired.get? htv hx
     subst ex
     have hul : us.length ≤ 6:=by rw [Paired.length hus,List.length_take]; omega
     refine ⟨c2,_,rfl,SqT.of (t5 _ _ hc2),rfl,_,_,rfl,_,_,rfl,rfl,?_⟩
     obtain ⟨sg,th⟩:=d
     cases th with
     | num k =>
      refine ⟨_,rfl,_,_,_,_,rfl,.int k,kit_int_str _,_,rfl,iteF ?_⟩
      refine ⟨_,rfl,.inl ⟨rfl,_,SqL.of hL5⟩,_,rfl,_,rfl,leS2,fun e2 ge2=>?_⟩
      have s6 : Same H5 (upd H5 e2 (.tup [.int sg,.int k])):=(Same.refl H5).new ge2
      have hL6:=s6 _ _ hL5
      have TL:=Tups.lst (ys:=us ++ [.ref e2]) hL6
      refine ⟨L,_,_,rfl,rfl,hL6,small1000 (by omega),us ++ [.ref e2],_,_,rfl,(s5.trans s6).put hLH,t5.trans (s6.tups.trans TL),upd_same,?_⟩
      rw [take_succ_get hd]
      exact Paired.snoc (Paired.mapP hus fun _ _ z=>z.mono (s6.tups.trans TL)) ⟨e2,rfl,TL _ _ upd_same⟩
     | nam yy =>
      refine ⟨_,rfl,_,_,_,_,rfl,.str yy,kit_same _ _,_,rfl,iteT ?_⟩
      refine ⟨_,rfl,_,rfl,_,rfl,_,rfl,leS2,fun e1 ge1=>?_⟩
      have s6 : Same H5 (upd H5 e1 (.tup [.str n,thV ((sg,Th.nam yy) : Int × Th).2])):=(Same.refl H5).new ge1
      obtain ⟨t0,g1,g2⟩:=get (y:=yy) (sx.trans (s5.trans s6)) upd_same (hN.1 _ (List.mem_of_getElem? hd) yy rfl)
      refine ⟨m,_,rfl,g1,nd,_,rfl,g2,?_⟩
      generalize upd H5 e1 (.tup [.str n,thV ((sg,Th.nam yy) : Int × Th).2]) = H6 at s6 ⊢
      refine ⟨_,rfl,.inl ⟨rfl,_,SqL.of (s6 _ _ hL5)⟩,_,rfl,_,rfl,leS2,fun e2 ge2=>?_⟩
      have s7 : Same H5 (upd H6 e2 (.tup [.int sg,.str (N yy)])):=s6.new ge2
      have hL6:=s7 _ _ hL5
      have TL:=Tups.lst (ys:=us ++ [.ref e2]) hL6
      refine ⟨L,_,_,rfl,rfl,hL6,small1000 (by omega),us ++ [.ref e2],_,_,rfl,(s5.trans s7).put hLH,t5.trans (s7.tups.trans TL),upd_same,?_⟩
      rw [take_succ_get hd]
      exact Paired.snoc (Paired.mapP hus fun _ _ z=>z.mono (s7.tups.trans TL)) ⟨e2,rfl,TL _ _ upd_same⟩
    ·rintro σ H5 ⟨us,v6,v7,rfl,s5,t5,hL5,hus⟩
     rw [hvl,List.take_length] at hus
     have sh:=sx.trans s5
     refine ⟨_,rfl,r,_,_,_,rfl,rfl,SqT.of (sh _ _ hrt),rfl,rfl,_,rfl,iteSN (show ¬ ("say" : Str) = "set" by decide +kernel) ?_⟩
     refine ⟨_,rfl,r,_,_,_,rfl,rfl,SqT.of (sh _ _ hrt),rfl,rfl,_,rfl,iteSN (show ¬ ("say" : Str) = "need" by decide +kernel) ?_⟩
     refine ⟨_,rfl,L,_,rfl,.inl ⟨SqL.of hL5,fun u gu=>?_⟩⟩
     have s7 : Same H5 (upd H5 u (.tup us)):=(Same.refl H5).new gu
     refine ⟨_,rfl,leS3,fun r' gr=>?_⟩
     exact q r' _ (sh.trans (s7.new gr)) ⟨u,upd_same,us,upd_keep upd_same gr,Paired.mapP hus fun _ _ z=>z.mono (s7.new gr).tups⟩
   | some y =>
    refine ⟨_,rfl,r,_,_,_,rfl,rfl,SqT.of (s1 _ _ hrt),rfl,_,rfl,iteT ?_⟩
    refine ⟨_,rfl,_,rfl,_,rfl,_,rfl,r,_,_,_,rfl,rfl,SqT.of (s1 _ _ hrt),rfl,leS2,fun e ge=>?_⟩
    have s2 : Same H1 (upd H1 e (.tup [.str n,optV (some y)])):=(Same.refl H1).new ge
    obtain ⟨t0,g1,g2⟩:=get (y:=y) (s1.trans s2) upd_same (hN.2 y rfl)
    refine ⟨m,_,rfl,g1,nd,_,rfl,g2,?_⟩
    have sx:=s1.trans s2
    generalize upd H1 e (.tup [.str n,optV (some y)]) = Hx at sx ⊢
    refine ⟨_,rfl,r,_,_,_,rfl,rfl,SqT.of (sx _ _ hrt),rfl,rfl,_,rfl,iteSN (show ¬ ("say" : Str) = "ask" by decide +kernel) ?_⟩
    refine ⟨leS0,fun L gL=>?_⟩
    have sl : Same Hx (upd Hx L (.lst [])):=(Same.refl Hx).new gL
    have hL0 : upd Hx L (.lst []) L = some (.lst []):=upd_same
    generalize upd Hx L (.lst []) = H3 at sl hL0 ⊢
    refine ⟨_,rfl,leS2,fun l2 gl2=>?_⟩
    have s4 : Same H3 (upd H3 l2 (.lst [.int 1,.int 2])):=(Same.refl H3).new gl2
    have hl2 : upd H3 l2 (.lst [.int 1,.int 2]) l2 = some (.lst [.int 1,.int 2]):=upd_same
    generalize upd H3 l2 (.lst [.int 1,.int 2]) = H4 at s4 hl2 ⊢
    have hrt4:=s4 _ _ (sl _ _ (sx _ _ hrt))
    refine ⟨_,rfl,r,_,_,_,rfl,rfl,SqT.of hrt4,rfl,rfl,.inr ⟨_,rfl,?_⟩⟩
    rw [decide_eq_false (show ¬ V.str "say" = V.str "set" from fun z=>absurd (V.str.inj z) (by decide +kernel))]
    refine ⟨l2,_,_,_,rfl,rfl,SqL.of hl2,rfl,r,_,_,_,rfl,rfl,SqT.of hrt4,rfl,?_⟩
    obtain ⟨⟨vs,ht,htv⟩,hlo,hhi⟩:=hts.mono (sx.tups.trans (sl.tups.trans s4.tups))
    have hvl : vs.length = ts.length:=Paired.length htv
    have s34:=sx.trans (sl.trans s4)
    have hLH : Hx L = none:=gL
    refine ⟨t,rfl,⟨_,SqT.of ht⟩,for_tup (K:=K) (a:=t) (xs:=vs) (fun i σ H5=>∃ (us : List V) (v6 v7 : Option V),σ = [some (.ref r),some (.str n),some (.ref m),some (.ref nd),some (.str (N y)),some (.ref L),v6,v7]∧Same Hx H5∧Tups H4 H5∧H5 L = some (.lst us)∧Paired (TmV N H5) us (ts.take i))
     ⟨[],_,_,rfl,sl.trans s4,Tups.refl H4,s4 _ _ hL0,by rw [List.take_zero]; exact .nil⟩ (fun i σ H5 _ ⟨_,_,_,_,_,t5,_⟩=>SqT.of (t5 _ _ ht)) ?_ ?_⟩
    ·rintro i x σ H5 hx ⟨us,v6,v7,rfl,s5,t5,hL5,hus⟩
     obtain ⟨d,hd,c2,ex,hc2,_⟩:=Paired.get? htv hx
     subst ex
     have hul : us.length ≤ 6:=by rw [Paired.length hus,List.length_take]; omega
     refine ⟨c2,_,rfl,SqT.of (t5 _ _ hc2),rfl,_,_,rfl,_,_,rfl,rfl,?_⟩
     obtain ⟨sg,th⟩:=d
     cases th with
     | num k =>
      refine ⟨_,rfl,_,_,_,_,rfl,.int k,kit_int_str _,_,rfl,iteF ?_⟩
      refine ⟨_,rfl,.inl ⟨rfl,_,SqL.of hL5⟩,_,rfl,_,rfl,leS2,fun e2 ge2=>?_⟩
      have s6 : Same H5 (upd H5 e2 (.tup [.int sg,.int k])):=(Same.refl H5).new ge2
      have hL6:=s6 _ _ hL5
      have TL:=Tups.lst (ys:=us ++ [.ref e2]) hL6
      refine ⟨L,_,_,rfl,rfl,hL6,small1000 (by omega),us ++ [.ref e2],_,_,rfl,(s5.trans s6).put hLH,t5.trans (s6.tups.trans TL),upd_same,?_⟩
      rw [take_succ_get hd]
      exact Paired.snoc (Paired.mapP hus fun _ _ z=>z.mono (s6.tups.trans TL)) ⟨e2,rfl,TL _ _ upd_same⟩
     | nam yy =>
      refine ⟨_,rfl,_,_,_,_,rfl,.str yy,kit_same _ _,_,rfl,iteT ?_⟩
      refine ⟨_,rfl,_,rfl,_,rfl,_,rfl,leS2,fun e1 ge1=>?_⟩
      have s6 : Same H5 (upd H5 e1 (.tup [.str n,thV ((sg,Th.nam yy) : Int × Th).2])):=(Same.refl H5).new ge1
      obtain ⟨t0,g1,g2⟩:=get (y:=yy) (sx.trans (s5.trans s6)) upd_same (hN.1 _ (List.mem_of_getElem? hd) yy rfl)
      refine ⟨m,_,rfl,g1,nd,_,rfl,g2,?_⟩
      generalize upd H5 e1 (.tup [.str n,thV ((sg,Th.nam yy) : Int × Th).2]) = H6 at s6 ⊢
      refine ⟨_,rfl,.inl ⟨rfl,_,SqL.of (s6 _ _ hL5)⟩,_,rfl,_,rfl,leS2,fun e2 ge2=>?_⟩
      have s7 : Same H5 (upd H6 e2 (.tup [.int sg,.str (N yy)])):=s6.new ge2
      have hL6:=s7 _ _ hL5
      have TL:=Tups.lst (ys:=us ++ [.ref e2]) hL6
      refine ⟨L,_,_,rfl,rfl,hL6,small1000 (by omega),us ++ [.ref e2],_,_,rfl,(s5.trans s7).put hLH,t5.trans (s7.tups.trans TL),upd_same,?_⟩
      rw [take_succ_get hd]
      exact Paired.snoc (Paired.mapP hus fun _ _ z=>z.mono (s7.tups.trans TL)) ⟨e2,rfl,TL _ _ upd_same⟩
    ·rintro σ H5 ⟨us,v6,v7,rfl,s5,t5,hL5,hus⟩
     rw [hvl,List.take_length] at hus
     have sh:=sx.trans s5
     refine ⟨_,rfl,r,_,_,_,rfl,rfl,SqT.of (sh _ _ hrt),rfl,rfl,_,rfl,iteSN (show ¬ ("say" : Str) = "set" by decide +kernel) ?_⟩
     refine ⟨_,rfl,r,_,_,_,rfl,rfl,SqT.of (sh _ _ hrt),rfl,rfl,_,rfl,iteSN (show ¬ ("say" : Str) = "need" by decide +kernel) ?_⟩
     refine ⟨_,rfl,L,_,rfl,.inl ⟨SqL.of hL5,fun u gu=>?_⟩⟩
     have s7 : Same H5 (upd H5 u (.tup us)):=(Same.refl H5).new gu
     refine ⟨_,rfl,leS3,fun r' gr=>?_⟩
     exact q r' _ (sh.trans (s7.new gr)) ⟨u,upd_same,us,upd_keep upd_same gr,Paired.mapP hus fun _ _ z=>z.mono (s7.new gr).tups⟩
  | need ts =>
   obtain ⟨t,hrt,hts⟩:=hra
   refine ⟨_,rfl,r,_,_,_,rfl,rfl,SqT.of hrt,rfl,rfl,_,rfl,iteSN (show ¬ ("need" : Str) = "take" by decide +kernel) ?_⟩
   refine ⟨_,rfl,r,_,_,_,rfl,rfl,SqT.of hrt,rfl,leS2,fun c gc=>?_⟩
   have s1 : Same H (upd H c (.tup [.str "say",.str "ask"])):=(Same.refl H).new gc
   refine ⟨c,_,rfl,.inr (SqT.of upd_same),rfl,rfl,_,rfl,?_⟩
   rw [if_neg (by decide),inV2,decide_eq_false (show ¬ (("need" : Str) = "say" ∨ ("need" : Str) = "ask") by decide +kernel)]
   refine iteF ?_
   refine iteF ?_
   generalize upd H c (.tup [.str "say",.str "ask"]) = H1 at s1 ⊢
   have sx:=s1
   generalize H1 = Hx at sx ⊢
   refine ⟨_,rfl,r,_,_,_,rfl,rfl,SqT.of (sx _ _ hrt),rfl,rfl,_,rfl,iteSN (show ¬ ("need" : Str) = "ask" by decide +kernel) ?_⟩
   refine ⟨leS0,fun L gL=>?_⟩
   have sl : Same Hx (upd Hx L (.lst [])):=(Same.refl Hx).new gL
   have hL0 : upd Hx L (.lst []) L = some (.lst []):=upd_same
   generalize upd Hx L (.lst []) = H3 at sl hL0 ⊢
   refine ⟨_,rfl,leS2,fun l2 gl2=>?_⟩
   have s4 : Same H3 (upd H3 l2 (.lst [.int 1,.int 2])):=(Same.refl H3).new gl2
   have hl2 : upd H3 l2 (.lst [.int 1,.int 2]) l2 = some (.lst [.int 1,.int 2]):=upd_same
   generalize upd H3 l2 (.lst [.int 1,.int 2]) = H4 at s4 hl2 ⊢
   have hrt4:=s4 _ _ (sl _ _ (sx _ _ hrt))
   refine ⟨_,rfl,r,_,_,_,rfl,rfl,SqT.of hrt4,rfl,rfl,.inr ⟨_,rfl,?_⟩⟩
   rw [decide_eq_false (show ¬ V.str "need" = V.str "set" from fun z=>absurd (V.str.inj z) (by decide +kernel))]
   refine ⟨l2,_,_,_,rfl,rfl,SqL.of hl2,rfl,r,_,_,_,rfl,rfl,SqT.of hrt4,rfl,?_⟩
   obtain ⟨⟨vs,ht,htv⟩,hlo,hhi⟩:=hts.mono (sx.tups.trans (sl.tups.trans s4.tups))
   have hvl : vs.length = ts.length:=Paired.length htv
   have s34:=sx.trans (sl.trans s4)
   have hLH : Hx L = none:=gL
   refine ⟨t,rfl,⟨_,SqT.of ht⟩,for_tup (K:=K) (a:=t) (xs:=vs) (fun i σ H5=>∃ (us : List V) (v6 v7 : Option V),σ = [some (.ref r),some (.str n),some (.ref m),some (.ref nd),some (.non),some (.ref L),v6,v7]∧Same Hx H5∧Tups H4 H5∧H5 L = some (.lst us)∧Paired (TmV N H5) us (ts.take i))
    ⟨[],_,_,rfl,sl.trans s4,Tups.refl H4,s4 _ _ hL0,by rw [List.take_zero]; exact .nil⟩ (fun i σ H5 _ ⟨_,_,_,_,_,t5,_⟩=>SqT.of (t5 _ _ ht)) ?_ ?_⟩
   ·rintro i x σ H5 hx ⟨us,v6,v7,rfl,s5,t5,hL5,hus⟩
    obtain ⟨d,hd,c2,ex,hc2,_⟩:=Paired.get? htv hx
    subst ex
    have hul : us.length ≤ 6:=by rw [Paired.length hus,List.length_take]; omega
    refine ⟨c2,_,rfl,SqT.of (t5 _ _ hc2),rfl,_,_,rfl,_,_,rfl,rfl,?_⟩
    obtain ⟨sg,th⟩:=d
    cases th with
    | num k =>
     refine ⟨_,rfl,_,_,_,_,rfl,.int k,kit_int_str _,_,rfl,iteF ?_⟩
     refine ⟨_,rfl,.inl ⟨rfl,_,SqL.of hL5⟩,_,rfl,_,rfl,leS2,fun e2 ge2=>?_⟩
     have s6 : Same H5 (upd H5 e2 (.tup [.int sg,.int k])):=(Same.refl H5).new ge2
     have hL6:=s6 _ _ hL5
     have TL:=Tups.lst (ys:=us ++ [.ref e2]) hL6
     refine ⟨L,_,_,rfl,rfl,hL6,small1000 (by omega),us ++ [.ref e2],_,_,rfl,(s5.trans s6).put hLH,t5.trans (s6.tups.trans TL),upd_same,?_⟩
     rw [take_succ_get hd]
     exact Paired.snoc (Paired.mapP hus fun _ _ z=>z.mono (s6.tups.trans TL)) ⟨e2,rfl,TL _ _ upd_same⟩
    | nam yy =>
     refine ⟨_,rfl,_,_,_,_,rfl,.str yy,kit_same _ _,_,rfl,iteT ?_⟩
     refine ⟨_,rfl,_,rfl,_,rfl,_,rfl,leS2,fun e1 ge1=>?_⟩
     have s6 : Same H5 (upd H5 e1 (.tup [.str n,thV ((sg,Th.nam yy) : Int × Th).2])):=(Same.refl H5).new ge1
     obtain ⟨t0,g1,g2⟩:=get (y:=yy) (sx.trans (s5.trans s6)) upd_same (hN _ (List.mem_of_getElem? hd) yy rfl)
     refine ⟨m,_,rfl,g1,nd,_,rfl,g2,?_⟩
     generalize upd H5 e1 (.tup [.str n,thV ((sg,Th.nam yy) : Int × Th).2]) = H6 at s6 ⊢
     refine ⟨_,rfl,.inl ⟨rfl,_,SqL.of (s6 _ _ hL5)⟩,_,rfl,_,rfl,leS2,fun e2 ge2=>?_⟩
     have s7 : Same H5 (upd H6 e2 (.tup [.int sg,.str (N yy)])):=s6.new ge2
     have hL6:=s7 _ _ hL5
     have TL:=Tups.lst (ys:=us ++ [.ref e2]) hL6
     refine ⟨L,_,_,rfl,rfl,hL6,small1000 (by omega),us ++ [.ref e2],_,_,rfl,(s5.trans s7).put hLH,t5.trans (s7.tups.trans TL),upd_same,?_⟩
     rw [take_succ_get hd]
     exact Paired.snoc (Paired.mapP hus fun _ _ z=>z.mono (s7.tups.trans TL)) ⟨e2,rfl,TL _ _ upd_same⟩
   ·rintro σ H5 ⟨us,v6,v7,rfl,s5,t5,hL5,hus⟩
    rw [hvl,List.take_length] at hus
    have sh:=sx.trans s5
    refine ⟨_,rfl,r,_,_,_,rfl,rfl,SqT.of (sh _ _ hrt),rfl,rfl,_,rfl,iteSN (show ¬ ("need" : Str) = "set" by decide +kernel) ?_⟩
    refine ⟨_,rfl,r,_,_,_,rfl,rfl,SqT.of (sh _ _ hrt),rfl,rfl,_,rfl,iteSE ?_⟩
    refine ⟨_,rfl,L,_,rfl,.inl ⟨SqL.of hL5,fun u gu=>?_⟩⟩
    have s7 : Same H5 (upd H5 u (.tup us)):=(Same.refl H5).new gu
    refine ⟨leS2,fun r' gr=>?_⟩
    exact q r' _ (sh.trans (s7.new gr)) ⟨u,upd_same,us,upd_keep upd_same gr,Paired.mapP hus fun _ _ z=>z.mono (s7.new gr).tups⟩
  | _=>exact hN.elim
theorem fin_uses {nms owns : List Str} {pr : Pr} {rw : Rw} (f : FinR nms owns pr rw) (hm : ∀ y ∈ madeP pr,y ∈ owns) : UsesR (fun y=>y ∈ owns) rw∨kindS rw = "bring" ∨ kindS rw = "give" := by
 cases pr with
 | own k n xs =>
  rcases f with ⟨_,e⟩ | ⟨_,ts,e,_,h⟩
  ·subst e; exact .inl (hm n (by simp [madeP]))
  ·subst e; exact .inl ⟨hm n (by simp [madeP]),fun d hd y e=>h d hd y e⟩
 | bring j ps xs=>obtain ⟨nm,_,e⟩:=f; subst e; exact .inr (.inl rfl)
 | give o g xs=>rw [show rw = .give o g from f]; exact .inr (.inr rfl)
 | ask j xs=>obtain ⟨nm,w,_,e,h⟩:=f; subst e; exact .inl fun y e=>h y e
 | sum k xs =>
  rcases f with ⟨_,ts,e,_,h⟩ | ⟨_,ts,w,e,_,h,h2⟩
  ·subst e; exact .inl fun d hd y e=>h d hd y e
  ·subst e; exact .inl ⟨fun d hd y e=>h d hd y e,fun y e=>h2 y e⟩
theorem DrawnP.uses {hs : List Pp} {b0 b1 b2 : Int} {ps : List Pt} (d : DrawnP hs b0 b1 b2 ps) {pt : Pt} (hpt : pt ∈ ps) {rw : Rw} (hrw : rw ∈ pt.2) (hk : ¬ (kindS rw = "bring" ∨ kindS rw = "give")) : UsesR (fun y=>(pt.1,y) ∈ Keys (plsOf ps)) rw:=by
 obtain ⟨i,hi⟩:=List.getElem?_of_mem hpt
 obtain ⟨pp,hpp,ok,_,hf⟩:=d.at hi
 obtain ⟨j,hj⟩:=List.getElem?_of_mem hrw
 obtain ⟨pr,hpr,hfr⟩:=Paired.get?' hf hj
 have hprm:=List.mem_of_getElem? hpr
 rcases fin_uses hfr (fun y hy=>ok.md.mem_iff.mp (List.mem_flatMap.mpr ⟨pr,hprm,hy⟩)) with h | h
 ·refine h.imp fun y hy=>?_
  have h2:=(fin_made hf).mem_iff.mpr (ok.md.mem_iff.mpr hy)
  unfold Keys
  rw [lls_keys,mls_by,bls_by]
  rcases List.mem_append.mp h2 with w | w
  ·exact List.mem_append_left _ (List.mem_flatMap.mpr ⟨_,hpt,List.mem_map.mpr ⟨y,w,rfl⟩⟩)
  ·exact List.mem_append_right _ (List.mem_flatMap.mpr ⟨_,hpt,List.mem_map.mpr ⟨y,w,rfl⟩⟩)
 ·exact absurd h hk
def SmAt (ps : List Pt) (H : Hp) (v : V) : Prop:=∃ (t : Addr) (pt : Pt) (k : Nat) (rw : Rw) (r : Addr),v = .ref t∧pt ∈ ps∧pt.2[k]? = some rw∧¬ (kindS rw = "bring" ∨ kindS rw = "give")∧H t = some (.tup [.str pt.1,.int (k : Int),.ref r])∧RowAt H r rw
theorem SmAt.mono {ps : List Pt} {H H' : Hp} (s : Tups H H') {v : V} (h : SmAt ps H v) : SmAt ps H' v:=by
 obtain ⟨t,pt,k,rw,r,e,h1,h2,h3,h4,h5⟩:=h
 exact ⟨t,pt,k,rw,r,e,h1,h2,h3,s _ _ h4,h5.mono s⟩
theorem law_fn {f : Addr} {fd : FuncData} (F : Fun K "law" "law" s_law f fd) (T : Txt K mg) : FnOk P w K mg base CX0 7 f fd ["_law_script"] (spLaw K):=by
 have C_law_cell_at:=ok_cell (P:=P) (w:=w) (base:=base) T
 have C_law_parts:=ok_parts (P:=P) (w:=w) (base:=base) T
 have C_law_makers:=ok_lmakers (P:=P) (w:=w) (base:=base) T
 have C_law_news:=ok_lnews (P:=P) (w:=w) (base:=base) T
 have C_renamed:=ok_renamed (P:=P) (w:=w) (base:=base) T
 have C_law_changed:=ok_changed (P:=P) (w:=w) (base:=base) T
 have C_law_alike:=ok_alk (P:=P) (w:=w) (base:=base) T 4
 refine F.ok sc_law (fun vs H Q E h=>?_) (fun cdv A outer s H vs Q E hr h=>?_)
 ·obtain ⟨a,ns,rfl,_⟩:=h
  rfl
 ·obtain ⟨a,ns,rfl,hS,hlen,q⟩:=h
  have hu:=hu_of hr
  refine ⟨_,(@pss_cons _ _ _ _ _ (@ps_set _ _ (1) _ _ _ _ sc_law.nd rfl (Or.inl rfl) (@pe_fn _ _ _ _ _ _ _ _ _ _ _ C_law_parts hr (by rfl) (@pa_cons _ _ _ _ _ (@pv _ 0 _ _ (by rfl) (by first   | exact Or.inl rfl   | exact Or.inr (Or.inl rfl)   | exact Or.inr (Or.inr rfl)) (by decide) (by decide)) (@pa_nil _) (by rfl)) (by decide) (by decide) (by rfl) (by rfl)) (by rfl) (by first   | exact .inl rfl   | exact .inr rfl   | assumption)) (@pss_cons _ _ _ _ _ (@ps_set _ _ (2) _ _ _ _ sc_law.nd rfl (Or.inl rfl) (@pe_fn _ _ _ _ _ _ _ _ _ _ _ C_law_makers hr (by rfl) (@pa_cons _ _ _ _ _ (@pv _ 1 _ _ (by rfl) (by first   | exact Or.inl rfl   | exact Or.inr (Or.inl rfl)   | exact Or.inr (Or.inr rfl)) (by decide) (by decide)) (@pa_nil _) (by rfl)) (by decide) (by decide) (by rfl) (by rfl)) (by rfl) (by first   | exact .inl rfl   | exact .inr rfl   | assumption)) (@pss_cons _ _ _ _ _ (@ps_set _ _ (3) _ _ _ _ sc_law.nd rfl (Or.inl rfl) (@pe_fn _ _ _ _ _ _ _ _ _ _ _ C_law_news hr (by rfl) (@pa_cons _ _ _ _ _ (@pv _ 1 _ _ (by rfl) (by first   | exact Or.inl rfl   | exact Or.inr (Or.inl rfl)   | exact Or.inr (Or.inr rfl)) (by decide) (by decide)) (@pa_nil _) (by rfl)) (by decide) (by decide) (by rfl) (by rfl)) (by rfl) (by first   | exact .inl rfl   | exact .inr rfl   | assumption)) (@pss_cons _ _ _ _ _ (@ps_set _ _ (4) _ _ _ _ sc_law.nd rfl (Or.inl rfl) (@pe_lst _ _ _ _ (@pa_nil _)) (by rfl) (by first   | exact .inl rfl   | exact .inr rfl   | assumption)) (@pss_cons _ _ _ _ _ (@ps_for _ _ _ _ _ _ _ _ PassesOwn.never rfl (@pi_tup _ _ _ _ (@pv _ 1 _ _ (by rfl) (by first   | exact Or.inl rfl   | exact Or.inr (Or.inl rfl)   | exact Or.inr (Or.inr rfl)) (by decide) (by decide))) (@pg_tup _ _ _ _ _ _ rfl (@pgs_cons _ _ _ _ _ (@pg_name _ _ (5) _ sc_law.nd rfl (Or.inl rfl) (by first   | exact .inl rfl   | exact .inr rfl   | assumption)) (@pgs_cons _ _ _ _ _ (@pg_name _ _ (6) _ sc_law.nd rfl (Or.inl rfl) (by first   | exact .inl rfl   | exact .inr rfl   | assumption)) (@pgs_nil _) (by rfl)) (by rfl)) (by rfl) (by rfl)) (@pss_one _ _ _ (@ps_for _ _ _ _ _ _ _ _ PassesOwn.never rfl (@pi_range1 _ _ _ _ _ _ (by rfl) T.n_range (@pa_cons _ _ _ _ _ (@pe_callB _ _ _ _ _ _ _ _ _ (@call_len_seq _) (by rfl) T.n_len PySem.boot_len (@pa_cons _ _ _ _ _ (@pv _ 6 _ _ (by rfl) (by first   | exact Or.inl rfl   | exact Or.inr (Or.inl rfl)   | exact Or.inr (Or.inr rfl)) (by decide) (by decide)) (@pa_nil _) (by rfl)) (by decide) (by decide) (by rfl) (by rfl)) (@pa_nil _) (by rfl)) (by rfl)) (@pg_name _ _ (7) _ sc_law.nd rfl (Or.inl rfl) (by first   | exact .inl rfl   | exact .inr rfl   | assumption)) (@pss_one _ _ _ (@ps_if _ _ _ _ _ _ _ _ (@pt_cmpR _ _ _ _ _ _ _ _ (@op_notIn_seq _) (@pe_ix _ _ _ _ _ _ _ (@ix_tup _) (@pe_ix _ _ _ _ _ _ _ (@ix_tup _) (@pv _ 6 _ _ (by rfl) (by first   | exact Or.inl rfl   | exact Or.inr (Or.inl rfl)   | exact Or.inr (Or.inr rfl)) (by decide) (by decide)) (@pv _ 7 _ _ (by rfl) (by first   | exact Or.inl rfl   | exact Or.inr (Or.inl rfl)   | exact Or.inr (Or.inr rfl)) (by decide) (by decide)) (fun _ _=>rfl)) (@pe_int _ _ _ _) (fun _ _=>rfl)) (@pe_tup _ _ _ _ _ (@pa_cons _ _ _ _ _ (@pe_str _ _ _ _) (@pa_cons _ _ _ _ _ (@pe_str _ _ _ _) (@pa_nil _) (by rfl)) (by rfl))) (by with_unfolding_all rfl)) (@pss_one _ _ _ (@ps_expr _ _ _ _ (@pe_bm _ _ _ _ _ _ _ _ _ _ _ _ PySem.F.plainAttrs_list PySem.F.slot_list_append PySem.F.type_list_append (@mt_append _) (@pv _ 4 _ _ (by rfl) (by first   | exact Or.inl rfl   | exact Or.inr (Or.inl rfl)   | exact Or.inr (Or.inr rfl)) (by decide) (by decide)) (@pa_cons _ _ _ _ _ (@pe_tup _ _ _ _ _ (@pa_cons _ _ _ _ _ (@pv _ 5 _ _ (by rfl) (by first   | exact Or.inl rfl   | exact Or.inr (Or.inl rfl)   | exact Or.inr (Or.inr rfl)) (by decide) (by decide)) (@pa_cons _ _ _ _ _ (@pv _ 7 _ _ (by rfl) (by first   | exact Or.inl rfl   | exact Or.inr (Or.inl rfl)   | exact Or.inr (Or.inr rfl)) (by decide) (by decide)) (@pa_cons _ _ _ _ _ (@pe_ix _ _ _ _ _ _ _ (@ix_tup _) (@pv _ 6 _ _ (by rfl) (by first   | exact Or.inl rfl   | exact Or.inr (Or.inl rfl)   | exact Or.inr (Or.inr rfl)) (by decide) (by decide)) (@pv _ 7 _ _ (by rfl) (by first   | exact Or.inl rfl   | exact Or.inr (Or.inl rfl)   | exact Or.inr (Or.inr rfl)) (by decide) (by decide)) (fun _ _=>rfl)) (@pa_nil _) (by rfl)) (by rfl)) (by rfl))) (@pa_nil _) (by rfl)) (by rfl) (by rfl) (by rfl) (by rfl) (by rfl)) (by rfl))) (@pss_nil _))) (by intro _; rfl))) (by intro _; rfl)) (@pss_cons _ _ _ _ _ (@ps_set _ _ (8) _ _ _ _ sc_law.nd rfl (Or.inl rfl) (@pe_op _ _ _ _ _ _ _ _ (@op_add _) (@pe_int _ _ _ _) (@pe_op _ _ _ _ _ _ _ _ (@op_fdiv _) (@pe_callB _ _ _ _ _ _ _ _ _ (@call_len_seq _) (by rfl) T.n_len PySem.boot_len (@pa_cons _ _ _ _ _ (@pv _ 4 _ _ (by rfl) (by first   | exact Or.inl rfl   | exact Or.inr (Or.inl rfl)   | exact Or.inr (Or.inr rfl)) (by decide) (by decide)) (@pa_nil _) (by rfl)) (by decide) (by decide) (by rfl) (by rfl)) (@pe_int _ _ _ _))) (by rfl) (by first   | exact .inl rfl   | exact .inr rfl   | assumption)) (@pss_cons _ _ _ _ _ (@ps_for _ _ _ _ _ _ _ _ PassesOwn.never rfl (@pi_list _ _ _ _ (@pe_slstep _ _ _ _ _ _ _ _ _ _ _ (@pv _ 4 _ _ (by rfl) (by first   | exact Or.inl rfl   | exact Or.inr (Or.inl rfl)   | exact Or.inr (Or.inr rfl)) (by decide) (by decide)) (@po_some _ _ _ (@pe_op _ _ _ _ _ _ _ _ (@op_mod _) (@pe_fn _ _ _ _ _ _ _ _ _ _ _ C_law_cell_at hr (by rfl) (@pa_cons _ _ _ _ _ (@pv _ 0 _ _ (by rfl) (by first   | exact Or.inl rfl   | exact Or.inr (Or.inl rfl)   | exact Or.inr (Or.inr rfl)) (by decide) (by decide)) (@pa_cons _ _ _ _ _ (@pe_int _ _ _ _) (@pa_nil _) (by rfl)) (by rfl)) (by decide) (by decide) (by rfl) (by rfl)) (@pv _ 8 _ _ (by rfl) (by first   | exact Or.inl rfl   | exact Or.inr (Or.inl rfl)   | exact Or.inr (Or.inr rfl)) (by decide) (by decide)))) (@po_none _) (@po_some _ _ _ (@pv _ 8 _ _ (by rfl) (by first   | exact Or.inl rfl   | exact Or.inr (Or.inl rfl)   | exact Or.inr (Or.inr rfl)) (by decide) (by decide))))) (@pg_tup _ _ _ _ _ _ rfl (@pgs_cons _ _ _ _ _ (@pg_name _ _ (5) _ sc_law.nd rfl (Or.inl rfl) (by first   | exact .inl rfl   | exact .inr rfl   | assumption)) (@pgs_cons _ _ _ _ _ (@pg_name _ _ (7) _ sc_law.nd rfl (Or.inl rfl) (by first   | exact .inl rfl   | exact .inr rfl   | assumption)) (@pgs_cons _ _ _ _ _ (@pg_name _ _ (9) _ sc_law.nd rfl (Or.inl rfl) (by first   | exact .inl rfl   | exact .inr rfl   | assumption)) (@pgs_nil _) (by rfl)) (by rfl)) (by rfl)) (by rfl) (by rfl)) (@pss_one _ _ _ (@ps_if _ _ _ _ _ _ _ _ (@pt_not _ _ _ _ (@pt_val _ _ _ (@pe_fn _ _ _ _ _ _ _ _ _ _ _ C_law_alike hr (by rfl) (@pa_cons _ _ _ _ _ (@pe_fn _ _ _ _ _ _ _ _ _ _ _ C_renamed hr (by rfl) (@pa_cons _ _ _ _ _ (@pv _ 1 _ _ (by rfl) (by first   | exact Or.inl rfl   | exact Or.inr (Or.inl rfl)   | exact Or.inr (Or.inr rfl)) (by decide) (by decide)) (@pa_cons _ _ _ _ _ (@pv _ 5 _ _ (by rfl) (by first   | exact Or.inl rfl   | exact Or.inr (Or.inl rfl)   | exact Or.inr (Or.inr rfl)) (by decide) (by decide)) (@pa_cons _ _ _ _ _ (@pv _ 7 _ _ (by rfl) (by first   | exact Or.inl rfl   | exact Or.inr (Or.inl rfl)   | exact Or.inr (Or.inr rfl)) (by decide) (by decide)) (@pa_nil _) (by rfl)) (by rfl)) (by rfl)) (by decide) (by decide) (by rfl) (by rfl)) (@pa_cons _ _ _ _ _ (@pe_fn _ _ _ _ _ _ _ _ _ _ _ C_law_changed hr (by rfl) (@pa_cons _ _ _ _ _ (@pv _ 9 _ _ (by rfl) (by first   | exact Or.inl rfl   | exact Or.inr (Or.inl rfl)   | exact Or.inr (Or.inr rfl)) (by decide) (by decide)) (@pa_cons _ _ _ _ _ (@pv _ 5 _ _ (by rfl) (by first   | exact Or.inl rfl   | exact Or.inr (Or.inl rfl)   | exact Or.inr (Or.inr rfl)) (by decide) (by decide)) (@pa_cons _ _ _ _ _ (@pv _ 2 _ _ (by rfl) (by first   | exact Or.inl rfl   | exact Or.inr (Or.inl rfl)   | exact Or.inr (Or.inr rfl)) (by decide) (by decide)) (@pa_cons _ _ _ _ _ (@pv _ 3 _ _ (by rfl) (by first   | exact Or.inl rfl   | exact Or.inr (Or.inl rfl)   | exact Or.inr (Or.inr rfl)) (by decide) (by decide)) (@pa_nil _) (by rfl)) (by rfl)) (by rfl)) (by rfl)) (by decide) (by decide) (by rfl) (by rfl)) (@pa_nil _) (by rfl)) (by rfl)) (by decide) (by decide) (by rfl) (by rfl)) (by intro _; rfl))) (@pss_one _ _ _ (@ps_ret _ _ _ _ (@pe_bl _ _ _ _))) (@pss_nil _))) (by intro _; rfl)) (@pss_one _ _ _ (@ps_ret _ _ _ _ (@pe_bl _ _ _ _)))))))))),?_⟩
  refine ⟨_,rfl,a,ns,rfl,hS,by omega,fun x hs b0 b1 b2 ps H1 s1 hpf hd=>?_⟩
  have hfit:=hd.fit
  have hnet:=hd.net
  obtain ⟨hknd,hklen⟩:=hd.keys
  refine ⟨_,rfl,x,ps,rfl,hpf,hfit,hnet,fun m pkv H2 s2 _ hm2 fi2 hall=>?_⟩
  refine ⟨_,rfl,x,ps,rfl,s2.partsF hpf,hfit,hnet,hklen,fun nd nkv ts H3 s3 hnd3 hks hnn hnv=>?_⟩
  have hpf3:=(s2.trans s3).partsF hpf
  have hm3:=s3 _ _ hm2
  have fi3:=fi2.mono s3.tups
  have sS3:=(s1.trans s2).trans s3
  have htl : ts.length = (mlsOf (plsOf ps)).length:=by
   have:=congrArg List.length hks
   rw [List.length_map,mkeys_mls,List.length_map] at this
   exact this
  have hnf:=nls_fst htl
  have hpnd:=places_nodup hfit.nd
  have hnnd : ((nlsOf (mlsOf (plsOf ps)) ts).map (·.1)).Nodup:=by rw [hnf]; exact hpnd
  obtain ⟨o,vs,hx,ho,hps⟩:=id hpf3
  have sqx : ∀ {H5 : Hp},Same H3 H5→SqT K H5 x vs:=fun s5=>.inl (.inr ⟨o,s5 _ _ hx⟩)
  have hvl : vs.length = ps.length:=Paired.length hps
  have hhi:=hfit.hi
  refine ⟨leS0,fun L gL=>?_⟩
  have sL : Same H3 (upd H3 L (.lst [])):=(Same.refl H3).new gL
  refine ⟨_,rfl,x,rfl,⟨_,sqx sL⟩,for_tup (K:=K) (a:=x) (xs:=vs) (fun i σ H4=>∃ (us : List V) (v5 v6 v7 : Option V),σ = [some (.ref a),some (.ref x),some (.ref m),some (.ref nd),some (.ref L),v5,v6,v7,none,none]∧Same H3 H4∧H4 L = some (.lst us)∧us.length ≤ 40 * i∧∀ v ∈ us,SmAt ps H4 v)
   ⟨[],none,none,none,rfl,sL,upd_same,by simp,fun v hv=>by simp at hv⟩ (fun i σ H4 _ ⟨_,_,_,_,_,s4,_⟩=>sqx s4) ?_ ?_⟩
  ·rintro i y σ H4 hy ⟨us,v5,v6,v7,rfl,s4,hL4,hul,hus⟩
   obtain ⟨pt,hpt,t,u,ws,ey,ht,hu',hrs⟩:=Paired.get? hps hy
   subst ey
   have hi : i < ps.length:=(List.getElem?_eq_some_iff.mp hpt).1
   have hwl : ws.length = pt.2.length:=Paired.length hrs
   have hr40:=hfit.rows _ (List.mem_of_getElem? hpt)
   refine ⟨t,_,rfl,SqT.of (s4 _ _ ht),rfl,_,_,rfl,_,_,rfl,rfl,?_⟩
   refine ⟨_,rfl,u,_,rfl,.inr (SqT.of (s4 _ _ hu')),_,rfl,(by omega),(by omega),for_range (fun j σ H5=>∃ (us : List V) (v7 : Option V),σ = [some (.ref a),some (.ref x),some (.ref m),some (.ref nd),some (.ref L),some (.str pt.1),some (.ref u),v7,none,none]∧Same H3 H5∧H5 L = some (.lst us)∧us.length ≤ 40 * i + j∧∀ v ∈ us,SmAt ps H5 v)
    ⟨us,_,rfl,s4,hL4,by omega,hus⟩ ?_ ?_⟩
   ·rintro j σ H5 hj ⟨us5,w7,rfl,s5,hL5,hul5,hus5⟩
    rw [Int.zero_add]
    have hj' : j < pt.2.length:=by omega
    obtain ⟨rr,hrw⟩ : ∃ rr,pt.2[j]? = some rr:=⟨pt.2[j],by simp [hj']⟩
    obtain ⟨v,hv,r,er,hra⟩:=Paired.get?' hrs hrw
    subst er
    have hra5:=hra.mono s5.tups
    have hu5:=s5 _ _ hu'
    have hat : atI ws (j : Int) = some (.ref r):=atI_nat hv
    obtain ⟨x1,rs,hrt⟩:=hra5.kind
    have z0 : atI (V.str (kindS rr) :: x1 :: rs) 0 = some (.str (kindS rr)):=atI_nat (j:=0) rfl
    refine ⟨_,rfl,_,rfl,u,_,_,_,rfl,rfl,SqT.of hu5,hat,r,_,_,_,rfl,rfl,SqT.of hrt,z0,leS2,fun c gc=>?_⟩
    have s6 : Same H5 (upd H5 c (.tup [.str "bring",.str "give"])):=(Same.refl H5).new gc
    refine ⟨c,_,rfl,.inr (SqT.of upd_same),rfl,rfl,_,rfl,?_⟩
    rw [if_pos (by decide),inV2]
    generalize upd H5 c (.tup [.str "bring",.str "give"]) = H6 at s6 ⊢
    by_cases hkb : kindS rr = "bring" ∨ kindS rr = "give"
    ·rw [decide_eq_true hkb]
     refine iteF ?_
     exact ⟨us5,_,rfl,s5.trans s6,s6 _ _ hL5,by omega,fun v hv=>(hus5 v hv).mono s6.tups⟩
    ·rw [decide_eq_false hkb]
     refine iteT ?_
     refine ⟨_,rfl,.inl ⟨rfl,_,SqL.of (s6 _ _ hL5)⟩,_,rfl,_,rfl,_,rfl,_,rfl,u,_,_,_,rfl,rfl,SqT.of (s6 _ _ hu5),hat,leS3,fun e ge=>?_⟩
     have s7 : Same H5 (upd H6 e (.tup [.str pt.1,.int (j : Int),.ref r])):=s6.new ge
     have hL7:=s7 _ _ hL5
     have TL:=Tups.lst (ys:=us5 ++ [.ref e]) hL7
     refine ⟨L,_,_,rfl,rfl,hL7,small1000 (by omega),us5 ++ [.ref e],_,rfl,(s5.trans s7).put gL,upd_same,by rw [List.length_append,List.length_singleton]; omega,fun v hv=>?_⟩
     rcases List.mem_append.mp hv with z | z
     ·exact (hus5 v z).mono (s7.tups.trans TL)
     ·rw [List.mem_singleton.mp z]
      exact ⟨e,pt,j,rr,r,rfl,List.mem_of_getElem? hpt,hrw,hkb,TL _ _ upd_same,hra5.mono (s7.tups.trans TL)⟩
   ·rintro σ H5 ⟨us5,w7,rfl,s5,hL5,hul5,hus5⟩
    exact ⟨us5,_,_,_,rfl,s5,hL5,by omega,hus5⟩
  ·rintro σ H4 ⟨us,v5,v6,v7,rfl,s4,hL4,hul,hus⟩
   rw [hvl] at hul
   refine ⟨_,rfl,L,_,rfl,.inl (SqL.of hL4),_,_,rfl,rfl,⟨by decide,by decide⟩,_,_,rfl,rfl,?_⟩
   have hst : 0 < (1 : Int) + (us.length : Int) / 17:=by omega
   refine ⟨_,rfl,_,rfl,a,ns,_,rfl,(sS3.trans s4).seq hS,(by decide),fun c3=>?_⟩
   refine ⟨_,rfl,_,_,rfl,rfl,hst,_,rfl,_,rfl,_,rfl,L,us,rfl,SqL.of hL4,(fun z=>by have:=Option.some.inj z; omega),fun p ys gp hys hyl=>?_⟩
   have s5 : Same H4 (upd H4 p (.lst ys)):=(Same.refl H4).new gp
   have hp5 : upd H4 p (.lst ys) p = some (.lst ys):=upd_same
   generalize upd H4 p (.lst ys) = H5 at s5 hp5 ⊢
   refine ⟨p,rfl,⟨_,SqL.of hp5⟩,for_list (K:=K) (a:=p) (xs:=ys) (fun i σ H6=>∃ (v5 v6 v7 v9 : Option V),σ = [some (.ref a),some (.ref x),some (.ref m),some (.ref nd),some (.ref L),v5,v6,v7,some (.int (1 + (us.length : Int) / 17)),v9]∧Same H5 H6)
    ⟨_,_,_,_,rfl,Same.refl H5⟩ (fun i σ H6 _ ⟨_,_,_,_,_,s6⟩=>SqL.of (s6 _ _ hp5)) ?_ ?_⟩
   ·rintro i y σ H6 hy ⟨w5,w6,w7,w9,rfl,s6⟩
    have s36:=(s4.trans s5).trans s6
    obtain ⟨t,pt,k,rw,r,ey,hpt,hrw,hkb,ht,hra⟩:=(hus y (hys y (List.mem_of_getElem? hy))).mono (s5.trans s6).tups
    subst ey
    have hU:=hd.uses hpt (List.mem_of_getElem? hrw) hkb
    refine ⟨t,_,rfl,SqT.of ht,rfl,_,_,rfl,_,_,rfl,_,_,rfl,rfl,?_⟩
    refine ⟨_,rfl,_,rfl,_,rfl,x,ps,pt.1,k,pt.2,rw,rfl,s36.partsF hpf3,hfit,hnet,hklen,hpt,hrw,hU,fun r1 N ts' H7 s7 hks' hnn' hN hrv=>?_⟩
    have htt : ts' = ts:=nn_uniq hnn' hnn (hks'.trans hks.symm)
    subst htt
    have s37:=s36.trans s7
    refine ⟨_,rfl,_,rfl,_,rfl,_,rfl,pt.1,r,rw,m,nd,pkv,nkv,N,rfl,hra.mono s7.tups,s37 _ _ hm3,s37 _ _ hnd3,hU.imp fun z hz=>?_,fun r2 H8 s8 hrv2=>?_⟩
    ·obtain ⟨p0,hmk,hin⟩:=hN z hz
     have hsome : (valV pkv (key2 (pt.1,z))).isSome = true:=by
      rcases List.mem_append.mp hz with w | w
      ·exact fi2.has _ w
      ·exact hall _ w
     cases e : valV pkv (key2 (pt.1,z)) with
     | none=>rw [e] at hsome; cases hsome
     | some v =>
      obtain ⟨t',p',ev,ht',hmk'⟩:=fi3.val _ v e
      have hpp : p' = p0:=hnet.uniq hmk' hmk
      subst hpp
      exact ⟨t',p',by rw [e,ev],s37 _ _ ht',nv_val hnv hnnd hin⟩
    ·refine ⟨.ref r1,.ref r2,rfl,rv_alk (hrv.mono s8.tups) hrv2,fun H9 s9=>?_⟩
     refine ⟨_,rfl,iteF ?_⟩
     exact ⟨_,_,_,_,rfl,s6.trans (s7.trans (s8.trans s9))⟩
   ·rintro σ H6 ⟨w5,w6,w7,w9,rfl,s6⟩
    exact q H6
end
end K42
set_option Elab.async false
set_option linter.all false
set_option maxRecDepth 100000
namespace K42
open PySem L2
theorem all_mk {l : PySem.W.OpenLaw} {w : World} {K : PySem.W.Frag} {h : Heap} {mg : Str→Option Value} {fa : Addr} (X : K.In h) (G : h.Ns mainGlobals mg) (hfa : mg "law" = some (.ref fa))
  {f0 : Addr} {od0 an0 : Option Addr} {sl0 : Array (Option Value)} {oc0 kV0 dc0 pm0 cd0 ct0 : Value}
  {f1 : Addr} {od1 an1 : Option Addr} {sl1 : Array (Option Value)} {oc1 kV1 dc1 pm1 cd1 ct1 : Value}
  {f2 : Addr} {od2 an2 : Option Addr} {sl2 : Array (Option Value)} {oc2 kV2 dc2 pm2 cd2 ct2 : Value}
  {f3 : Addr} {od3 an3 : Option Addr} {sl3 : Array (Option Value)} {oc3 kV3 dc3 pm3 cd3 ct3 : Value}
  {f4 : Addr} {od4 an4 : Option Addr} {sl4 : Array (Option Value)} {oc4 kV4 dc4 pm4 cd4 ct4 : Value}
  {f5 : Addr} {od5 an5 : Option Addr} {sl5 : Array (Option Value)} {oc5 kV5 dc5 pm5 cd5 ct5 : Value}
  {f6 : Addr} {od6 an6 : Option Addr} {sl6 : Array (Option Value)} {oc6 kV6 dc6 pm6 cd6 ct6 : Value}
  {f7 : Addr} {od7 an7 : Option Addr} {sl7 : Array (Option Value)} {oc7 kV7 dc7 pm7 cd7 ct7 : Value}
  {f8 : Addr} {od8 an8 : Option Addr} {sl8 : Array (Option Value)} {oc8 kV8 dc8 pm8 cd8 ct8 : Value}
  {f9 : Addr} {od9 an9 : Option Addr} {sl9 : Array (Option Value)} {oc9 kV9 dc9 pm9 cd9 ct9 : Value}
  {f10 : Addr} {od10 an10 : Option Addr} {sl10 : Array (Option Value)} {oc10 kV10 dc10 pm10 cd10 ct10 : Value}
  {f11 : Addr} {od11 an11 : Option Addr} {sl11 : Array (Option Value)} {oc11 kV11 dc11 pm11 cd11 ct11 : Value}
  {f12 : Addr} {od12 an12 : Option Addr} {sl12 : Array (Option Value)} {oc12 kV12 dc12 pm12 cd12 ct12 : Value}
  {f13 : Addr} {od13 an13 : Option Addr} {sl13 : Array (Option Value)} {oc13 kV13 dc13 pm13 cd13 ct13 : Value}
  {f14 : Addr} {od14 an14 : Option Addr} {sl14 : Array (Option Value)} {oc14 kV14 dc14 pm14 cd14 ct14 : Value}
  {f15 : Addr} {od15 an15 : Option Addr} {sl15 : Array (Option Value)} {oc15 kV15 dc15 pm15 cd15 ct15 : Value}
  {f16 : Addr} {od16 an16 : Option Addr} {sl16 : Array (Option Value)} {oc16 kV16 dc16 pm16 cd16 ct16 : Value}
  {f17 : Addr} {od17 an17 : Option Addr} {sl17 : Array (Option Value)} {oc17 kV17 dc17 pm17 cd17 ct17 : Value}
  {f18 : Addr} {od18 an18 : Option Addr} {sl18 : Array (Option Value)} {oc18 kV18 dc18 pm18 cd18 ct18 : Value}
  {f19 : Addr} {od19 an19 : Option Addr} {sl19 : Array (Option Value)} {oc19 kV19 dc19 pm19 cd19 ct19 : Value}
  {f20 : Addr} {od20 an20 : Option Addr} {sl20 : Array (Option Value)} {oc20 kV20 dc20 pm20 cd20 ct20 : Value}
  {f21 : Addr} {od21 an21 : Option Addr} {sl21 : Array (Option Value)} {oc21 kV21 dc21 pm21 cd21 ct21 : Value}
  {f22 : Addr} {od22 an22 : Option Addr} {sl22 : Array (Option Value)} {oc22 kV22 dc22 pm22 cd22 ct22 : Value}
  {f23 : Addr} {od23 an23 : Option Addr} {sl23 : Array (Option Value)} {oc23 kV23 dc23 pm23 cd23 ct23 : Value}
  {f24 : Addr} {od24 an24 : Option Addr} {sl24 : Array (Option Value)} {oc24 kV24 dc24 pm24 cd24 ct24 : Value}
  {f25 : Addr} {od25 an25 : Option Addr} {sl25 : Array (Option Value)} {oc25 kV25 dc25 pm25 cd25 ct25 : Value}
  {f26 : Addr} {od26 an26 : Option Addr} {sl26 : Array (Option Value)} {oc26 kV26 dc26 pm26 cd26 ct26 : Value}
  {f27 : Addr} {od27 an27 : Option Addr} {sl27 : Array (Option Value)} {oc27 kV27 dc27 pm27 cd27 ct27 : Value}
  {f28 : Addr} {od28 an28 : Option Addr} {sl28 : Array (Option Value)} {oc28 kV28 dc28 pm28 cd28 ct28 : Value}
  {f29 : Addr} {od29 an29 : Option Addr} {sl29 : Array (Option Value)} {oc29 kV29 dc29 pm29 cd29 ct29 : Value}
  {f30 : Addr} {od30 an30 : Option Addr} {sl30 : Array (Option Value)} {oc30 kV30 dc30 pm30 cd30 ct30 : Value}
  {f31 : Addr} {od31 an31 : Option Addr} {sl31 : Array (Option Value)} {oc31 kV31 dc31 pm31 cd31 ct31 : Value}
  {f32 : Addr} {od32 an32 : Option Addr} {sl32 : Array (Option Value)} {oc32 kV32 dc32 pm32 cd32 ct32 : Value}
  (a0 : PySem.W.nsIn K mainGlobals "placed_rows" = some (some (.ref f0))) (l0 : K.lookup f0 = some ⟨oc0,od0,.func (PySem.W.fnOf "placed_rows" "placed_rows" (defArgs s_placed_rows) (defBody s_placed_rows) (defScope s_placed_rows) .none kV0 dc0 pm0 an0 cd0 ct0),sl0⟩) (c0 : PySem.W.codeIn K cd0 "placed_rows" = true) (k0 : PySem.W.keepIn K (.ref f0) = true)
  (a1 : PySem.W.nsIn K mainGlobals "given_owns" = some (some (.ref f1))) (l1 : K.lookup f1 = some ⟨oc1,od1,.func (PySem.W.fnOf "given_owns" "given_owns" (defArgs s_given_owns) (defBody s_given_owns) (defScope s_given_owns) .none kV1 dc1 pm1 an1 cd1 ct1),sl1⟩) (c1 : PySem.W.codeIn K cd1 "given_owns" = true) (k1 : PySem.W.keepIn K (.ref f1) = true)
  (a2 : PySem.W.nsIn K mainGlobals "links" = some (some (.ref f2))) (l2 : K.lookup f2 = some ⟨oc2,od2,.func (PySem.W.fnOf "links" "links" (defArgs s_links) (defBody s_links) (defScope s_links) .none kV2 dc2 pm2 an2 cd2 ct2),sl2⟩) (c2 : PySem.W.codeIn K cd2 "links" = true) (k2 : PySem.W.keepIn K (.ref f2) = true)
  (a3 : PySem.W.nsIn K mainGlobals "makers" = some (some (.ref f3))) (l3 : K.lookup f3 = some ⟨oc3,od3,.func (PySem.W.fnOf "makers" "makers" (defArgs s_makers) (defBody s_makers) (defScope s_makers) .none kV3 dc3 pm3 an3 cd3 ct3),sl3⟩) (c3 : PySem.W.codeIn K cd3 "makers" = true) (k3 : PySem.W.keepIn K (.ref f3) = true)
  (a4 : PySem.W.nsIn K mainGlobals "made" = some (some (.ref f4))) (l4 : K.lookup f4 = some ⟨oc4,od4,.func (PySem.W.fnOf "made" "made" (defArgs s_made) (defBody s_made) (defScope s_made) .none kV4 dc4 pm4 an4 cd4 ct4),sl4⟩) (c4 : PySem.W.codeIn K cd4 "made" = true) (k4 : PySem.W.keepIn K (.ref f4) = true)
  (a5 : PySem.W.nsIn K mainGlobals "new_names" = some (some (.ref f5))) (l5 : K.lookup f5 = some ⟨oc5,od5,.func (PySem.W.fnOf "new_names" "new_names" (defArgs s_new_names) (defBody s_new_names) (defScope s_new_names) .none kV5 dc5 pm5 an5 cd5 ct5),sl5⟩) (c5 : PySem.W.codeIn K cd5 "new_names" = true) (k5 : PySem.W.keepIn K (.ref f5) = true)
  (a6 : PySem.W.nsIn K mainGlobals "numbered" = some (some (.ref f6))) (l6 : K.lookup f6 = some ⟨oc6,od6,.func (PySem.W.fnOf "numbered" "numbered" (defArgs s_numbered) (defBody s_numbered) (defScope s_numbered) .none kV6 dc6 pm6 an6 cd6 ct6),sl6⟩) (c6 : PySem.W.codeIn K cd6 "numbered" = true) (k6 : PySem.W.keepIn K (.ref f6) = true)
  (a7 : PySem.W.nsIn K mainGlobals "makers_names" = some (some (.ref f7))) (l7 : K.lookup f7 = some ⟨oc7,od7,.func (PySem.W.fnOf "makers_names" "makers_names" (defArgs s_makers_names) (defBody s_makers_names) (defScope s_makers_names) .none kV7 dc7 pm7 an7 cd7 ct7),sl7⟩) (c7 : PySem.W.codeIn K cd7 "makers_names" = true) (k7 : PySem.W.keepIn K (.ref f7) = true)
  (a8 : PySem.W.nsIn K mainGlobals "renamed" = some (some (.ref f8))) (l8 : K.lookup f8 = some ⟨oc8,od8,.func (PySem.W.fnOf "renamed" "renamed" (defArgs s_renamed) (defBody s_renamed) (defScope s_renamed) .none kV8 dc8 pm8 an8 cd8 ct8),sl8⟩) (c8 : PySem.W.codeIn K cd8 "renamed" = true) (k8 : PySem.W.keepIn K (.ref f8) = true)
  (a9 : PySem.W.nsIn K mainGlobals "renamed_row" = some (some (.ref f9))) (l9 : K.lookup f9 = some ⟨oc9,od9,.func (PySem.W.fnOf "renamed_row" "renamed_row" (defArgs s_renamed_row) (defBody s_renamed_row) (defScope s_renamed_row) .none kV9 dc9 pm9 an9 cd9 ct9),sl9⟩) (c9 : PySem.W.codeIn K cd9 "renamed_row" = true) (k9 : PySem.W.keepIn K (.ref f9) = true)
  (a10 : PySem.W.nsIn K mainGlobals "renamed_sum" = some (some (.ref f10))) (l10 : K.lookup f10 = some ⟨oc10,od10,.func (PySem.W.fnOf "renamed_sum" "renamed_sum" (defArgs s_renamed_sum) (defBody s_renamed_sum) (defScope s_renamed_sum) .none kV10 dc10 pm10 an10 cd10 ct10),sl10⟩) (c10 : PySem.W.codeIn K cd10 "renamed_sum" = true) (k10 : PySem.W.keepIn K (.ref f10) = true)
  (a11 : PySem.W.nsIn K mainGlobals "renamed_thing" = some (some (.ref f11))) (l11 : K.lookup f11 = some ⟨oc11,od11,.func (PySem.W.fnOf "renamed_thing" "renamed_thing" (defArgs s_renamed_thing) (defBody s_renamed_thing) (defScope s_renamed_thing) .none kV11 dc11 pm11 an11 cd11 ct11),sl11⟩) (c11 : PySem.W.codeIn K cd11 "renamed_thing" = true) (k11 : PySem.W.keepIn K (.ref f11) = true)
  (a12 : PySem.W.nsIn K mainGlobals "renamed_when" = some (some (.ref f12))) (l12 : K.lookup f12 = some ⟨oc12,od12,.func (PySem.W.fnOf "renamed_when" "renamed_when" (defArgs s_renamed_when) (defBody s_renamed_when) (defScope s_renamed_when) .none kV12 dc12 pm12 an12 cd12 ct12),sl12⟩) (c12 : PySem.W.codeIn K cd12 "renamed_when" = true) (k12 : PySem.W.keepIn K (.ref f12) = true)
  (a13 : PySem.W.nsIn K mainGlobals "_law_cell_at" = some (some (.ref f13))) (l13 : K.lookup f13 = some ⟨oc13,od13,.func (PySem.W.fnOf "_law_cell_at" "_law_cell_at" (defArgs s_law_cell_at) (defBody s_law_cell_at) (defScope s_law_cell_at) .none kV13 dc13 pm13 an13 cd13 ct13),sl13⟩) (c13 : PySem.W.codeIn K cd13 "_law_cell_at" = true) (k13 : PySem.W.keepIn K (.ref f13) = true)
  (a14 : PySem.W.nsIn K mainGlobals "_law_stream" = some (some (.ref f14))) (l14 : K.lookup f14 = some ⟨oc14,od14,.func (PySem.W.fnOf "_law_stream" "_law_stream" (defArgs s_law_stream) (defBody s_law_stream) (defScope s_law_stream) .none kV14 dc14 pm14 an14 cd14 ct14),sl14⟩) (c14 : PySem.W.codeIn K cd14 "_law_stream" = true) (k14 : PySem.W.keepIn K (.ref f14) = true)
  (a15 : PySem.W.nsIn K mainGlobals "_law_name" = some (some (.ref f15))) (l15 : K.lookup f15 = some ⟨oc15,od15,.func (PySem.W.fnOf "_law_name" "_law_name" (defArgs s_law_name) (defBody s_law_name) (defScope s_law_name) .none kV15 dc15 pm15 an15 cd15 ct15),sl15⟩) (c15 : PySem.W.codeIn K cd15 "_law_name" = true) (k15 : PySem.W.keepIn K (.ref f15) = true)
  (a16 : PySem.W.nsIn K mainGlobals "_law_pool" = some (some (.ref f16))) (l16 : K.lookup f16 = some ⟨oc16,od16,.func (PySem.W.fnOf "_law_pool" "_law_pool" (defArgs s_law_pool) (defBody s_law_pool) (defScope s_law_pool) .none kV16 dc16 pm16 an16 cd16 ct16),sl16⟩) (c16 : PySem.W.codeIn K cd16 "_law_pool" = true) (k16 : PySem.W.keepIn K (.ref f16) = true)
  (a17 : PySem.W.nsIn K mainGlobals "_law_begun" = some (some (.ref f17))) (l17 : K.lookup f17 = some ⟨oc17,od17,.func (PySem.W.fnOf "_law_begun" "_law_begun" (defArgs s_law_begun) (defBody s_law_begun) (defScope s_law_begun) .none kV17 dc17 pm17 an17 cd17 ct17),sl17⟩) (c17 : PySem.W.codeIn K cd17 "_law_begun" = true) (k17 : PySem.W.keepIn K (.ref f17) = true)
  (a18 : PySem.W.nsIn K mainGlobals "_law_fresh" = some (some (.ref f18))) (l18 : K.lookup f18 = some ⟨oc18,od18,.func (PySem.W.fnOf "_law_fresh" "_law_fresh" (defArgs s_law_fresh) (defBody s_law_fresh) (defScope s_law_fresh) .none kV18 dc18 pm18 an18 cd18 ct18),sl18⟩) (c18 : PySem.W.codeIn K cd18 "_law_fresh" = true) (k18 : PySem.W.keepIn K (.ref f18) = true)
  (a19 : PySem.W.nsIn K mainGlobals "_law_pairs" = some (some (.ref f19))) (l19 : K.lookup f19 = some ⟨oc19,od19,.func (PySem.W.fnOf "_law_pairs" "_law_pairs" (defArgs s_law_pairs) (defBody s_law_pairs) (defScope s_law_pairs) .none kV19 dc19 pm19 an19 cd19 ct19),sl19⟩) (c19 : PySem.W.codeIn K cd19 "_law_pairs" = true) (k19 : PySem.W.keepIn K (.ref f19) = true)
  (a20 : PySem.W.nsIn K mainGlobals "_law_added" = some (some (.ref f20))) (l20 : K.lookup f20 = some ⟨oc20,od20,.func (PySem.W.fnOf "_law_added" "_law_added" (defArgs s_law_added) (defBody s_law_added) (defScope s_law_added) .none kV20 dc20 pm20 an20 cd20 ct20),sl20⟩) (c20 : PySem.W.codeIn K cd20 "_law_added" = true) (k20 : PySem.W.keepIn K (.ref f20) = true)
  (a21 : PySem.W.nsIn K mainGlobals "_law_sum" = some (some (.ref f21))) (l21 : K.lookup f21 = some ⟨oc21,od21,.func (PySem.W.fnOf "_law_sum" "_law_sum" (defArgs s_law_sum) (defBody s_law_sum) (defScope s_law_sum) .none kV21 dc21 pm21 an21 cd21 ct21),sl21⟩) (c21 : PySem.W.codeIn K cd21 "_law_sum" = true) (k21 : PySem.W.keepIn K (.ref f21) = true)
  (a22 : PySem.W.nsIn K mainGlobals "_law_row" = some (some (.ref f22))) (l22 : K.lookup f22 = some ⟨oc22,od22,.func (PySem.W.fnOf "_law_row" "_law_row" (defArgs s_law_row) (defBody s_law_row) (defScope s_law_row) .none kV22 dc22 pm22 an22 cd22 ct22),sl22⟩) (c22 : PySem.W.codeIn K cd22 "_law_row" = true) (k22 : PySem.W.keepIn K (.ref f22) = true)
  (a23 : PySem.W.nsIn K mainGlobals "_law_owned" = some (some (.ref f23))) (l23 : K.lookup f23 = some ⟨oc23,od23,.func (PySem.W.fnOf "_law_owned" "_law_owned" (defArgs s_law_owned) (defBody s_law_owned) (defScope s_law_owned) .none kV23 dc23 pm23 an23 cd23 ct23),sl23⟩) (c23 : PySem.W.codeIn K cd23 "_law_owned" = true) (k23 : PySem.W.keepIn K (.ref f23) = true)
  (a24 : PySem.W.nsIn K mainGlobals "_law_finished" = some (some (.ref f24))) (l24 : K.lookup f24 = some ⟨oc24,od24,.func (PySem.W.fnOf "_law_finished" "_law_finished" (defArgs s_law_finished) (defBody s_law_finished) (defScope s_law_finished) .none kV24 dc24 pm24 an24 cd24 ct24),sl24⟩) (c24 : PySem.W.codeIn K cd24 "_law_finished" = true) (k24 : PySem.W.keepIn K (.ref f24) = true)
  (a25 : PySem.W.nsIn K mainGlobals "_law_pools" = some (some (.ref f25))) (l25 : K.lookup f25 = some ⟨oc25,od25,.func (PySem.W.fnOf "_law_pools" "_law_pools" (defArgs s_law_pools) (defBody s_law_pools) (defScope s_law_pools) .none kV25 dc25 pm25 an25 cd25 ct25),sl25⟩) (c25 : PySem.W.codeIn K cd25 "_law_pools" = true) (k25 : PySem.W.keepIn K (.ref f25) = true)
  (a26 : PySem.W.nsIn K mainGlobals "_law_parts" = some (some (.ref f26))) (l26 : K.lookup f26 = some ⟨oc26,od26,.func (PySem.W.fnOf "_law_parts" "_law_parts" (defArgs s_law_parts) (defBody s_law_parts) (defScope s_law_parts) .none kV26 dc26 pm26 an26 cd26 ct26),sl26⟩) (c26 : PySem.W.codeIn K cd26 "_law_parts" = true) (k26 : PySem.W.keepIn K (.ref f26) = true)
  (a27 : PySem.W.nsIn K mainGlobals "_law_made" = some (some (.ref f27))) (l27 : K.lookup f27 = some ⟨oc27,od27,.func (PySem.W.fnOf "_law_made" "_law_made" (defArgs s_law_made) (defBody s_law_made) (defScope s_law_made) .none kV27 dc27 pm27 an27 cd27 ct27),sl27⟩) (c27 : PySem.W.codeIn K cd27 "_law_made" = true) (k27 : PySem.W.keepIn K (.ref f27) = true)
  (a28 : PySem.W.nsIn K mainGlobals "_law_makers" = some (some (.ref f28))) (l28 : K.lookup f28 = some ⟨oc28,od28,.func (PySem.W.fnOf "_law_makers" "_law_makers" (defArgs s_law_makers) (defBody s_law_makers) (defScope s_law_makers) .none kV28 dc28 pm28 an28 cd28 ct28),sl28⟩) (c28 : PySem.W.codeIn K cd28 "_law_makers" = true) (k28 : PySem.W.keepIn K (.ref f28) = true)
  (a29 : PySem.W.nsIn K mainGlobals "_law_news" = some (some (.ref f29))) (l29 : K.lookup f29 = some ⟨oc29,od29,.func (PySem.W.fnOf "_law_news" "_law_news" (defArgs s_law_news) (defBody s_law_news) (defScope s_law_news) .none kV29 dc29 pm29 an29 cd29 ct29),sl29⟩) (c29 : PySem.W.codeIn K cd29 "_law_news" = true) (k29 : PySem.W.keepIn K (.ref f29) = true)
  (a30 : PySem.W.nsIn K mainGlobals "_law_changed" = some (some (.ref f30))) (l30 : K.lookup f30 = some ⟨oc30,od30,.func (PySem.W.fnOf "_law_changed" "_law_changed" (defArgs s_law_changed) (defBody s_law_changed) (defScope s_law_changed) .none kV30 dc30 pm30 an30 cd30 ct30),sl30⟩) (c30 : PySem.W.codeIn K cd30 "_law_changed" = true) (k30 : PySem.W.keepIn K (.ref f30) = true)
  (a31 : PySem.W.nsIn K mainGlobals "_law_alike" = some (some (.ref f31))) (l31 : K.lookup f31 = some ⟨oc31,od31,.func (PySem.W.fnOf "_law_alike" "_law_alike" (defArgs s_law_alike) (defBody s_law_alike) (defScope s_law_alike) .none kV31 dc31 pm31 an31 cd31 ct31),sl31⟩) (c31 : PySem.W.codeIn K cd31 "_law_alike" = true) (k31 : PySem.W.keepIn K (.ref f31) = true)
  (a32 : PySem.W.nsIn K mainGlobals "law" = some (some (.ref f32))) (l32 : K.lookup f32 = some ⟨oc32,od32,.func (PySem.W.fnOf "law" "law" (defArgs s_law) (defBody s_law) (defScope s_law) .none kV32 dc32 pm32 an32 cd32 ct32),sl32⟩) (c32 : PySem.W.codeIn K cd32 "law" = true) (k32 : PySem.W.keepIn K (.ref f32) = true)
  (z0 : PySem.W.nsIn K mainGlobals "len" = some none)
  (z1 : PySem.W.nsIn K mainGlobals "range" = some none)
  (z2 : PySem.W.nsIn K mainGlobals "str" = some none)
  (z3 : PySem.W.nsIn K mainGlobals "tuple" = some none)
  (z4 : PySem.W.nsIn K mainGlobals "list" = some none)
  (z5 : PySem.W.nsIn K mainGlobals "dict" = some none)
  (z6 : PySem.W.nsIn K mainGlobals "enumerate" = some none)
  (z7 : PySem.W.nsIn K mainGlobals "isinstance" = some none)
  (z8 : PySem.W.nsIn K mainGlobals "min" = some none)
  (z9 : PySem.W.nsIn K mainGlobals "max" = some none)
  (z10 : PySem.W.nsIn K mainGlobals "zip" = some none)
  (z11 : PySem.W.nsIn K mainGlobals "int" = some none)
  (z12 : PySem.W.nsIn K mainGlobals "bool" = some none) :
  ∃ fd : FuncData,(∀ (s : Shared) (v : Value),BindsTo s fd ⟨[v],[]⟩ [("_law_script",v)])∧∀ base : Heap,K.In base→base.Ns mainGlobals mg→FnOk l.prog w K mg base CX0 7 fa fd ["_law_script"] (spLaw K):=by
 have e:=hfa.symm.trans (PySem.W.mg_of X G a32)
 cases e
 have T : Txt K mg:=⟨PySem.W.mg_none_of X G z0,PySem.W.mg_none_of X G z1,PySem.W.mg_none_of X G z2,PySem.W.mg_none_of X G z3,PySem.W.mg_none_of X G z4,PySem.W.mg_none_of X G z5,PySem.W.mg_none_of X G z6,PySem.W.mg_none_of X G z7,PySem.W.mg_none_of X G z8,PySem.W.mg_none_of X G z9,PySem.W.mg_none_of X G z10,PySem.W.mg_none_of X G z11,PySem.W.mg_none_of X G z12,hasDef_mk X G a0 l0 c0 k0,hasDef_mk X G a1 l1 c1 k1,hasDef_mk X G a2 l2 c2 k2,hasDef_mk X G a3 l3 c3 k3,hasDef_mk X G a4 l4 c4 k4,hasDef_mk X G a5 l5 c5 k5,hasDef_mk X G a6 l6 c6 k6,hasDef_mk X G a7 l7 c7 k7,hasDef_mk X G a8 l8 c8 k8,hasDef_mk X G a9 l9 c9 k9,hasDef_mk X G a10 l10 c10 k10,hasDef_mk X G a11 l11 c11 k11,hasDef_mk X G a12 l12 c12 k12,hasDef_mk X G a13 l13 c13 k13,hasDef_mk X G a14 l14 c14 k14,hasDef_mk X G a15 l15 c15 k15,hasDef_mk X G a16 l16 c16 k16,hasDef_mk X G a17 l17 c17 k17,hasDef_mk X G a18 l18 c18 k18,hasDef_mk X G a19 l19 c19 k19,hasDef_mk X G a20 l20 c20 k20,hasDef_mk X G a21 l21 c21 k21,hasDef_mk X G a22 l22 c22 k22,hasDef_mk X G a23 l23 c23 k23,hasDef_mk X G a24 l24 c24 k24,hasDef_mk X G a25 l25 c25 k25,hasDef_mk X G a26 l26 c26 k26,hasDef_mk X G a27 l27 c27 k27,hasDef_mk X G a28 l28 c28 k28,hasDef_mk X G a29 l29 c29 k29,hasDef_mk X G a30 l30 c30 k30,hasDef_mk X G a31 l31 c31 k31⟩
 exact ⟨_,fun s v=>.of_eq rfl,fun base _ _=>law_fn (fun_mk (st:=s_law) l32 c32 k32) T⟩
theorem walk {l : PySem.W.OpenLaw} {q : Program} {loose : List Str} {XP : (Str→Option Value)→Heap→Prop} {YP : World→Heap→Prop} {d : DefRec} {K : Params→PySem.W.Frag} (hn : l.most = some 63) (hdf : d.params.defaults = [])
  (hY : ∀ (w : World) (h : Heap),YP w h→(K w.params).In h)
  (F : ∀ (w : World) (mg : Str→Option Value) (fa : Addr) (h : Heap),(K w.params).In h→h.Ns mainGlobals mg→mg d.name = some (.ref fa) →
   ∃ fd : FuncData,(∀ (s : Shared) (u : Value),BindsTo s fd ⟨[u],[]⟩ [("_law_script",u)])∧∀ base : Heap,(K w.params).In base→base.Ns mainGlobals mg→FnOk l.prog w (K w.params) mg base CX0 7 fa fd ["_law_script"] (spLaw (K w.params))) :
  PySem.W.WalkO q loose XP YP l.row.toRowW d [] (fun f vs=>PySem.call f vs) :=
 L2.walk_of (n:=63) (k:=7) (x := "_law_script") (CX:=fun _=>CX0) (sp:=fun w=>spLaw (K w.params)) hn (by decide) hdf ⟨rfl,by decide,by decide⟩ hY F (fun _ _ a ns hl _ hS=>⟨a,ns,rfl,hS,hl,fun _=>rfl⟩) fun _ _ _ _ _ z=>z
end K42
open PySem PySem.W PyProof.Rows
set_option maxRecDepth 100000 in
set_option maxHeartbeats 0 in
theorem PySem.Challenge.cw_bundlehouse_k42_a_row_renamed_holds : PySem.Challenge.rw_bundlehouse_k42_a_row_renamed.Holds := by
 w_on
 refine HD.head_of (l:=PySem.Challenge.rw_bundlehouse_k42_a_row_renamed) (q:=HD.cutTo PySem.Challenge.rw_bundlehouse_k42_a_row_renamed.prog [1,2,3,4,5,7,8,9,10,11,12,13,14,16,17,18,19,20,21,22,23,24,25,26,27,28,29,30,31,32,33,34,35]) (K:=K42.heapK) (as:=K42.heapA) (N:=2346) K42.heapE K42.said K42.top_run (by rfl) (by rfl) (by rfl) (by rfl) (by decide +kernel) ⟨rfl,rfl,rfl,rfl,rfl,by decide +kernel⟩ ?hw ?hc
 (case hw=>w_witness2)
 k_fill
 refine K42.walk (l:=PySem.Challenge.rw_bundlehouse_k42_a_row_renamed) rfl rfl (fun w h Y=>PySem.W.kIn_of Y) ?F
 case F =>
  intro w mg fa h KX G hmg
  refine' K42.all_mk KX G hmg ?a0 ?l0 ?c0 ?k0 ?a1 ?l1 ?c1 ?k1 ?a2 ?l2 ?c2 ?k2 ?a3 ?l3 ?c3 ?k3 ?a4 ?l4 ?c4 ?k4 ?a5 ?l5 ?c5 ?k5 ?a6 ?l6 ?c6 ?k6 ?a7 ?l7 ?c7 ?k7 ?a8 ?l8 ?c8 ?k8 ?a9 ?l9 ?c9 ?k9 ?a10 ?l10 ?c10 ?k10 ?a11 ?l11 ?c11 ?k11 ?a12 ?l12 ?c12 ?k12 ?a13 ?l13 ?c13 ?k13 ?a14 ?l14 ?c14 ?k14 ?a15 ?l15 ?c15 ?k15 ?a16 ?l16 ?c16 ?k16 ?a17 ?l17 ?c17 ?k17 ?a18 ?l18 ?c18 ?k18 ?a19 ?l19 ?c19 ?k19 ?a20 ?l20 ?c20 ?k20 ?a21 ?l21 ?c21 ?k21 ?a22 ?l22 ?c22 ?k22 ?a23 ?l23 ?c23 ?k23 ?a24 ?l24 ?c24 ?k24 ?a25 ?l25 ?c25 ?k25 ?a26 ?l26 ?c26 ?k26 ?a27 ?l27 ?c27 ?k27 ?a28 ?l28 ?c28 ?k28 ?a29 ?l29 ?c29 ?k29 ?a30 ?l30 ?c30 ?k30 ?a31 ?l31 ?c31 ?k31 ?a32 ?l32 ?c32 ?k32 ?z0 ?z1 ?z2 ?z3 ?z4 ?z5 ?z6 ?z7 ?z8 ?z9 ?z10 ?z11 ?z12
  (case a0=>k_is); (case l0=>k_is); (case c0=>k_is); (case k0=>k_is)
  (case a1=>k_is); (case l1=>k_is); (case c1=>k_is); (case k1=>k_is)
  (case a2=>k_is); (case l2=>k_is); (case c2=>k_is); (case k2=>k_is)
  (case a3=>k_is); (case l3=>k_is); (case c3=>k_is); (case k3=>k_is)
  (case a4=>k_is); (case l4=>k_is); (case c4=>k_is); (case k4=>k_is)
  (case a5=>k_is); (case l5=>k_is); (case c5=>k_is); (case k5=>k_is)
  (case a6=>k_is); (case l6=>k_is); (case c6=>k_is); (case k6=>k_is)
  (case a7=>k_is); (case l7=>k_is); (case c7=>k_is); (case k7=>k_is)
  (case a8=>k_is); (case l8=>k_is); (case c8=>k_is); (case k8=>k_is)
  (case a9=>k_is); (case l9=>k_is); (case c9=>k_is); (case k9=>k_is)
  (case a10=>k_is); (case l10=>k_is); (case c10=>k_is); (case k10=>k_is)
  (case a11=>k_is); (case l11=>k_is); (case c11=>k_is); (case k11=>k_is)
  (case a12=>k_is); (case l12=>k_is); (case c12=>k_is); (case k12=>k_is)
  (case a13=>k_is); (case l13=>k_is); (case c13=>k_is); (case k13=>k_is)
  (case a14=>k_is); (case l14=>k_is); (case c14=>k_is); (case k14=>k_is)
  (case a15=>k_is); (case l15=>k_is); (case c15=>k_is); (case k15=>k_is)
  (case a16=>k_is); (case l16=>k_is); (case c16=>k_is); (case k16=>k_is)
  (case a17=>k_is); (case l17=>k_is); (case c17=>k_is); (case k17=>k_is)
  (case a18=>k_is); (case l18=>k_is); (case c18=>k_is); (case k18=>k_is)
  (case a19=>k_is); (case l19=>k_is); (case c19=>k_is); (case k19=>k_is)
  (case a20=>k_is); (case l20=>k_is); (case c20=>k_is); (case k20=>k_is)
  (case a21=>k_is); (case l21=>k_is); (case c21=>k_is); (case k21=>k_is)
  (case a22=>k_is); (case l22=>k_is); (case c22=>k_is); (case k22=>k_is)
  (case a23=>k_is); (case l23=>k_is); (case c23=>k_is); (case k23=>k_is)
  (case a24=>k_is); (case l24=>k_is); (case c24=>k_is); (case k24=>k_is)
  (case a25=>k_is); (case l25=>k_is); (case c25=>k_is); (case k25=>k_is)
  (case a26=>k_is); (case l26=>k_is); (case c26=>k_is); (case k26=>k_is)
  (case a27=>k_is); (case l27=>k_is); (case c27=>k_is); (case k27=>k_is)
  (case a28=>k_is); (case l28=>k_is); (case c28=>k_is); (case k28=>k_is)
  (case a29=>k_is); (case l29=>k_is); (case c29=>k_is); (case k29=>k_is)
  (case a30=>k_is); (case l30=>k_is); (case c30=>k_is); (case k30=>k_is)
  (case a31=>k_is); (case l31=>k_is); (case c31=>k_is); (case k31=>k_is)
  (case a32=>k_is); (case l32=>k_is); (case c32=>k_is); (case k32=>k_is)
  (case z0=>k_is); (case z1=>k_is); (case z2=>k_is); (case z3=>k_is); (case z4=>k_is); (case z5=>k_is); (case z6=>k_is); (case z7=>k_is); (case z8=>k_is); (case z9=>k_is); (case z10=>k_is); (case z11=>k_is); (case z12=>k_is)