import PyProof.Rows.All
import Wide.All
import OpenK.AllK
import Wide.FinOn
import Lean
import PyProof.EqAt
import PyProof.EqKinds
import PyProof.TupleCall
import PySem.Challenge.RW_bundlehouse_k07_first_bad_row
set_option Elab.async false
set_option linter.all false
set_option maxRecDepth 100000
namespace HD
open PySem PySem.W
noncomputable abbrev cutTo (p : Program) (ks : List Nat) : Program :=
  { p with main := { p.main with body := ks.filterMap fun i => p.main.body[i]? } }
noncomputable abbrev en (P : Params) (x : Str) (t : Tok) (v : Value) : DictEntry := ⟨PyData.keyHash P x, .str x t, v⟩
noncomputable abbrev tp (p : Program) (i : Nat) : Stmt := p.main.body.getD i (.Pass ⟨0, 0, 0, 0⟩)
noncomputable def inC (s : Stmt) (i : Nat) : Stmt := match s with
  | .ClassDef _ _ _ b _ _ _ _ _ _ _ => b.getD i (.Pass ⟨0, 0, 0, 0⟩)
  | _ => .Pass ⟨0, 0, 0, 0⟩
noncomputable def dA (s : Stmt) : Arguments := match s with
  | .FunctionDef _ a _ _ _ _ _ _ _ _ => a
  | _ => ⟨[], [], none, [], [], none, []⟩
noncomputable def dB (s : Stmt) : List Stmt := match s with
  | .FunctionDef _ _ b _ _ _ _ _ _ _ => b
  | _ => []
noncomputable def dS (s : Stmt) : Scope := match s with
  | .FunctionDef _ _ _ _ _ _ c _ _ _ => c
  | _ => default
theorem left_of {p q : Program} {Xt : Shared → Bool} {α : Type} {Yf : Shared → α} {Ya : World → α} {N : Nat}
    (h1 : ∀ w, ((openEnds treeTable p w N).map fun s => (openSeen q [] (importedModules p.main.body) Xt true s).1) = some (openGood q []).1)
    (h2 : ∀ w, ((openEnds treeTable p w N).map fun s => ((openSeen q [] (importedModules p.main.body) Xt true s).2.1, (openSeen q [] (importedModules p.main.body) Xt true s).2.2.1)) = some ((openGood q []).2.1, (openGood q []).2.2.1))
    (h3 : ∀ w, ((openEnds treeTable p w N).map fun s => (openSeen q [] (importedModules p.main.body) Xt true s).2.2.2) = some (openGood q []).2.2.2)
    (h4 : ∀ w, (openEnds treeTable p w N).map Yf = some (Ya w)) : LeftO p q [] Xt Yf Ya N := by
  intro w
  have a1 := h1 w
  have a2 := h2 w
  have a3 := h3 w
  have a4 := h4 w
  generalize openEnds treeTable p w N = r at a1 a2 a3 a4 ⊢
  cases r with
  | none => cases a4
  | some s =>
    have b1 := Option.some.inj a1
    have b2 := Prod.mk.inj (Option.some.inj a2)
    have b3 := Option.some.inj a3
    have b4 := Option.some.inj a4
    have e : openSeen q [] (importedModules p.main.body) Xt true s = openGood q [] := Prod.ext b1 (Prod.ext b2.1 (Prod.ext b2.2 b3))
    show some (openSeen q [] (importedModules p.main.body) Xt true s, Yf s) = some (openGood q [], Ya w)
    rw [e, b4]
theorem head_of {l : OpenLaw} {q : Program} {K : Params → Frag} {as : List Addr} {N : Nat} {d : DefRec} {kwd : List (Str × Expr)}
    (e : ∀ P, as = (K P).map (·.1)) (said : l.wellSaid = true)
    (hl : LeftO l.row.prog q [] (fun s => xlAt q [] s && recOk (RowW.records l.row.toRowW) s) (kHook K as e).obs (kHook K as e).val N)
    (h1 : defOf q l.row.name = some (d, kwd)) (h2 : l.row.prog.theDef l.row.name = some (d.params, d.body, d.scope))
    (h3 : kwWritten? d.params.kwonlyargs d.params.kw_defaults = some kwd) (h4 : (!l.row.writes || l.row.records.isEmpty) = true)
    (h5 : (chainsOk q && opensWell l.row.prog && (frees l.row.toRowW && l.row.within.isEmpty)) = true)
    (h6 : l.row.prog.bare) (h7 : l.row.toRowW.promised)
    (go : WalkO q [] (XL q []) (kHook K as e).says l.row.toRowW d kwd fun f vs => PySem.call f vs) : l.Holds := by
  refine holds_law said fun sd => ?_
  refine holds_open (XP := XL q []) (YP := (kHook K as e).says) hl (kHook K as e).of (kHook K as e).keeps ?_ XL.keeps h1 h2 h3 ?_ h4 sd h5 h6 h7 go
  · intro s x
    exact xl_of s (Bool.and_eq_true_iff.mp x).1
  · intro s x
    exact recFacts_of (Bool.and_eq_true_iff.mp x).2
end HD
set_option Elab.async false
set_option linter.all false
set_option maxRecDepth 100000
namespace K07
open PySem PySem.W
theorem len1 {α : Type} {us : List α} (h : us.length = 1) : ∃ a, us = [a] := by
  match us, h with
  | [a], _ => exact ⟨a, rfl⟩
theorem len2 {α : Type} {us : List α} (h : us.length = 2) : ∃ a b, us = [a, b] := by
  match us, h with
  | [a, b], _ => exact ⟨a, b, rfl⟩
theorem len3 {α : Type} {us : List α} (h : us.length = 3) : ∃ a b c, us = [a, b, c] := by
  match us, h with
  | [a, b, c], _ => exact ⟨a, b, c, rfl⟩
theorem len4 {α : Type} {us : List α} (h : us.length = 4) : ∃ a b c d, us = [a, b, c, d] := by
  match us, h with
  | [a, b, c, d], _ => exact ⟨a, b, c, d, rfl⟩
set_option maxHeartbeats 0
noncomputable def heapK (P : Params) : PySem.W.Frag :=
  (nat_lit 2, { cls := Value.none, data := Data.dict #[] }) ::
  (nat_lit 3, { cls := Value.type "dict", data := Data.dict #[HD.en P "__name__" 165 (Value.str ("law_bundlehouse_k07_first_bad_row") 437), HD.en P "__doc__" 166 (Value.none), HD.en P "__package__" 167 (Value.none), HD.en P "__loader__" 168 (Value.builtin "__main__.__loader__#opaque"), HD.en P "__spec__" 169 (Value.none), HD.en P "__annotations__" 170 (Value.ref 6), HD.en P "__builtins__" 171 (Value.ref 4), HD.en P "__file__" 173 (Value.str ("/claim/cut.py") 172), HD.en P "__cached__" 174 (Value.none), HD.en P "BundleError" 206 (Value.ref 24), HD.en P "RefusedAt" 233 (Value.ref 44), HD.en P "NoRow" 258 (Value.ref 63), HD.en P "Twice" 274 (Value.ref 75), HD.en P "NoPart" 290 (Value.ref 87), HD.en P "NoName" 306 (Value.ref 99), HD.en P "LETTERS" 310 (Value.str ("abcdefghijklmnopqrstuvwxyz") 309), HD.en P "FIGURES" 312 (Value.str ("0123456789") 311), HD.en P "MOST_SIGNS" 314 (Value.int 8 313), HD.en P "MOST_FIGURES" 316 (Value.int 60 315), HD.en P "MOST_TERMS" 318 (Value.int 6 317), HD.en P "MOST_PAIRS" 320 (Value.int 6 319), HD.en P "read_row" 330 (Value.ref 108), HD.en P "read_bring" 336 (Value.ref 113), HD.en P "read_pair" 343 (Value.ref 120), HD.en P "read_set" 350 (Value.ref 127), HD.en P "read_say" 357 (Value.ref 134), HD.en P "read_ask" 364 (Value.ref 141), HD.en P "has_when" 371 (Value.ref 148), HD.en P "read_sum" 380 (Value.ref 155), HD.en P "read_sign" 387 (Value.ref 162), HD.en P "read_thing" 394 (Value.ref 169), HD.en P "read_only_name" 401 (Value.ref 176), HD.en P "read_name" 408 (Value.ref 183), HD.en P "is_name" 414 (Value.ref 188), HD.en P "is_number" 420 (Value.ref 193), HD.en P "read" 428 (Value.ref 198), HD.en P "read_line" 436 (Value.ref 205), HD.en P "_law_cell_at" 446 (Value.ref 212), HD.en P "_law_name" 458 (Value.ref 219), HD.en P "_law_good" 467 (Value.ref 226), HD.en P "_law_bad" 476 (Value.ref 233), HD.en P "_law_lines" 491 (Value.ref 240), HD.en P "_law_read" 500 (Value.ref 247), HD.en P "_law_alone" 508 (Value.ref 254), HD.en P "_law_right" 520 (Value.ref 261), HD.en P "law" 532 (Value.ref 268)] 46 }) ::
  (nat_lit 15, { cls := Value.type "tuple", data := Data.seq #[Value.type "ValueError"] }) ::
  (nat_lit 22, { cls := Value.type "tuple", data := Data.seq #[] }) ::
  (nat_lit 23, { cls := Value.type "dict", data := Data.dict #[HD.en P "__module__" 196 (Value.str ("bundlehouse.errors") 187), HD.en P "__firstlineno__" 200 (Value.int 2 199), HD.en P "__static_attributes__" 201 (Value.ref 22), HD.en P "__weakref__" 203 (Value.ref 25), HD.en P "__doc__" 204 (Value.none)] 3 }) ::
  (nat_lit 24, { cls := Value.type "type", data := Data.cls { name := "BundleError", bases := [Value.type "ValueError"], mro := [Value.ref 24, Value.type "ValueError", Value.type "Exception", Value.type "BaseException", Value.type "object"], ns := 23, qualname := "BundleError", subclasses := [Value.ref 44, Value.ref 63] }, slots := #[some (Value.ref 15), none, some (Value.str ("BundleError") 189), some (Value.str ("BundleError") 197), some (Value.builtin "ValueError.__new__"), some (Value.bool true)] }) ::
  (nat_lit 25, { cls := Value.type "getset_descriptor", data := Data.fields #[Value.str ("__weakref__") 202, Value.ref 24, Value.builtin "ExceptionGroup.__weakref__", Value.none] }) ::
  (nat_lit 28, { cls := Value.type "tuple", data := Data.seq #[Value.ref 24] }) ::
  (nat_lit 35, { cls := Value.type "tuple", data := Data.seq #[] }) ::
  (nat_lit 37, { cls := Value.type "tuple", data := Data.seq #[Value.str ("self") 222, Value.str ("part") 223, Value.str ("row") 224] }) ::
  (nat_lit 38, { cls := Value.type "tuple", data := Data.seq #[] }) ::
  (nat_lit 40, { cls := Value.type "code", data := Data.fields #[Value.str ("__init__") 219, Value.str ("RefusedAt.__init__") 220, Value.str ("/claim/cut.py") 221, Value.int 6 0, Value.int 3 0, Value.int 0 0, Value.int 0 0, Value.int 3 0, Value.ref 35, Value.bool true, Value.int 181 0, Value.ref 36, Value.none, Value.ref 37, Value.ref 38, Value.ref 39, Value.int 225 0, Value.int 6 0, Value.str ("/claim/cut.py") 226] }) ::
  (nat_lit 42, { cls := Value.type "tuple", data := Data.seq #[Value.str ("part") 228, Value.str ("row") 229] }) ::
  (nat_lit 43, { cls := Value.type "dict", data := Data.dict #[HD.en P "__module__" 214 (Value.str ("bundlehouse.errors") 187), HD.en P "__firstlineno__" 218 (Value.int 4 217), HD.en P "__init__" 227 (Value.ref 41), HD.en P "__static_attributes__" 230 (Value.ref 42), HD.en P "__doc__" 231 (Value.none)] 2 }) ::
  (nat_lit 44, { cls := Value.type "type", data := Data.cls { name := "RefusedAt", bases := [Value.ref 24], mro := [Value.ref 44, Value.ref 24, Value.type "ValueError", Value.type "Exception", Value.type "BaseException", Value.type "object"], ns := 43, qualname := "RefusedAt", subclasses := [Value.ref 75, Value.ref 87, Value.ref 99] }, slots := #[some (Value.ref 28), none, some (Value.str ("RefusedAt") 207), some (Value.str ("RefusedAt") 215), some (Value.builtin "ValueError.__new__"), some (Value.bool true)] }) ::
  (nat_lit 47, { cls := Value.type "tuple", data := Data.seq #[Value.ref 24] }) ::
  (nat_lit 54, { cls := Value.type "tuple", data := Data.seq #[] }) ::
  (nat_lit 56, { cls := Value.type "tuple", data := Data.seq #[Value.str ("self") 249, Value.str ("number") 250] }) ::
  (nat_lit 57, { cls := Value.type "tuple", data := Data.seq #[] }) ::
  (nat_lit 59, { cls := Value.type "code", data := Data.fields #[Value.str ("__init__") 246, Value.str ("NoRow.__init__") 247, Value.str ("/claim/cut.py") 248, Value.int 12 0, Value.int 2 0, Value.int 0 0, Value.int 0 0, Value.int 3 0, Value.ref 54, Value.bool true, Value.int 181 0, Value.ref 55, Value.none, Value.ref 56, Value.ref 57, Value.ref 58, Value.int 251 0, Value.int 12 0, Value.str ("/claim/cut.py") 252] }) ::
  (nat_lit 60, ⟨Value.type "function", none, .func (PySem.W.fnOf "__init__" "NoRow.__init__" (HD.dA (HD.inC (HD.tp PySem.Challenge.pw_bundlehouse_k07_first_bad_row 3) 0)) (HD.dB (HD.inC (HD.tp PySem.Challenge.pw_bundlehouse_k07_first_bad_row 3) 0)) (HD.dS (HD.inC (HD.tp PySem.Challenge.pw_bundlehouse_k07_first_bad_row 3) 0)) (Value.none) (Value.none) (Value.none) (Value.str ("bundlehouse.errors") 187) (none) (Value.ref 59) (Value.none)), #[]⟩) ::
  (nat_lit 61, { cls := Value.type "tuple", data := Data.seq #[Value.str ("number") 254] }) ::
  (nat_lit 62, { cls := Value.type "dict", data := Data.dict #[HD.en P "__module__" 241 (Value.str ("bundlehouse.errors") 187), HD.en P "__firstlineno__" 245 (Value.int 10 244), HD.en P "__init__" 253 (Value.ref 60), HD.en P "__static_attributes__" 255 (Value.ref 61), HD.en P "__doc__" 256 (Value.none)] 2 }) ::
  (nat_lit 63, { cls := Value.type "type", data := Data.cls { name := "NoRow", bases := [Value.ref 24], mro := [Value.ref 63, Value.ref 24, Value.type "ValueError", Value.type "Exception", Value.type "BaseException", Value.type "object"], ns := 62, qualname := "NoRow" }, slots := #[some (Value.ref 47), none, some (Value.str ("NoRow") 234), some (Value.str ("NoRow") 242), some (Value.builtin "ValueError.__new__"), some (Value.bool true)] }) ::
  (nat_lit 66, { cls := Value.type "tuple", data := Data.seq #[Value.ref 44] }) ::
  (nat_lit 73, { cls := Value.type "tuple", data := Data.seq #[] }) ::
  (nat_lit 74, { cls := Value.type "dict", data := Data.dict #[HD.en P "__module__" 266 (Value.str ("bundlehouse.errors") 187), HD.en P "__firstlineno__" 270 (Value.int 15 269), HD.en P "__static_attributes__" 271 (Value.ref 73), HD.en P "__doc__" 272 (Value.none)] 2 }) ::
  (nat_lit 75, { cls := Value.type "type", data := Data.cls { name := "Twice", bases := [Value.ref 44], mro := [Value.ref 75, Value.ref 44, Value.ref 24, Value.type "ValueError", Value.type "Exception", Value.type "BaseException", Value.type "object"], ns := 74, qualname := "Twice" }, slots := #[some (Value.ref 66), none, some (Value.str ("Twice") 259), some (Value.str ("Twice") 267), some (Value.builtin "ValueError.__new__"), some (Value.bool true)] }) ::
  (nat_lit 78, { cls := Value.type "tuple", data := Data.seq #[Value.ref 44] }) ::
  (nat_lit 85, { cls := Value.type "tuple", data := Data.seq #[] }) ::
  (nat_lit 86, { cls := Value.type "dict", data := Data.dict #[HD.en P "__module__" 282 (Value.str ("bundlehouse.errors") 187), HD.en P "__firstlineno__" 286 (Value.int 17 285), HD.en P "__static_attributes__" 287 (Value.ref 85), HD.en P "__doc__" 288 (Value.none)] 2 }) ::
  (nat_lit 87, { cls := Value.type "type", data := Data.cls { name := "NoPart", bases := [Value.ref 44], mro := [Value.ref 87, Value.ref 44, Value.ref 24, Value.type "ValueError", Value.type "Exception", Value.type "BaseException", Value.type "object"], ns := 86, qualname := "NoPart" }, slots := #[some (Value.ref 78), none, some (Value.str ("NoPart") 275), some (Value.str ("NoPart") 283), some (Value.builtin "ValueError.__new__"), some (Value.bool true)] }) ::
  (nat_lit 90, { cls := Value.type "tuple", data := Data.seq #[Value.ref 44] }) ::
  (nat_lit 97, { cls := Value.type "tuple", data := Data.seq #[] }) ::
  (nat_lit 98, { cls := Value.type "dict", data := Data.dict #[HD.en P "__module__" 298 (Value.str ("bundlehouse.errors") 187), HD.en P "__firstlineno__" 302 (Value.int 19 301), HD.en P "__static_attributes__" 303 (Value.ref 97), HD.en P "__doc__" 304 (Value.none)] 2 }) ::
  (nat_lit 99, { cls := Value.type "type", data := Data.cls { name := "NoName", bases := [Value.ref 44], mro := [Value.ref 99, Value.ref 44, Value.ref 24, Value.type "ValueError", Value.type "Exception", Value.type "BaseException", Value.type "object"], ns := 98, qualname := "NoName" }, slots := #[some (Value.ref 90), none, some (Value.str ("NoName") 291), some (Value.str ("NoName") 299), some (Value.builtin "ValueError.__new__"), some (Value.bool true)] }) ::
  (nat_lit 102, { cls := Value.type "tuple", data := Data.seq #[] }) ::
  (nat_lit 104, { cls := Value.type "tuple", data := Data.seq #[Value.str ("text") 324, Value.str ("words") 325, Value.str ("kind") 326, Value.str ("rest") 327] }) ::
  (nat_lit 105, { cls := Value.type "tuple", data := Data.seq #[] }) ::
  (nat_lit 107, { cls := Value.type "code", data := Data.fields #[Value.str ("read_row") 321, Value.str ("read_row") 322, Value.str ("/claim/cut.py") 323, Value.int 28 0, Value.int 1 0, Value.int 0 0, Value.int 0 0, Value.int 3 0, Value.ref 102, Value.bool true, Value.int 181 0, Value.ref 103, Value.none, Value.ref 104, Value.ref 105, Value.ref 106, Value.int 328 0, Value.int 28 0, Value.str ("/claim/cut.py") 329] }) ::
  (nat_lit 108, ⟨Value.type "function", none, .func (PySem.W.fnOf "read_row" "read_row" (HD.dA (HD.tp PySem.Challenge.pw_bundlehouse_k07_first_bad_row 14)) (HD.dB (HD.tp PySem.Challenge.pw_bundlehouse_k07_first_bad_row 14)) (HD.dS (HD.tp PySem.Challenge.pw_bundlehouse_k07_first_bad_row 14)) (Value.none) (Value.none) (Value.none) (Value.str ("bundlehouse.rows") 307) (none) (Value.ref 107) (Value.none)), #[]⟩) ::
  (nat_lit 109, { cls := Value.type "tuple", data := Data.seq #[] }) ::
  (nat_lit 112, { cls := Value.type "code", data := Data.fields #[Value.str ("read_bring") 331, Value.str ("read_bring") 332, Value.str ("/claim/cut.py") 333, Value.int 47 0, Value.int 1 0, Value.int 0 0, Value.int 0 0, Value.int 3 0, Value.ref 109, Value.bool true, Value.int 181 0, Value.ref 110, Value.none, Value.none, Value.none, Value.ref 111, Value.int 334 0, Value.int 47 0, Value.str ("/claim/cut.py") 335] }) ::
  (nat_lit 113, ⟨Value.type "function", none, .func (PySem.W.fnOf "read_bring" "read_bring" (HD.dA (HD.tp PySem.Challenge.pw_bundlehouse_k07_first_bad_row 15)) (HD.dB (HD.tp PySem.Challenge.pw_bundlehouse_k07_first_bad_row 15)) (HD.dS (HD.tp PySem.Challenge.pw_bundlehouse_k07_first_bad_row 15)) (Value.none) (Value.none) (Value.none) (Value.str ("bundlehouse.rows") 307) (none) (Value.ref 112) (Value.none)), #[]⟩) ::
  (nat_lit 114, { cls := Value.type "tuple", data := Data.seq #[] }) ::
  (nat_lit 116, { cls := Value.type "tuple", data := Data.seq #[Value.str ("words") 340] }) ::
  (nat_lit 117, { cls := Value.type "tuple", data := Data.seq #[] }) ::
  (nat_lit 119, { cls := Value.type "code", data := Data.fields #[Value.str ("read_pair") 337, Value.str ("read_pair") 338, Value.str ("/claim/cut.py") 339, Value.int 52 0, Value.int 1 0, Value.int 0 0, Value.int 0 0, Value.int 3 0, Value.ref 114, Value.bool true, Value.int 181 0, Value.ref 115, Value.none, Value.ref 116, Value.ref 117, Value.ref 118, Value.int 341 0, Value.int 52 0, Value.str ("/claim/cut.py") 342] }) ::
  (nat_lit 120, ⟨Value.type "function", none, .func (PySem.W.fnOf "read_pair" "read_pair" (HD.dA (HD.tp PySem.Challenge.pw_bundlehouse_k07_first_bad_row 16)) (HD.dB (HD.tp PySem.Challenge.pw_bundlehouse_k07_first_bad_row 16)) (HD.dS (HD.tp PySem.Challenge.pw_bundlehouse_k07_first_bad_row 16)) (Value.none) (Value.none) (Value.none) (Value.str ("bundlehouse.rows") 307) (none) (Value.ref 119) (Value.none)), #[]⟩) ::
  (nat_lit 121, { cls := Value.type "tuple", data := Data.seq #[] }) ::
  (nat_lit 123, { cls := Value.type "tuple", data := Data.seq #[Value.str ("words") 347] }) ::
  (nat_lit 124, { cls := Value.type "tuple", data := Data.seq #[] }) ::
  (nat_lit 126, { cls := Value.type "code", data := Data.fields #[Value.str ("read_set") 344, Value.str ("read_set") 345, Value.str ("/claim/cut.py") 346, Value.int 56 0, Value.int 1 0, Value.int 0 0, Value.int 0 0, Value.int 3 0, Value.ref 121, Value.bool true, Value.int 181 0, Value.ref 122, Value.none, Value.ref 123, Value.ref 124, Value.ref 125, Value.int 348 0, Value.int 56 0, Value.str ("/claim/cut.py") 349] }) ::
  (nat_lit 127, ⟨Value.type "function", none, .func (PySem.W.fnOf "read_set" "read_set" (HD.dA (HD.tp PySem.Challenge.pw_bundlehouse_k07_first_bad_row 17)) (HD.dB (HD.tp PySem.Challenge.pw_bundlehouse_k07_first_bad_row 17)) (HD.dS (HD.tp PySem.Challenge.pw_bundlehouse_k07_first_bad_row 17)) (Value.none) (Value.none) (Value.none) (Value.str ("bundlehouse.rows") 307) (none) (Value.ref 126) (Value.none)), #[]⟩) ::
  (nat_lit 128, { cls := Value.type "tuple", data := Data.seq #[] }) ::
  (nat_lit 130, { cls := Value.type "tuple", data := Data.seq #[Value.str ("words") 354] }) ::
  (nat_lit 131, { cls := Value.type "tuple", data := Data.seq #[] }) ::
  (nat_lit 133, { cls := Value.type "code", data := Data.fields #[Value.str ("read_say") 351, Value.str ("read_say") 352, Value.str ("/claim/cut.py") 353, Value.int 60 0, Value.int 1 0, Value.int 0 0, Value.int 0 0, Value.int 3 0, Value.ref 128, Value.bool true, Value.int 181 0, Value.ref 129, Value.none, Value.ref 130, Value.ref 131, Value.ref 132, Value.int 355 0, Value.int 60 0, Value.str ("/claim/cut.py") 356] }) ::
  (nat_lit 134, ⟨Value.type "function", none, .func (PySem.W.fnOf "read_say" "read_say" (HD.dA (HD.tp PySem.Challenge.pw_bundlehouse_k07_first_bad_row 18)) (HD.dB (HD.tp PySem.Challenge.pw_bundlehouse_k07_first_bad_row 18)) (HD.dS (HD.tp PySem.Challenge.pw_bundlehouse_k07_first_bad_row 18)) (Value.none) (Value.none) (Value.none) (Value.str ("bundlehouse.rows") 307) (none) (Value.ref 133) (Value.none)), #[]⟩) ::
  (nat_lit 135, { cls := Value.type "tuple", data := Data.seq #[] }) ::
  (nat_lit 137, { cls := Value.type "tuple", data := Data.seq #[Value.str ("words") 361] }) ::
  (nat_lit 138, { cls := Value.type "tuple", data := Data.seq #[] }) ::
  (nat_lit 140, { cls := Value.type "code", data := Data.fields #[Value.str ("read_ask") 358, Value.str ("read_ask") 359, Value.str ("/claim/cut.py") 360, Value.int 64 0, Value.int 1 0, Value.int 0 0, Value.int 0 0, Value.int 3 0, Value.ref 135, Value.bool true, Value.int 181 0, Value.ref 136, Value.none, Value.ref 137, Value.ref 138, Value.ref 139, Value.int 362 0, Value.int 64 0, Value.str ("/claim/cut.py") 363] }) ::
  (nat_lit 141, ⟨Value.type "function", none, .func (PySem.W.fnOf "read_ask" "read_ask" (HD.dA (HD.tp PySem.Challenge.pw_bundlehouse_k07_first_bad_row 19)) (HD.dB (HD.tp PySem.Challenge.pw_bundlehouse_k07_first_bad_row 19)) (HD.dS (HD.tp PySem.Challenge.pw_bundlehouse_k07_first_bad_row 19)) (Value.none) (Value.none) (Value.none) (Value.str ("bundlehouse.rows") 307) (none) (Value.ref 140) (Value.none)), #[]⟩) ::
  (nat_lit 142, { cls := Value.type "tuple", data := Data.seq #[] }) ::
  (nat_lit 144, { cls := Value.type "tuple", data := Data.seq #[Value.str ("words") 368] }) ::
  (nat_lit 145, { cls := Value.type "tuple", data := Data.seq #[] }) ::
  (nat_lit 147, { cls := Value.type "code", data := Data.fields #[Value.str ("has_when") 365, Value.str ("has_when") 366, Value.str ("/claim/cut.py") 367, Value.int 68 0, Value.int 1 0, Value.int 0 0, Value.int 0 0, Value.int 3 0, Value.ref 142, Value.bool true, Value.int 181 0, Value.ref 143, Value.none, Value.ref 144, Value.ref 145, Value.ref 146, Value.int 369 0, Value.int 68 0, Value.str ("/claim/cut.py") 370] }) ::
  (nat_lit 148, ⟨Value.type "function", none, .func (PySem.W.fnOf "has_when" "has_when" (HD.dA (HD.tp PySem.Challenge.pw_bundlehouse_k07_first_bad_row 20)) (HD.dB (HD.tp PySem.Challenge.pw_bundlehouse_k07_first_bad_row 20)) (HD.dS (HD.tp PySem.Challenge.pw_bundlehouse_k07_first_bad_row 20)) (Value.none) (Value.none) (Value.none) (Value.str ("bundlehouse.rows") 307) (none) (Value.ref 147) (Value.none)), #[]⟩) ::
  (nat_lit 149, { cls := Value.type "tuple", data := Data.seq #[] }) ::
  (nat_lit 151, { cls := Value.type "tuple", data := Data.seq #[Value.str ("words") 375, Value.str ("terms") 376, Value.str ("k") 377] }) ::
  (nat_lit 152, { cls := Value.type "tuple", data := Data.seq #[] }) ::
  (nat_lit 154, { cls := Value.type "code", data := Data.fields #[Value.str ("read_sum") 372, Value.str ("read_sum") 373, Value.str ("/claim/cut.py") 374, Value.int 70 0, Value.int 1 0, Value.int 0 0, Value.int 0 0, Value.int 3 0, Value.ref 149, Value.bool true, Value.int 181 0, Value.ref 150, Value.none, Value.ref 151, Value.ref 152, Value.ref 153, Value.int 378 0, Value.int 70 0, Value.str ("/claim/cut.py") 379] }) ::
  (nat_lit 155, ⟨Value.type "function", none, .func (PySem.W.fnOf "read_sum" "read_sum" (HD.dA (HD.tp PySem.Challenge.pw_bundlehouse_k07_first_bad_row 21)) (HD.dB (HD.tp PySem.Challenge.pw_bundlehouse_k07_first_bad_row 21)) (HD.dS (HD.tp PySem.Challenge.pw_bundlehouse_k07_first_bad_row 21)) (Value.none) (Value.none) (Value.none) (Value.str ("bundlehouse.rows") 307) (none) (Value.ref 154) (Value.none)), #[]⟩) ::
  (nat_lit 156, { cls := Value.type "tuple", data := Data.seq #[] }) ::
  (nat_lit 158, { cls := Value.type "tuple", data := Data.seq #[Value.str ("word") 384] }) ::
  (nat_lit 159, { cls := Value.type "tuple", data := Data.seq #[] }) ::
  (nat_lit 161, { cls := Value.type "code", data := Data.fields #[Value.str ("read_sign") 381, Value.str ("read_sign") 382, Value.str ("/claim/cut.py") 383, Value.int 77 0, Value.int 1 0, Value.int 0 0, Value.int 0 0, Value.int 3 0, Value.ref 156, Value.bool true, Value.int 181 0, Value.ref 157, Value.none, Value.ref 158, Value.ref 159, Value.ref 160, Value.int 385 0, Value.int 77 0, Value.str ("/claim/cut.py") 386] }) ::
  (nat_lit 162, ⟨Value.type "function", none, .func (PySem.W.fnOf "read_sign" "read_sign" (HD.dA (HD.tp PySem.Challenge.pw_bundlehouse_k07_first_bad_row 22)) (HD.dB (HD.tp PySem.Challenge.pw_bundlehouse_k07_first_bad_row 22)) (HD.dS (HD.tp PySem.Challenge.pw_bundlehouse_k07_first_bad_row 22)) (Value.none) (Value.none) (Value.none) (Value.str ("bundlehouse.rows") 307) (none) (Value.ref 161) (Value.none)), #[]⟩) ::
  (nat_lit 163, { cls := Value.type "tuple", data := Data.seq #[] }) ::
  (nat_lit 165, { cls := Value.type "tuple", data := Data.seq #[Value.str ("word") 391] }) ::
  (nat_lit 166, { cls := Value.type "tuple", data := Data.seq #[] }) ::
  (nat_lit 168, { cls := Value.type "code", data := Data.fields #[Value.str ("read_thing") 388, Value.str ("read_thing") 389, Value.str ("/claim/cut.py") 390, Value.int 83 0, Value.int 1 0, Value.int 0 0, Value.int 0 0, Value.int 3 0, Value.ref 163, Value.bool true, Value.int 181 0, Value.ref 164, Value.none, Value.ref 165, Value.ref 166, Value.ref 167, Value.int 392 0, Value.int 83 0, Value.str ("/claim/cut.py") 393] }) ::
  (nat_lit 169, ⟨Value.type "function", none, .func (PySem.W.fnOf "read_thing" "read_thing" (HD.dA (HD.tp PySem.Challenge.pw_bundlehouse_k07_first_bad_row 23)) (HD.dB (HD.tp PySem.Challenge.pw_bundlehouse_k07_first_bad_row 23)) (HD.dS (HD.tp PySem.Challenge.pw_bundlehouse_k07_first_bad_row 23)) (Value.none) (Value.none) (Value.none) (Value.str ("bundlehouse.rows") 307) (none) (Value.ref 168) (Value.none)), #[]⟩) ::
  (nat_lit 170, { cls := Value.type "tuple", data := Data.seq #[] }) ::
  (nat_lit 172, { cls := Value.type "tuple", data := Data.seq #[Value.str ("words") 398] }) ::
  (nat_lit 173, { cls := Value.type "tuple", data := Data.seq #[] }) ::
  (nat_lit 175, { cls := Value.type "code", data := Data.fields #[Value.str ("read_only_name") 395, Value.str ("read_only_name") 396, Value.str ("/claim/cut.py") 397, Value.int 87 0, Value.int 1 0, Value.int 0 0, Value.int 0 0, Value.int 3 0, Value.ref 170, Value.bool true, Value.int 181 0, Value.ref 171, Value.none, Value.ref 172, Value.ref 173, Value.ref 174, Value.int 399 0, Value.int 87 0, Value.str ("/claim/cut.py") 400] }) ::
  (nat_lit 176, ⟨Value.type "function", none, .func (PySem.W.fnOf "read_only_name" "read_only_name" (HD.dA (HD.tp PySem.Challenge.pw_bundlehouse_k07_first_bad_row 24)) (HD.dB (HD.tp PySem.Challenge.pw_bundlehouse_k07_first_bad_row 24)) (HD.dS (HD.tp PySem.Challenge.pw_bundlehouse_k07_first_bad_row 24)) (Value.none) (Value.none) (Value.none) (Value.str ("bundlehouse.rows") 307) (none) (Value.ref 175) (Value.none)), #[]⟩) ::
  (nat_lit 177, { cls := Value.type "tuple", data := Data.seq #[] }) ::
  (nat_lit 179, { cls := Value.type "tuple", data := Data.seq #[Value.str ("word") 405] }) ::
  (nat_lit 180, { cls := Value.type "tuple", data := Data.seq #[] }) ::
  (nat_lit 182, { cls := Value.type "code", data := Data.fields #[Value.str ("read_name") 402, Value.str ("read_name") 403, Value.str ("/claim/cut.py") 404, Value.int 91 0, Value.int 1 0, Value.int 0 0, Value.int 0 0, Value.int 3 0, Value.ref 177, Value.bool true, Value.int 181 0, Value.ref 178, Value.none, Value.ref 179, Value.ref 180, Value.ref 181, Value.int 406 0, Value.int 91 0, Value.str ("/claim/cut.py") 407] }) ::
  (nat_lit 183, ⟨Value.type "function", none, .func (PySem.W.fnOf "read_name" "read_name" (HD.dA (HD.tp PySem.Challenge.pw_bundlehouse_k07_first_bad_row 25)) (HD.dB (HD.tp PySem.Challenge.pw_bundlehouse_k07_first_bad_row 25)) (HD.dS (HD.tp PySem.Challenge.pw_bundlehouse_k07_first_bad_row 25)) (Value.none) (Value.none) (Value.none) (Value.str ("bundlehouse.rows") 307) (none) (Value.ref 182) (Value.none)), #[]⟩) ::
  (nat_lit 184, { cls := Value.type "tuple", data := Data.seq #[] }) ::
  (nat_lit 187, { cls := Value.type "code", data := Data.fields #[Value.str ("is_name") 409, Value.str ("is_name") 410, Value.str ("/claim/cut.py") 411, Value.int 95 0, Value.int 1 0, Value.int 0 0, Value.int 0 0, Value.int 3 0, Value.ref 184, Value.bool true, Value.int 181 0, Value.ref 185, Value.none, Value.none, Value.none, Value.ref 186, Value.int 412 0, Value.int 95 0, Value.str ("/claim/cut.py") 413] }) ::
  (nat_lit 188, ⟨Value.type "function", none, .func (PySem.W.fnOf "is_name" "is_name" (HD.dA (HD.tp PySem.Challenge.pw_bundlehouse_k07_first_bad_row 26)) (HD.dB (HD.tp PySem.Challenge.pw_bundlehouse_k07_first_bad_row 26)) (HD.dS (HD.tp PySem.Challenge.pw_bundlehouse_k07_first_bad_row 26)) (Value.none) (Value.none) (Value.none) (Value.str ("bundlehouse.rows") 307) (none) (Value.ref 187) (Value.none)), #[]⟩) ::
  (nat_lit 189, { cls := Value.type "tuple", data := Data.seq #[] }) ::
  (nat_lit 192, { cls := Value.type "code", data := Data.fields #[Value.str ("is_number") 415, Value.str ("is_number") 416, Value.str ("/claim/cut.py") 417, Value.int 99 0, Value.int 1 0, Value.int 0 0, Value.int 0 0, Value.int 3 0, Value.ref 189, Value.bool true, Value.int 181 0, Value.ref 190, Value.none, Value.none, Value.none, Value.ref 191, Value.int 418 0, Value.int 99 0, Value.str ("/claim/cut.py") 419] }) ::
  (nat_lit 193, ⟨Value.type "function", none, .func (PySem.W.fnOf "is_number" "is_number" (HD.dA (HD.tp PySem.Challenge.pw_bundlehouse_k07_first_bad_row 27)) (HD.dB (HD.tp PySem.Challenge.pw_bundlehouse_k07_first_bad_row 27)) (HD.dS (HD.tp PySem.Challenge.pw_bundlehouse_k07_first_bad_row 27)) (Value.none) (Value.none) (Value.none) (Value.str ("bundlehouse.rows") 307) (none) (Value.ref 192) (Value.none)), #[]⟩) ::
  (nat_lit 194, { cls := Value.type "tuple", data := Data.seq #[] }) ::
  (nat_lit 197, { cls := Value.type "code", data := Data.fields #[Value.str ("read") 423, Value.str ("read") 424, Value.str ("/claim/cut.py") 425, Value.int 104 0, Value.int 1 0, Value.int 0 0, Value.int 0 0, Value.int 3 0, Value.ref 194, Value.bool true, Value.int 181 0, Value.ref 195, Value.none, Value.none, Value.none, Value.ref 196, Value.int 426 0, Value.int 104 0, Value.str ("/claim/cut.py") 427] }) ::
  (nat_lit 198, ⟨Value.type "function", none, .func (PySem.W.fnOf "read" "read" (HD.dA (HD.tp PySem.Challenge.pw_bundlehouse_k07_first_bad_row 29)) (HD.dB (HD.tp PySem.Challenge.pw_bundlehouse_k07_first_bad_row 29)) (HD.dS (HD.tp PySem.Challenge.pw_bundlehouse_k07_first_bad_row 29)) (Value.none) (Value.none) (Value.none) (Value.str ("bundlehouse.texts") 421) (none) (Value.ref 197) (Value.none)), #[]⟩) ::
  (nat_lit 199, { cls := Value.type "tuple", data := Data.seq #[] }) ::
  (nat_lit 201, { cls := Value.type "tuple", data := Data.seq #[Value.str ("line") 432, Value.str ("number") 433] }) ::
  (nat_lit 202, { cls := Value.type "tuple", data := Data.seq #[] }) ::
  (nat_lit 204, { cls := Value.type "code", data := Data.fields #[Value.str ("read_line") 429, Value.str ("read_line") 430, Value.str ("/claim/cut.py") 431, Value.int 117 0, Value.int 2 0, Value.int 0 0, Value.int 0 0, Value.int 3 0, Value.ref 199, Value.bool true, Value.int 181 0, Value.ref 200, Value.none, Value.ref 201, Value.ref 202, Value.ref 203, Value.int 434 0, Value.int 117 0, Value.str ("/claim/cut.py") 435] }) ::
  (nat_lit 205, ⟨Value.type "function", none, .func (PySem.W.fnOf "read_line" "read_line" (HD.dA (HD.tp PySem.Challenge.pw_bundlehouse_k07_first_bad_row 30)) (HD.dB (HD.tp PySem.Challenge.pw_bundlehouse_k07_first_bad_row 30)) (HD.dS (HD.tp PySem.Challenge.pw_bundlehouse_k07_first_bad_row 30)) (Value.none) (Value.none) (Value.none) (Value.str ("bundlehouse.texts") 421) (none) (Value.ref 204) (Value.none)), #[]⟩) ::
  (nat_lit 206, { cls := Value.type "tuple", data := Data.seq #[] }) ::
  (nat_lit 208, { cls := Value.type "tuple", data := Data.seq #[Value.str ("_law_script") 442, Value.str ("_law_k") 443] }) ::
  (nat_lit 209, { cls := Value.type "tuple", data := Data.seq #[] }) ::
  (nat_lit 211, { cls := Value.type "code", data := Data.fields #[Value.str ("_law_cell_at") 439, Value.str ("_law_cell_at") 440, Value.str ("/claim/cut.py") 441, Value.int 123 0, Value.int 2 0, Value.int 0 0, Value.int 0 0, Value.int 3 0, Value.ref 206, Value.bool true, Value.int 181 0, Value.ref 207, Value.none, Value.ref 208, Value.ref 209, Value.ref 210, Value.int 444 0, Value.int 123 0, Value.str ("/claim/cut.py") 445] }) ::
  (nat_lit 212, ⟨Value.type "function", none, .func (PySem.W.fnOf "_law_cell_at" "_law_cell_at" (HD.dA (HD.tp PySem.Challenge.pw_bundlehouse_k07_first_bad_row 32)) (HD.dB (HD.tp PySem.Challenge.pw_bundlehouse_k07_first_bad_row 32)) (HD.dS (HD.tp PySem.Challenge.pw_bundlehouse_k07_first_bad_row 32)) (Value.none) (Value.none) (Value.none) (Value.str ("law_bundlehouse_k07_first_bad_row") 437) (none) (Value.ref 211) (Value.none)), #[]⟩) ::
  (nat_lit 213, { cls := Value.type "tuple", data := Data.seq #[] }) ::
  (nat_lit 215, { cls := Value.type "tuple", data := Data.seq #[Value.str ("_law_cell") 450, Value.str ("_law_signs") 451, Value.str ("_law_number") 452, Value.str ("_law_size") 453, Value.str ("_law_name_here") 454, Value.str ("_law_k") 455] }) ::
  (nat_lit 216, { cls := Value.type "tuple", data := Data.seq #[] }) ::
  (nat_lit 218, { cls := Value.type "code", data := Data.fields #[Value.str ("_law_name") 447, Value.str ("_law_name") 448, Value.str ("/claim/cut.py") 449, Value.int 127 0, Value.int 1 0, Value.int 0 0, Value.int 0 0, Value.int 3 0, Value.ref 213, Value.bool true, Value.int 181 0, Value.ref 214, Value.none, Value.ref 215, Value.ref 216, Value.ref 217, Value.int 456 0, Value.int 127 0, Value.str ("/claim/cut.py") 457] }) ::
  (nat_lit 219, ⟨Value.type "function", none, .func (PySem.W.fnOf "_law_name" "_law_name" (HD.dA (HD.tp PySem.Challenge.pw_bundlehouse_k07_first_bad_row 33)) (HD.dB (HD.tp PySem.Challenge.pw_bundlehouse_k07_first_bad_row 33)) (HD.dS (HD.tp PySem.Challenge.pw_bundlehouse_k07_first_bad_row 33)) (Value.none) (Value.none) (Value.none) (Value.str ("law_bundlehouse_k07_first_bad_row") 437) (none) (Value.ref 218) (Value.none)), #[]⟩) ::
  (nat_lit 220, { cls := Value.type "tuple", data := Data.seq #[] }) ::
  (nat_lit 222, { cls := Value.type "tuple", data := Data.seq #[Value.str ("_law_kind") 462, Value.str ("_law_name_here") 463, Value.str ("_law_some") 464] }) ::
  (nat_lit 223, { cls := Value.type "tuple", data := Data.seq #[] }) ::
  (nat_lit 225, { cls := Value.type "code", data := Data.fields #[Value.str ("_law_good") 459, Value.str ("_law_good") 460, Value.str ("/claim/cut.py") 461, Value.int 138 0, Value.int 2 0, Value.int 0 0, Value.int 0 0, Value.int 3 0, Value.ref 220, Value.bool true, Value.int 181 0, Value.ref 221, Value.none, Value.ref 222, Value.ref 223, Value.ref 224, Value.int 465 0, Value.int 138 0, Value.str ("/claim/cut.py") 466] }) ::
  (nat_lit 226, ⟨Value.type "function", none, .func (PySem.W.fnOf "_law_good" "_law_good" (HD.dA (HD.tp PySem.Challenge.pw_bundlehouse_k07_first_bad_row 34)) (HD.dB (HD.tp PySem.Challenge.pw_bundlehouse_k07_first_bad_row 34)) (HD.dS (HD.tp PySem.Challenge.pw_bundlehouse_k07_first_bad_row 34)) (Value.none) (Value.none) (Value.none) (Value.str ("law_bundlehouse_k07_first_bad_row") 437) (none) (Value.ref 225) (Value.none)), #[]⟩) ::
  (nat_lit 227, { cls := Value.type "tuple", data := Data.seq #[] }) ::
  (nat_lit 229, { cls := Value.type "tuple", data := Data.seq #[Value.str ("_law_kind") 471, Value.str ("_law_name_here") 472, Value.str ("_law_some") 473] }) ::
  (nat_lit 230, { cls := Value.type "tuple", data := Data.seq #[] }) ::
  (nat_lit 232, { cls := Value.type "code", data := Data.fields #[Value.str ("_law_bad") 468, Value.str ("_law_bad") 469, Value.str ("/claim/cut.py") 470, Value.int 141 0, Value.int 2 0, Value.int 0 0, Value.int 0 0, Value.int 3 0, Value.ref 227, Value.bool true, Value.int 181 0, Value.ref 228, Value.none, Value.ref 229, Value.ref 230, Value.ref 231, Value.int 474 0, Value.int 141 0, Value.str ("/claim/cut.py") 475] }) ::
  (nat_lit 233, ⟨Value.type "function", none, .func (PySem.W.fnOf "_law_bad" "_law_bad" (HD.dA (HD.tp PySem.Challenge.pw_bundlehouse_k07_first_bad_row 35)) (HD.dB (HD.tp PySem.Challenge.pw_bundlehouse_k07_first_bad_row 35)) (HD.dS (HD.tp PySem.Challenge.pw_bundlehouse_k07_first_bad_row 35)) (Value.none) (Value.none) (Value.none) (Value.str ("law_bundlehouse_k07_first_bad_row") 437) (none) (Value.ref 232) (Value.none)), #[]⟩) ::
  (nat_lit 234, { cls := Value.type "tuple", data := Data.seq #[] }) ::
  (nat_lit 236, { cls := Value.type "tuple", data := Data.seq #[Value.str ("_law_script") 480, Value.str ("_law_lines_here") 481, Value.str ("_law_bad_here") 482, Value.str ("_law_heads") 483, Value.str ("_law_counts") 484, Value.str ("_law_cell") 485, Value.str ("_law_way") 486, Value.str ("_law_name_here") 487, Value.str ("_law_line") 488] }) ::
  (nat_lit 237, { cls := Value.type "tuple", data := Data.seq #[] }) ::
  (nat_lit 239, { cls := Value.type "code", data := Data.fields #[Value.str ("_law_lines") 477, Value.str ("_law_lines") 478, Value.str ("/claim/cut.py") 479, Value.int 145 0, Value.int 1 0, Value.int 0 0, Value.int 0 0, Value.int 3 0, Value.ref 234, Value.bool true, Value.int 181 0, Value.ref 235, Value.none, Value.ref 236, Value.ref 237, Value.ref 238, Value.int 489 0, Value.int 145 0, Value.str ("/claim/cut.py") 490] }) ::
  (nat_lit 240, ⟨Value.type "function", none, .func (PySem.W.fnOf "_law_lines" "_law_lines" (HD.dA (HD.tp PySem.Challenge.pw_bundlehouse_k07_first_bad_row 36)) (HD.dB (HD.tp PySem.Challenge.pw_bundlehouse_k07_first_bad_row 36)) (HD.dS (HD.tp PySem.Challenge.pw_bundlehouse_k07_first_bad_row 36)) (Value.none) (Value.none) (Value.none) (Value.str ("law_bundlehouse_k07_first_bad_row") 437) (none) (Value.ref 239) (Value.none)), #[]⟩) ::
  (nat_lit 241, { cls := Value.type "tuple", data := Data.seq #[] }) ::
  (nat_lit 243, { cls := Value.type "tuple", data := Data.seq #[Value.str ("_law_text") 495, Value.str ("_law_parts") 496, Value.str ("e") 497] }) ::
  (nat_lit 244, { cls := Value.type "tuple", data := Data.seq #[] }) ::
  (nat_lit 246, { cls := Value.type "code", data := Data.fields #[Value.str ("_law_read") 492, Value.str ("_law_read") 493, Value.str ("/claim/cut.py") 494, Value.int 167 0, Value.int 1 0, Value.int 0 0, Value.int 0 0, Value.int 3 0, Value.ref 241, Value.bool true, Value.int 181 0, Value.ref 242, Value.none, Value.ref 243, Value.ref 244, Value.ref 245, Value.int 498 0, Value.int 167 0, Value.str ("/claim/cut.py") 499] }) ::
  (nat_lit 247, ⟨Value.type "function", none, .func (PySem.W.fnOf "_law_read" "_law_read" (HD.dA (HD.tp PySem.Challenge.pw_bundlehouse_k07_first_bad_row 37)) (HD.dB (HD.tp PySem.Challenge.pw_bundlehouse_k07_first_bad_row 37)) (HD.dS (HD.tp PySem.Challenge.pw_bundlehouse_k07_first_bad_row 37)) (Value.none) (Value.none) (Value.none) (Value.str ("law_bundlehouse_k07_first_bad_row") 437) (none) (Value.ref 246) (Value.none)), #[]⟩) ::
  (nat_lit 248, { cls := Value.type "tuple", data := Data.seq #[] }) ::
  (nat_lit 250, { cls := Value.type "tuple", data := Data.seq #[Value.str ("_law_text") 504, Value.str ("e") 505] }) ::
  (nat_lit 251, { cls := Value.type "tuple", data := Data.seq #[] }) ::
  (nat_lit 253, { cls := Value.type "code", data := Data.fields #[Value.str ("_law_alone") 501, Value.str ("_law_alone") 502, Value.str ("/claim/cut.py") 503, Value.int 173 0, Value.int 1 0, Value.int 0 0, Value.int 0 0, Value.int 3 0, Value.ref 248, Value.bool true, Value.int 181 0, Value.ref 249, Value.none, Value.ref 250, Value.ref 251, Value.ref 252, Value.int 506 0, Value.int 173 0, Value.str ("/claim/cut.py") 507] }) ::
  (nat_lit 254, ⟨Value.type "function", none, .func (PySem.W.fnOf "_law_alone" "_law_alone" (HD.dA (HD.tp PySem.Challenge.pw_bundlehouse_k07_first_bad_row 38)) (HD.dB (HD.tp PySem.Challenge.pw_bundlehouse_k07_first_bad_row 38)) (HD.dS (HD.tp PySem.Challenge.pw_bundlehouse_k07_first_bad_row 38)) (Value.none) (Value.none) (Value.none) (Value.str ("law_bundlehouse_k07_first_bad_row") 437) (none) (Value.ref 253) (Value.none)), #[]⟩) ::
  (nat_lit 255, { cls := Value.type "tuple", data := Data.seq #[] }) ::
  (nat_lit 257, { cls := Value.type "tuple", data := Data.seq #[Value.str ("_law_found") 512, Value.str ("_law_bad_here") 513, Value.str ("_law_heads") 514, Value.str ("_law_counts") 515, Value.str ("_law_k") 516, Value.str ("_law_part") 517] }) ::
  (nat_lit 258, { cls := Value.type "tuple", data := Data.seq #[] }) ::
  (nat_lit 260, { cls := Value.type "code", data := Data.fields #[Value.str ("_law_right") 509, Value.str ("_law_right") 510, Value.str ("/claim/cut.py") 511, Value.int 179 0, Value.int 4 0, Value.int 0 0, Value.int 0 0, Value.int 3 0, Value.ref 255, Value.bool true, Value.int 181 0, Value.ref 256, Value.none, Value.ref 257, Value.ref 258, Value.ref 259, Value.int 518 0, Value.int 179 0, Value.str ("/claim/cut.py") 519] }) ::
  (nat_lit 261, ⟨Value.type "function", none, .func (PySem.W.fnOf "_law_right" "_law_right" (HD.dA (HD.tp PySem.Challenge.pw_bundlehouse_k07_first_bad_row 39)) (HD.dB (HD.tp PySem.Challenge.pw_bundlehouse_k07_first_bad_row 39)) (HD.dS (HD.tp PySem.Challenge.pw_bundlehouse_k07_first_bad_row 39)) (Value.none) (Value.none) (Value.none) (Value.str ("law_bundlehouse_k07_first_bad_row") 437) (none) (Value.ref 260) (Value.none)), #[]⟩) ::
  (nat_lit 262, { cls := Value.type "tuple", data := Data.seq #[] }) ::
  (nat_lit 264, { cls := Value.type "tuple", data := Data.seq #[Value.str ("_law_script") 524, Value.str ("_law_lines_here") 525, Value.str ("_law_bad_here") 526, Value.str ("_law_heads") 527, Value.str ("_law_counts") 528, Value.str ("_law_text") 529] }) ::
  (nat_lit 265, { cls := Value.type "tuple", data := Data.seq #[] }) ::
  (nat_lit 267, { cls := Value.type "code", data := Data.fields #[Value.str ("law") 521, Value.str ("law") 522, Value.str ("/claim/cut.py") 523, Value.int 191 0, Value.int 1 0, Value.int 0 0, Value.int 0 0, Value.int 3 0, Value.ref 262, Value.bool true, Value.int 181 0, Value.ref 263, Value.none, Value.ref 264, Value.ref 265, Value.ref 266, Value.int 530 0, Value.int 191 0, Value.str ("/claim/cut.py") 531] }) ::
  (nat_lit 268, ⟨Value.type "function", none, .func (PySem.W.fnOf "law" "law" (HD.dA (HD.tp PySem.Challenge.pw_bundlehouse_k07_first_bad_row 40)) (HD.dB (HD.tp PySem.Challenge.pw_bundlehouse_k07_first_bad_row 40)) (HD.dS (HD.tp PySem.Challenge.pw_bundlehouse_k07_first_bad_row 40)) (Value.none) (Value.none) (Value.none) (Value.str ("law_bundlehouse_k07_first_bad_row") 437) (none) (Value.ref 267) (Value.none)), #[]⟩) :: []
noncomputable def heapA : List Addr := [nat_lit 2, nat_lit 3, nat_lit 15, nat_lit 22, nat_lit 23, nat_lit 24, nat_lit 25, nat_lit 28, nat_lit 35, nat_lit 37, nat_lit 38, nat_lit 40, nat_lit 42, nat_lit 43, nat_lit 44, nat_lit 47, nat_lit 54, nat_lit 56, nat_lit 57, nat_lit 59, nat_lit 60, nat_lit 61, nat_lit 62, nat_lit 63, nat_lit 66, nat_lit 73, nat_lit 74, nat_lit 75, nat_lit 78, nat_lit 85, nat_lit 86, nat_lit 87, nat_lit 90, nat_lit 97, nat_lit 98, nat_lit 99, nat_lit 102, nat_lit 104, nat_lit 105, nat_lit 107, nat_lit 108, nat_lit 109, nat_lit 112, nat_lit 113, nat_lit 114, nat_lit 116, nat_lit 117, nat_lit 119, nat_lit 120, nat_lit 121, nat_lit 123, nat_lit 124, nat_lit 126, nat_lit 127, nat_lit 128, nat_lit 130, nat_lit 131, nat_lit 133, nat_lit 134, nat_lit 135, nat_lit 137, nat_lit 138, nat_lit 140, nat_lit 141, nat_lit 142, nat_lit 144, nat_lit 145, nat_lit 147, nat_lit 148, nat_lit 149, nat_lit 151, nat_lit 152, nat_lit 154, nat_lit 155, nat_lit 156, nat_lit 158, nat_lit 159, nat_lit 161, nat_lit 162, nat_lit 163, nat_lit 165, nat_lit 166, nat_lit 168, nat_lit 169, nat_lit 170, nat_lit 172, nat_lit 173, nat_lit 175, nat_lit 176, nat_lit 177, nat_lit 179, nat_lit 180, nat_lit 182, nat_lit 183, nat_lit 184, nat_lit 187, nat_lit 188, nat_lit 189, nat_lit 192, nat_lit 193, nat_lit 194, nat_lit 197, nat_lit 198, nat_lit 199, nat_lit 201, nat_lit 202, nat_lit 204, nat_lit 205, nat_lit 206, nat_lit 208, nat_lit 209, nat_lit 211, nat_lit 212, nat_lit 213, nat_lit 215, nat_lit 216, nat_lit 218, nat_lit 219, nat_lit 220, nat_lit 222, nat_lit 223, nat_lit 225, nat_lit 226, nat_lit 227, nat_lit 229, nat_lit 230, nat_lit 232, nat_lit 233, nat_lit 234, nat_lit 236, nat_lit 237, nat_lit 239, nat_lit 240, nat_lit 241, nat_lit 243, nat_lit 244, nat_lit 246, nat_lit 247, nat_lit 248, nat_lit 250, nat_lit 251, nat_lit 253, nat_lit 254, nat_lit 255, nat_lit 257, nat_lit 258, nat_lit 260, nat_lit 261, nat_lit 262, nat_lit 264, nat_lit 265, nat_lit 267, nat_lit 268]
theorem heapE : ∀ P, heapA = (heapK P).map (·.1) := fun _ => by kernel_rfl
theorem said : PySem.Challenge.rw_bundlehouse_k07_first_bad_row.wellSaid = true := by kernel_rfl
theorem run1 : ∀ w, ((openEnds treeTable PySem.Challenge.rw_bundlehouse_k07_first_bad_row.row.prog w 4524).map fun s => (openSeen (HD.cutTo PySem.Challenge.rw_bundlehouse_k07_first_bad_row.prog [1, 2, 3, 4, 5, 6, 8, 9, 10, 11, 12, 13, 14, 15, 16, 17, 18, 19, 20, 21, 22, 23, 24, 25, 26, 27, 29, 30, 32, 33, 34, 35, 36, 37, 38, 39, 40]) [] (importedModules PySem.Challenge.rw_bundlehouse_k07_first_bad_row.row.prog.main.body) (fun s => xlAt (HD.cutTo PySem.Challenge.rw_bundlehouse_k07_first_bad_row.prog [1, 2, 3, 4, 5, 6, 8, 9, 10, 11, 12, 13, 14, 15, 16, 17, 18, 19, 20, 21, 22, 23, 24, 25, 26, 27, 29, 30, 32, 33, 34, 35, 36, 37, 38, 39, 40]) [] s && recOk (RowW.records PySem.Challenge.rw_bundlehouse_k07_first_bad_row.row.toRowW) s) true s).1) = some (openGood (HD.cutTo PySem.Challenge.rw_bundlehouse_k07_first_bad_row.prog [1, 2, 3, 4, 5, 6, 8, 9, 10, 11, 12, 13, 14, 15, 16, 17, 18, 19, 20, 21, 22, 23, 24, 25, 26, 27, 29, 30, 32, 33, 34, 35, 36, 37, 38, 39, 40]) []).1 := fun w => by kernel_rfl
theorem run2 : ∀ w, ((openEnds treeTable PySem.Challenge.rw_bundlehouse_k07_first_bad_row.row.prog w 4524).map fun s => ((openSeen (HD.cutTo PySem.Challenge.rw_bundlehouse_k07_first_bad_row.prog [1, 2, 3, 4, 5, 6, 8, 9, 10, 11, 12, 13, 14, 15, 16, 17, 18, 19, 20, 21, 22, 23, 24, 25, 26, 27, 29, 30, 32, 33, 34, 35, 36, 37, 38, 39, 40]) [] (importedModules PySem.Challenge.rw_bundlehouse_k07_first_bad_row.row.prog.main.body) (fun s => xlAt (HD.cutTo PySem.Challenge.rw_bundlehouse_k07_first_bad_row.prog [1, 2, 3, 4, 5, 6, 8, 9, 10, 11, 12, 13, 14, 15, 16, 17, 18, 19, 20, 21, 22, 23, 24, 25, 26, 27, 29, 30, 32, 33, 34, 35, 36, 37, 38, 39, 40]) [] s && recOk (RowW.records PySem.Challenge.rw_bundlehouse_k07_first_bad_row.row.toRowW) s) true s).2.1, (openSeen (HD.cutTo PySem.Challenge.rw_bundlehouse_k07_first_bad_row.prog [1, 2, 3, 4, 5, 6, 8, 9, 10, 11, 12, 13, 14, 15, 16, 17, 18, 19, 20, 21, 22, 23, 24, 25, 26, 27, 29, 30, 32, 33, 34, 35, 36, 37, 38, 39, 40]) [] (importedModules PySem.Challenge.rw_bundlehouse_k07_first_bad_row.row.prog.main.body) (fun s => xlAt (HD.cutTo PySem.Challenge.rw_bundlehouse_k07_first_bad_row.prog [1, 2, 3, 4, 5, 6, 8, 9, 10, 11, 12, 13, 14, 15, 16, 17, 18, 19, 20, 21, 22, 23, 24, 25, 26, 27, 29, 30, 32, 33, 34, 35, 36, 37, 38, 39, 40]) [] s && recOk (RowW.records PySem.Challenge.rw_bundlehouse_k07_first_bad_row.row.toRowW) s) true s).2.2.1)) = some ((openGood (HD.cutTo PySem.Challenge.rw_bundlehouse_k07_first_bad_row.prog [1, 2, 3, 4, 5, 6, 8, 9, 10, 11, 12, 13, 14, 15, 16, 17, 18, 19, 20, 21, 22, 23, 24, 25, 26, 27, 29, 30, 32, 33, 34, 35, 36, 37, 38, 39, 40]) []).2.1, (openGood (HD.cutTo PySem.Challenge.rw_bundlehouse_k07_first_bad_row.prog [1, 2, 3, 4, 5, 6, 8, 9, 10, 11, 12, 13, 14, 15, 16, 17, 18, 19, 20, 21, 22, 23, 24, 25, 26, 27, 29, 30, 32, 33, 34, 35, 36, 37, 38, 39, 40]) []).2.2.1) := fun w => by kernel_rfl
theorem run3 : ∀ w, ((openEnds treeTable PySem.Challenge.rw_bundlehouse_k07_first_bad_row.row.prog w 4524).map fun s => (openSeen (HD.cutTo PySem.Challenge.rw_bundlehouse_k07_first_bad_row.prog [1, 2, 3, 4, 5, 6, 8, 9, 10, 11, 12, 13, 14, 15, 16, 17, 18, 19, 20, 21, 22, 23, 24, 25, 26, 27, 29, 30, 32, 33, 34, 35, 36, 37, 38, 39, 40]) [] (importedModules PySem.Challenge.rw_bundlehouse_k07_first_bad_row.row.prog.main.body) (fun s => xlAt (HD.cutTo PySem.Challenge.rw_bundlehouse_k07_first_bad_row.prog [1, 2, 3, 4, 5, 6, 8, 9, 10, 11, 12, 13, 14, 15, 16, 17, 18, 19, 20, 21, 22, 23, 24, 25, 26, 27, 29, 30, 32, 33, 34, 35, 36, 37, 38, 39, 40]) [] s && recOk (RowW.records PySem.Challenge.rw_bundlehouse_k07_first_bad_row.row.toRowW) s) true s).2.2.2) = some (openGood (HD.cutTo PySem.Challenge.rw_bundlehouse_k07_first_bad_row.prog [1, 2, 3, 4, 5, 6, 8, 9, 10, 11, 12, 13, 14, 15, 16, 17, 18, 19, 20, 21, 22, 23, 24, 25, 26, 27, 29, 30, 32, 33, 34, 35, 36, 37, 38, 39, 40]) []).2.2.2 := fun w => by kernel_rfl
theorem run4 : ∀ w, ((openEnds treeTable PySem.Challenge.rw_bundlehouse_k07_first_bad_row.row.prog w 4524).map (kHook heapK heapA heapE).obs) = some ((kHook heapK heapA heapE).val w) := fun w => by kernel_rfl
theorem top_run : LeftO PySem.Challenge.rw_bundlehouse_k07_first_bad_row.row.prog (HD.cutTo PySem.Challenge.rw_bundlehouse_k07_first_bad_row.prog [1, 2, 3, 4, 5, 6, 8, 9, 10, 11, 12, 13, 14, 15, 16, 17, 18, 19, 20, 21, 22, 23, 24, 25, 26, 27, 29, 30, 32, 33, 34, 35, 36, 37, 38, 39, 40]) [] (fun s => xlAt (HD.cutTo PySem.Challenge.rw_bundlehouse_k07_first_bad_row.prog [1, 2, 3, 4, 5, 6, 8, 9, 10, 11, 12, 13, 14, 15, 16, 17, 18, 19, 20, 21, 22, 23, 24, 25, 26, 27, 29, 30, 32, 33, 34, 35, 36, 37, 38, 39, 40]) [] s && recOk (RowW.records PySem.Challenge.rw_bundlehouse_k07_first_bad_row.row.toRowW) s) (kHook heapK heapA heapE).obs (kHook heapK heapA heapE).val 4524 := HD.left_of run1 run2 run3 run4
end K07
set_option Elab.async false
set_option linter.all false
set_option maxRecDepth 100000
namespace L2
open PySem PySem.Spec PyProof.Rows
noncomputable abbrev Key := Sum Int Str
noncomputable def keyIs : Key → Value → Bool
  | .inl k, v => Value.isInt k v
  | .inr x, v => Value.isStrOf x v
noncomputable def keyH (w : World) : Key → Int
  | .inl k => hashInt k
  | .inr x => hashStr w x
theorem keyIs_shape : ∀ {k : Key} {v : Value}, keyIs k v = true → (∃ i t, k = Sum.inl i ∧ v = Value.int i t) ∨ (∃ x t, k = Sum.inr x ∧ v = Value.str x t)
  | .inl i, v, h => by
    obtain ⟨t, e⟩ := Value.isInt_shape (k := i) (v := v) h
    exact .inl ⟨i, t, rfl, e⟩
  | .inr x, v, h => by
    obtain ⟨t, e⟩ := Value.isStrOf_shape (x := x) (v := v) h
    exact .inr ⟨x, t, rfl, e⟩
theorem key_ll (a b : Int) : decide ((Sum.inl a : Key) = Sum.inl b) = (a == b) := by
  by_cases e : a = b
  · subst e; simp
  · have h : ¬ (Sum.inl a : Key) = Sum.inl b := fun q => e (Sum.inl.inj q)
    rw [decide_eq_false h]
    exact (beq_eq_false_iff_ne.mpr e).symm
theorem key_rr (a b : Str) : decide ((Sum.inr a : Key) = Sum.inr b) = decide (a = b) := by
  by_cases e : a = b
  · subst e; simp
  · have h : ¬ (Sum.inr a : Key) = Sum.inr b := fun q => e (Sum.inr.inj q)
    rw [decide_eq_false h, decide_eq_false e]
theorem key_lr (a : Int) (b : Str) : decide ((Sum.inl a : Key) = Sum.inr b) = false := decide_eq_false (fun q => nomatch q)
theorem key_rl (a : Str) (b : Int) : decide ((Sum.inr a : Key) = Sum.inl b) = false := decide_eq_false (fun q => nomatch q)
noncomputable def mixKind (prog : Program) (w : World) : PySem.KeyKind prog w Key where
  is := keyIs
  hash := keyH w
  inj := fun v a b ha hb => by
    rcases keyIs_shape ha with ⟨i, t, rfl, rfl⟩ | ⟨x, t, rfl, rfl⟩
    · rcases keyIs_shape hb with ⟨j, u, rfl, e⟩ | ⟨y, u, rfl, e⟩
      · injection e with e1 _; rw [e1]
      · exact nomatch e
    · rcases keyIs_shape hb with ⟨j, u, rfl, e⟩ | ⟨y, u, rfl, e⟩
      · exact nomatch e
      · injection e with e1 _; rw [e1]
  byValue := fun k v h => by
    rcases keyIs_shape h with ⟨i, t, rfl, rfl⟩ | ⟨x, t, rfl, rfl⟩ <;> rfl
  pyHash := fun hv h => by
    rcases keyIs_shape hv with ⟨i, t, rfl, rfl⟩ | ⟨x, t, rfl, rfl⟩
    · exact wpAny_pyHash_int h
    · exact wpAny_pyHash_str h
  eqBool := fun hu hv h => by
    rcases keyIs_shape hu with ⟨i, t, rfl, rfl⟩ | ⟨x, t, rfl, rfl⟩
    · rcases keyIs_shape hv with ⟨j, u, rfl, rfl⟩ | ⟨y, u, rfl, rfl⟩
      · rw [key_ll] at h; exact wpAny_eqBool_int h
      · rw [key_lr] at h; exact SeqAt.EqAt.int_str i t y u _ _ _ _ h
    · rcases keyIs_shape hv with ⟨j, u, rfl, rfl⟩ | ⟨y, u, rfl, rfl⟩
      · rw [key_rl] at h; exact SeqAt.EqAt.str_int x t j u _ _ _ _ h
      · rw [key_rr] at h; exact wpAny_eqBool_str h
  «strs» := fun k x t v h => by
    rcases keyIs_shape h with ⟨i, u, rfl, e⟩ | ⟨y, u, rfl, e⟩
    · exact nomatch e
    · injection e with e1 _
      subst e1
      cases v <;> rfl
end L2
namespace L2
open PySem PySem.Spec PyProof.Rows
inductive V where
  | non | bl (b : Bool) | int (i : Int) | str (x : Str) | byt (b : Array UInt8) | flt (b : UInt64) | ref (a : Addr) | ty (n : String)
  deriving DecidableEq
noncomputable def RelV : V → Value → Prop
  | .non, u => u = Value.none
  | .bl b, u => u = Value.bool b
  | .int i, u => ∃ t, u = Value.int i t
  | .str x, u => ∃ t, u = Value.str x t
  | .byt b, u => ∃ t, u = Value.bytes b t
  | .flt b, u => ∃ t, u = Value.float b t
  | .ref a, u => u = Value.ref a
  | .ty n, u => u = Value.type n
noncomputable abbrev Vals : List V → List Value → Prop := Paired RelV
theorem Vals.length {xs : List V} {us : List Value} (r : Vals xs us) : xs.length = us.length := Paired.length r
theorem Vals.get : ∀ {xs : List V} {us : List Value} {i : Nat} {x : V}, Vals xs us → xs[i]? = some x → ∃ u, us[i]? = some u ∧ RelV x u
  | _, _, _, _, .nil, e => by simp at e
  | _, _, 0, _, .cons r _, e => by simp at e; subst e; exact ⟨_, rfl, r⟩
  | _, _, i + 1, x, .cons _ t, e => by
    obtain ⟨u, h1, h2⟩ := Vals.get (i := i) (x := x) t (by simpa using e)
    exact ⟨u, by simpa using h1, h2⟩
theorem Vals.set {x : V} {u : Value} (r : RelV x u) : ∀ {xs : List V} {us : List Value} (i : Nat), Vals xs us → Vals (xs.set i x) (us.set i u)
  | _, _, _, .nil => .nil
  | _, _, 0, .cons _ t => .cons r t
  | _, _, i + 1, .cons q t => .cons q (Vals.set r i t)
theorem Vals.append : ∀ {xs ys : List V} {us ws : List Value}, Vals xs us → Vals ys ws → Vals (xs ++ ys) (us ++ ws)
  | _, _, _, _, .nil, s => s
  | _, _, _, _, .cons r t, s => .cons r (Vals.append t s)
theorem Vals.take : ∀ {xs : List V} {us : List Value} (n : Nat), Vals xs us → Vals (xs.take n) (us.take n)
  | _, _, 0, _ => .nil
  | _, _, _ + 1, .nil => .nil
  | _, _, n + 1, .cons r t => .cons r (Vals.take n t)
theorem Vals.drop : ∀ {xs : List V} {us : List Value} (n : Nat), Vals xs us → Vals (xs.drop n) (us.drop n)
  | _, _, 0, r => r
  | _, _, _ + 1, .nil => .nil
  | _, _, n + 1, .cons _ t => Vals.drop n t
noncomputable def RelO : Option V → Option Value → Prop
  | some v, some u => RelV v u
  | none, none => True
  | _, _ => False
noncomputable def KV {κ : Type} : List (κ × V) → List (κ × Value) → Prop := Paired fun (p : κ × V) (q : κ × Value) => p.1 = q.1 ∧ RelV p.2 q.2
noncomputable def kV : Key → V
  | .inl i => .int i
  | .inr x => .str x
inductive HO where
  | lst (xs : List V)
  | tup (xs : List V)
  | dK (kvs : List (Key × V)) | dT (kvs : List (List Key × V))
  | set (S : Int → Bool) (n : Nat)
  | ins (C dx : Addr) (fs : List (Str × V))
  | own (x : Addr)
  | xd (fs : List (Str × V))
  | met (f x : Addr)
  | rng (lo hi : Int)
  | frz (o : Obj) (u : HO)
  | tbl (ps : Array Value)
  | ext (φ : Heap → Prop)
noncomputable abbrev Hp := Addr → Option HO
noncomputable def upd (H : Hp) (a : Addr) (o : HO) : Hp := fun b => if b = a then some o else H b
theorem upd_same {H : Hp} {a : Addr} {o : HO} : upd H a o a = some o := by unfold upd; rw [if_pos rfl]
theorem upd_ne {H : Hp} {a b : Addr} {o : HO} (h : b ≠ a) : upd H a o b = H b := by unfold upd; rw [if_neg h]
theorem ne_of_none {H : Hp} {a b : Addr} {o : HO} (h : H a = some o) (h' : H b = none) : a ≠ b := by
  intro e; subst e; rw [h] at h'; cases h'
section
variable (P : Program) (w : World)
noncomputable def ObjOk (H : Hp) (h : Heap) (a : Addr) : HO → Prop
  | .lst xs => xs.length ≤ sizeLine ∧ ∃ (its : List Value) (n : Nat), Vals xs its ∧ h.get? a = some { cls := .type "list", data := .seq its.toArray n }
  | .tup xs => xs.length ≤ sizeLine ∧ ∃ its : List Value, Vals xs its ∧ IsTup h a its.toArray
  | .dK kvs => kvs.length ≤ sizeLine ∧ (a == sysModules) = false ∧ ∃ vs, KV kvs vs ∧ h.DictOf (mixKind P w) a vs
  | .dT kvs => kvs.length ≤ sizeLine ∧ (a == sysModules) = false ∧ ∃ xs : List (List Key × Addr × Value),
      Paired (fun (p : List Key × V) (q : List Key × Addr × Value) => p.1 = q.1 ∧ H q.2.1 = some (.tup (p.1.map kV)) ∧ RelV p.2 q.2.2) kvs xs ∧
      ∃ o es ep, h.get? a = some o ∧ o.ExactDict ∧ o.data = .dict es ep ∧ es.toList = xs.map (entryOfKey (tupleKind (mixKind P w))) ∧ (xs.map (·.1)).Nodup
  | .set S n => h.SetOf (intKind P w) a S n
  | .ins C dx fs => H dx = some (.own a) ∧ fs.length ≤ 1000 ∧ dx ≠ a ∧ h.get? a = some (PySem.W.instObj C dx) ∧
      ∃ mA, h.Ns1 dx mA ∧ (∀ f, RelO (fs.lookup f) (mA f)) ∧ PySem.Within mA (fs.map (·.1))
  | .own _ => ∃ o, h.get? a = some o
  | .xd fs => ∃ mA, h.Ns1 a mA ∧ ∀ f, RelO (fs.lookup f) (mA f)
  | .rng lo hi => ∃ t u v, h.get? a = some { cls := .type "range", data := .fields #[.int lo t, .int hi u, .int 1 v] }
  | .frz o u => h.get? a = some o ∧ ObjOk H h a u
  | .tbl ps => h.get? a = some { cls := .none, data := .fields ps }
  | .met f x => h.get? a = some (PySem.W.methodObj (.ref f) (.ref x))
  | .ext φ => φ h ∧ (∃ o, h.get? a = some o) ∧ ∀ h1 h2 : Heap, φ h1 → (∀ o, h1.get? a = some o → h2.get? a = some o) → φ h2
noncomputable def HOk (H : Hp) (h : Heap) : Prop := ∀ a o, H a = some o → ObjOk P w H h a o
end
section
variable {P : Program} {w : World} {H H' : Hp} {h h' : Heap} {a : Addr} {o : HO}
theorem ObjOk.lt (x : ObjOk P w H h a o) : a < h.objs.size := by
  cases o with
  | lst xs => obtain ⟨_, _, _, _, e⟩ := x; exact Heap.lt_size e
  | tup xs => obtain ⟨_, _, _, p⟩ := x; exact p.lt
  | dK kvs => obtain ⟨_, _, _, _, o, _, _, e, _⟩ := x; exact Heap.lt_size e
  | dT kvs => obtain ⟨_, _, _, _, o, _, _, e, _⟩ := x; exact Heap.lt_size e
  | set S n => obtain ⟨o, _, _, _, e, _⟩ := x; exact Heap.lt_size e
  | ins C dx fs => obtain ⟨_, _, _, e, _⟩ := x; exact Heap.lt_size e
  | own y => obtain ⟨_, e⟩ := x; exact Heap.lt_size e
  | xd fs => obtain ⟨_, ⟨_, _, _, e, _⟩, _⟩ := x; exact Heap.lt_size e
  | rng lo hi => obtain ⟨_, _, _, e⟩ := x; exact Heap.lt_size e
  | frz ob u => obtain ⟨e, _⟩ := x; exact Heap.lt_size e
  | tbl ps => exact Heap.lt_size (show h.get? a = some _ from x)
  | met f y => exact Heap.lt_size (show h.get? a = some _ from x)
  | ext φ => obtain ⟨_, ⟨_, e⟩, _⟩ := x; exact Heap.lt_size e
theorem Paired.mapP {α β : Type} {F G : α → β → Prop} : ∀ {l₁ : List α} {l₂ : List β}, Paired F l₁ l₂ → (∀ a b, F a b → G a b) → Paired G l₁ l₂
  | _, _, .nil, _ => .nil
  | _, _, .cons r t, f => .cons (f _ _ r) (Paired.mapP t f)
theorem ObjOk.stay (x : ObjOk P w H h a o) (k : ∀ b u, (b = a ∨ H b = some (.own a)) → h.get? b = some u → h'.get? b = some u)
    (ho : ∀ b, H b = some (.own a) → H' b = some (.own a)) (ht : ∀ b xs, H b = some (.tup xs) → H' b = some (.tup xs)) : ObjOk P w H' h' a o := by
  induction o with
  | lst xs => obtain ⟨z, its, n, r, e⟩ := x; exact ⟨z, its, n, r, k _ _ (.inl rfl) e⟩
  | tup xs => obtain ⟨z, its, r, ob, e, c⟩ := x; exact ⟨z, its, r, ob, k _ _ (.inl rfl) e, c⟩
  | dK kvs => obtain ⟨z, y, vs, r, ob, es, ep, e, c⟩ := x; exact ⟨z, y, vs, r, ob, es, ep, k _ _ (.inl rfl) e, c⟩
  | dT kvs =>
    obtain ⟨z, y, xs, r, ob, es, ep, e, c⟩ := x
    exact ⟨z, y, xs, Paired.mapP r fun p q z => ⟨z.1, ht _ _ z.2.1, z.2.2⟩, ob, es, ep, k _ _ (.inl rfl) e, c⟩
  | set S n => obtain ⟨ob, es, ep, t, e, c⟩ := x; exact ⟨ob, es, ep, t, k _ _ (.inl rfl) e, c⟩
  | ins C dx fs =>
    obtain ⟨d, z, ne, e, mA, ⟨od, es, ep, e2, c⟩, r⟩ := x
    exact ⟨ho _ d, z, ne, k _ _ (.inl rfl) e, mA, ⟨od, es, ep, k _ _ (.inr d) e2, c⟩, r⟩
  | own y => obtain ⟨ob, e⟩ := x; exact ⟨ob, k _ _ (.inl rfl) e⟩
  | xd fs => obtain ⟨mA, ⟨od, es, ep, e, c⟩, r⟩ := x; exact ⟨mA, ⟨od, es, ep, k _ _ (.inl rfl) e, c⟩, r⟩
  | rng lo hi => obtain ⟨t, u, v, e⟩ := x; exact ⟨t, u, v, k _ _ (.inl rfl) e⟩
  | frz ob u ih => obtain ⟨e, q⟩ := x; exact ⟨k _ _ (.inl rfl) e, ih q⟩
  | tbl ps =>
    have e : h.get? a = some { cls := .none, data := .fields ps } := x
    show h'.get? a = some { cls := .none, data := .fields ps }
    exact k a _ (.inl rfl) e
  | met f y =>
    have e : h.get? a = some (PySem.W.methodObj (.ref f) (.ref y)) := x
    show h'.get? a = some (PySem.W.methodObj (.ref f) (.ref y))
    exact k a _ (.inl rfl) e
  | ext φ => obtain ⟨p, ⟨o, e⟩, st⟩ := x; exact ⟨st _ _ p fun o q => k _ _ (.inl rfl) q, ⟨o, k _ _ (.inl rfl) e⟩, st⟩
theorem HOk.lt (x : HOk P w H h) (e : H a = some o) : a < h.objs.size := (x a o e).lt
theorem HOk.fresh (x : HOk P w H h) (e : h.objs.size ≤ a) : H a = none := by
  cases q : H a with
  | none => rfl
  | some u => exact absurd (Nat.lt_of_lt_of_le (x.lt q) e) (Nat.lt_irrefl _)
theorem HOk.kept (x : HOk P w H h) (k : ∀ b u, h.get? b = some u → h'.get? b = some u) : HOk P w H h' := fun a o e =>
  (x a o e).stay (fun b u _ q => k b u q) (fun _ q => q) fun _ _ q => q
theorem HOk.laid (x : HOk P w H h) (k : ∀ b u, h.get? b = some u → h'.get? b = some u) (hp : h.objs.size ≤ a) (new : ObjOk P w (upd H a o) h' a o) : HOk P w (upd H a o) h' := fun b u e => by
  have hn := x.fresh hp
  by_cases hb : b = a
  · subst hb; rw [upd_same] at e; cases e; exact new
  · rw [upd_ne hb] at e
    exact (x b u e).stay (fun c v _ q => k c v q) (fun c q => by rw [upd_ne (ne_of_none q hn)]; exact q) fun c xs q => by rw [upd_ne (ne_of_none q hn)]; exact q
end
noncomputable def Rd (H : Hp) (a : Addr) (u : HO) : Prop := H a = some u ∨ ∃ o, H a = some (.frz o u)
theorem Rd.ok {P : Program} {w : World} {H : Hp} {h : Heap} {a : Addr} {u : HO} (r : Rd H a u) (x : HOk P w H h) : ObjOk P w H h a u := by
  rcases r with r | ⟨o, r⟩
  · exact x a u r
  · obtain ⟨_, q⟩ := x a _ r
    exact q
noncomputable def Mut : Option HO → Prop
  | some (.lst _) => True
  | some (.dK _) => True
  | some (.dT _) => True
  | some (.set _ _) => True
  | some (.ins _ _ _) => True
  | some (.ext _) => True
  | _ => False
section
variable {P : Program} {w : World} {H : Hp} {h h' : Heap} {x e : Addr} {o' : HO}
theorem HOk.write (ok : HOk P w H h) (mu : Mut (H x)) (he : e = x ∨ H e = some (.own x)) (k : ∀ b u, b ≠ e → h.get? b = some u → h'.get? b = some u) (heo : ∃ u, h'.get? e = some u)
    (new : ObjOk P w (upd H x o') h' x o') : HOk P w (upd H x o') h' := fun b u q => by
  have nown : ∀ c y, H c = some (.own y) → c ≠ x := fun c y r z => by subst z; rw [r] at mu; exact mu
  have ntup : ∀ c xs, H c = some (.tup xs) → c ≠ x := fun c xs r z => by subst z; rw [r] at mu; exact mu
  by_cases hb : b = x
  · subst hb; rw [upd_same] at q; cases q; exact new
  · rw [upd_ne hb] at q
    by_cases hbe : b = e
    · have q' : H b = some (.own x) := by
        rcases he with z | z
        · exact absurd (hbe.trans z) hb
        · rw [hbe]; exact z
      rw [q] at q'; cases q'
      obtain ⟨v, hv⟩ := heo
      exact ⟨v, by rw [hbe]; exact hv⟩
    · refine (ok b u q).stay (fun c v hc r => k c v ?_ r) (fun c r => by rw [upd_ne (nown c b r)]; exact r) fun c xs r => by rw [upd_ne (ntup c xs r)]; exact r
      rcases hc with rfl | hc
      · exact hbe
      · rintro rfl
        rcases he with z | z
        · exact nown c b hc z
        · rw [hc] at z; cases z; exact hb rfl
end
structure Un (fs ex : List Addr) (H H' : Hp) (h h' : Heap) : Prop where
  keep : ∀ b o, h.get? b = some o → H b = none → b ∉ fs → b ∉ ex → h'.get? b = some o
  slot : ∀ b o, h.get? b = some o → H b = none → b ∈ fs → b ∉ ex → ∃ sl, h'.get? b = some { o with slots := sl }
  free : ∀ b o, h.get? b = some o → H b = none → b ∉ ex → H' b = none
  there : ∀ b o, h.get? b = some o → b ∉ ex → ∃ o', h'.get? b = some o'
  tups : ∀ b xs, H b = some (.tup xs) → H' b = some (.tup xs)
  frzs : ∀ b o u, H b = some (.frz o u) → H' b = some (.frz o u)
  tbls : ∀ b ps, H b = some (.tbl ps) → ∃ more, H' b = some (.tbl (ps ++ more))
section
variable {fs fs' ex ex' : List Addr} {H H1 H2 : Hp} {h h1 h2 h' : Heap} {a x e : Addr} {o : HO}
theorem Un.any (u : Un fs ex H H1 h h1) {b : Addr} {ob : Obj} (q : h.get? b = some ob) (n : H b = none) (hx : b ∉ ex) : ∃ sl, h1.get? b = some { ob with slots := sl } := by
  by_cases hb : b ∈ fs
  · exact u.slot b ob q n hb hx
  · exact ⟨ob.slots, u.keep b ob q n hb hx⟩
theorem Un.kept (k : ∀ b u, h.get? b = some u → h'.get? b = some u) : Un fs ex H H h h' :=
  ⟨fun b ob q _ _ _ => k b ob q, fun b ob q _ _ _ => ⟨ob.slots, k b ob q⟩, fun _ _ _ n _ => n, fun b ob q _ => ⟨ob, k b ob q⟩, fun _ _ q => q, fun _ _ _ q => q, fun _ ps q => ⟨#[], by rw [q]; simp⟩⟩
theorem Un.refl : Un fs ex H H h h := Un.kept fun _ _ q => q
theorem Un.laid (k : ∀ b u, h.get? b = some u → h'.get? b = some u) (hp : h.objs.size ≤ a) (hn : H a = none) : Un fs ex H (upd H a o) h h' where
  keep := fun b u q _ _ _ => k b u q
  slot := fun b u q _ _ _ => ⟨u.slots, k b u q⟩
  free := fun b u q n _ => by rw [upd_ne (Nat.ne_of_lt (Nat.lt_of_lt_of_le (Heap.lt_size q) hp))]; exact n
  there := fun b u q _ => ⟨u, k b u q⟩
  tups := fun b xs q => by rw [upd_ne (ne_of_none q hn)]; exact q
  frzs := fun b u xs q => by rw [upd_ne (ne_of_none q hn)]; exact q
  tbls := fun b ps q => ⟨#[], by rw [upd_ne (ne_of_none q hn), q]; simp⟩
theorem Un.write (mu : Mut (H x)) (he : e = x ∨ H e = some (.own x)) (k : ∀ b u, b ≠ e → h.get? b = some u → h'.get? b = some u) (heo : ∃ u, h'.get? e = some u) : Un fs ex H (upd H x o) h h' := by
  have hx : ∀ b, H b = none → b ≠ x := fun b n z => by subst z; rw [n] at mu; exact mu
  have hb : ∀ b, H b = none → b ≠ e := fun b n z => by
    subst z
    rcases he with r | r
    · exact hx b n r
    · rw [n] at r; cases r
  have hm : ∀ b u, H b = some u → ¬ Mut (some u) → b ≠ x := fun b u q nm z => by subst z; rw [q] at mu; exact nm mu
  refine ⟨fun b u q n _ _ => k b u (hb b n) q, fun b u q n _ _ => ⟨u.slots, k b u (hb b n) q⟩, fun b u q n _ => by rw [upd_ne (hx b n)]; exact n, fun b u q _ => ?_,
    fun b xs q => by rw [upd_ne (hm b _ q fun z => z)]; exact q, fun b u xs q => by rw [upd_ne (hm b _ q fun z => z)]; exact q, fun b ps q => ⟨#[], by rw [upd_ne (hm b _ q fun z => z), q]; simp⟩⟩
  by_cases hbe : b = e
  · subst hbe; exact heo
  · exact ⟨u, k b u hbe q⟩
end
noncomputable def trk (h : Heap) (H : Hp) : List Addr := (List.range h.objs.size).filter fun a => (H a).isSome
noncomputable def hidT (h : Heap) (H : Hp) : Heap := PySem.W.hideAll h (trk h H)
theorem hidT_size (h : Heap) (H : Hp) : (hidT h H).objs.size = h.objs.size := PySem.W.hideAll_size _ _
theorem hidT_get {h : Heap} {H : Hp} {b : Addr} {o : Obj} (e : h.get? b = some o) (n : H b = none) : (hidT h H).get? b = some o :=
  PySem.W.hideAll_get _ e fun hm => by
    have q : (H b).isSome = true := (List.mem_filter.mp hm).2
    rw [n] at q; simp at q
theorem of_hidT {h : Heap} {H : Hp} {b : Addr} {o : Obj} (e : (hidT h H).get? b = some o) : h.get? b = some o ∧ H b = none := by
  have e' : h.get? b = some o := PySem.W.of_hideAll (trk h H) e
  refine ⟨e', ?_⟩
  cases q : H b with
  | none => rfl
  | some x =>
    have hm : b ∈ trk h H := List.mem_filter.mpr ⟨List.mem_range.mpr (Heap.lt_size e'), by simp [q]⟩
    have z : (hidT h H).get? b = none := PySem.W.hideAll_none (trk h H) hm
    rw [z] at e; cases e
end L2
namespace L2
open PySem PySem.Spec PyProof.Rows
structure Mod (K : PySem.W.Frag) (mg : Str → Option Value) (base : Heap) : Prop where
  kin : K.In base
  glob : base.Ns mainGlobals mg
  blt : ∃ mb, base.Ns builtinsNs mb ∧ ∀ x : Str, x ≠ "__name__" → mb x = bootBuiltins x
  nolimit : base.NoLimit
structure Cx where
  prog : Program
  w : World
  K : PySem.W.Frag
  mg : Str → Option Value
  base : Heap
  A : Around
  N : List Str
  s₀ : Shared
  H₀ : Hp
  env : Env
  outer : List Env
  stack : List Env
  ex : List Addr
  fn : Str → Bool
  calm : Bool
  pn : List (Addr × Obj)
  xe : Value → Shared → Prop
noncomputable def frs (l : List Env) : List Addr := l.filterMap (·.frame)
noncomputable abbrev Cx.fs (X : Cx) : List Addr := frs X.outer
noncomputable def Vis (sc : Scope) (x : Str) : Prop := sc.names.lookup x = some .local ∨ sc.names.lookup x = some .cell ∨ sc.names.lookup x = some .free
noncomputable def Loc (sc : Scope) (x : Str) : Prop := sc.names.lookup x = some .local ∨ sc.names.lookup x = some .cell
noncomputable def Look (env : Env) (h : Heap) (m : Str → Option Value) (x : Str) (u : Value) : Prop :=
  (env.kindOf x = some .local ∧ m x = some u) ∨ ((env.kindOf x = some .cell ∨ env.kindOf x = some .free) ∧ ∃ c, env.cells.lookup x = some c ∧ h.IsCell c (some u))
structure Cx.Ok (X : Cx) : Prop where
  mod : Mod X.K X.mg X.base
  kind : X.env.scope.kind = .function
  glob : X.env.globals = mainGlobals
  blt : X.env.builtins = builtinsNs
  above : X.s₀.heap.objs.size ≤ X.env.locals
  inj : ∀ x y c, X.env.cells.lookup x = some c → X.env.cells.lookup y = some c → x = y
  has : ∀ x, (X.env.kindOf x = some .cell ∨ X.env.kindOf x = some .free) → ∃ c, X.env.cells.lookup x = some c
  cab : ∀ x c, X.fn x = true → X.env.cells.lookup x = some c → X.s₀.heap.objs.size ≤ c
  hd : X.calm = true → X.A.handled = none
  frames : X.A.frames = some X.stack
  stk : X.stack = X.outer ∨ (X.stack = X.env :: X.outer ∧ X.env.frame = some X.env.locals)
  exf : ∀ b ∈ X.ex, b ≠ X.env.locals ∧ ∀ x c, X.env.cells.lookup x = some c → c ≠ b
  bs : ∀ b o, X.base.get? b = some o → X.s₀.heap.get? b = some o ∧ X.H₀ b = none
  bsz : X.base.objs.size ≤ X.s₀.heap.objs.size
  noex : ∀ b o, X.base.get? b = some o → b ∉ X.ex
  exfs : ∀ b ∈ X.ex, b ∉ X.fs
  funs : X.s₀.heap.FunFrames X.base X.outer
  frf : ∀ b ∈ X.fs, X.H₀ b = none
structure Inv (X : Cx) (pins : List (Addr × Obj)) (σ : List (Option V)) (H : Hp) (s : Shared) : Prop where
  ok : X.Ok
  os : s.os = X.s₀.os
  bare : AllBare s.gens
  base : Un X.fs X.ex X.H₀ H X.s₀.heap s.heap
  loc : ∃ m, s.heap.Ns X.env.locals m ∧ ∀ (i : Nat) (x : Str) (v : V), X.N[i]? = some x → σ[i]? = some (some v) → Vis X.env.scope x → ∃ u, RelV v u ∧ Look X.env s.heap m x u
  cell : ∀ x c, X.env.cells.lookup x = some c → ∃ v, s.heap.IsCell c v
  free : H X.env.locals = none
  freeC : ∀ x c, X.env.cells.lookup x = some c → H c = none
  pin : ∀ p ∈ X.pn ++ pins, s.heap.get? p.1 = some p.2 ∧ H p.1 = none ∧ p.1 ≠ X.env.locals ∧ p.1 ∉ X.fs ∧ ∀ v, p.2.data ≠ .cell v
  hok : HOk X.prog X.w H s.heap
  len : σ.length = X.N.length
section
variable {X : Cx} {pins : List (Addr × Obj)} {σ : List (Option V)} {H H' : Hp} {s : Shared} {h' : Heap}
theorem Cx.Ok.nofr (ok : X.Ok) {b : Addr} {o : Obj} (e : X.base.get? b = some o) : b ∉ X.fs := fun hb => by
  have := (ok.funs.mem hb).1
  rw [e] at this; cases this
theorem Inv.bs (I : Inv X pins σ H s) : ∀ b o, X.base.get? b = some o → s.heap.get? b = some o ∧ H b = none := fun b o e =>
  ⟨I.base.keep b o (I.ok.bs b o e).1 (I.ok.bs b o e).2 (I.ok.nofr e) (I.ok.noex b o e), I.base.free b o (I.ok.bs b o e).1 (I.ok.bs b o e).2 (I.ok.noex b o e)⟩
theorem Inv.bk (I : Inv X pins σ H s) : ∀ b o, X.base.get? b = some o → s.heap.get? b = some o := fun b o e => (I.bs b o e).1
theorem Inv.mod (I : Inv X pins σ H s) : Mod X.K X.mg X.base := I.ok.mod
theorem Inv.kIn (I : Inv X pins σ H s) : X.K.In s.heap := I.ok.mod.kin.keeps I.bk
theorem Inv.lt (I : Inv X pins σ H s) : X.env.locals < s.heap.objs.size := let ⟨_, hn, _⟩ := I.loc; hn.lt
theorem Inv.sz (I : Inv X pins σ H s) : X.s₀.heap.objs.size ≤ s.heap.objs.size := Nat.le_trans I.ok.above (Nat.le_of_lt I.lt)
theorem Inv.nofs (I : Inv X pins σ H s) {a : Addr} (h : s.heap.objs.size ≤ a) : a ∉ X.fs := fun hb => by
  obtain ⟨_, o, ho, _⟩ := I.ok.funs.mem hb
  exact absurd (Nat.lt_of_lt_of_le (Heap.lt_size ho) (Nat.le_trans I.sz h)) (Nat.lt_irrefl _)
theorem Inv.cne (I : Inv X pins σ H s) : ∀ x c, X.env.cells.lookup x = some c → c ≠ X.env.locals := fun x c e z => by
  obtain ⟨v, o, ho, hd⟩ := I.cell x c e
  obtain ⟨m, ⟨o', es, ep, ho', hd', _⟩, _⟩ := I.loc
  rw [z, ho'] at ho; cases ho; rw [hd'] at hd; cases hd
theorem Inv.funs (I : Inv X pins σ H s) : s.heap.FunFrames X.base X.outer := by
  have all : ∀ (l : List Env), (∀ b ∈ frs l, b ∈ X.fs) → X.s₀.heap.FunFrames X.base l → s.heap.FunFrames X.base l := by
    intro l
    induction l with
    | nil => intro _ _; trivial
    | cons env r ih =>
      intro hs hl
      obtain ⟨hk, ⟨L, o, hf, hn, ho, hd⟩, hr⟩ := hl
      have hL : L ∈ X.fs := hs L (by unfold frs; rw [List.filterMap_cons, hf]; exact List.mem_cons_self)
      obtain ⟨sl, e⟩ := I.base.slot L o ho (I.ok.frf L hL) hL fun z => I.ok.exfs L z hL
      exact ⟨hk, ⟨L, _, hf, hn, e, hd⟩, ih (fun b hb => hs b (by unfold frs; rw [List.filterMap_cons, hf]; exact List.mem_cons_of_mem _ hb)) hr⟩
  exact all X.outer (fun _ hb => hb) I.ok.funs
theorem Inv.stack (I : Inv X pins σ H s) : s.heap.FunFrames X.base X.stack := by
  rcases I.ok.stk with e | ⟨e, hf⟩
  · rw [e]; exact I.funs
  · rw [e]
    obtain ⟨m, hn, _⟩ := I.loc
    refine .cons (by rw [I.ok.kind]; decide) hf hn ?_ I.funs
    exact Heap.get?_none_of_le (Nat.le_trans I.ok.bsz I.ok.above)
theorem Inv.stkSub (I : Inv X pins σ H s) : ∀ b ∈ frs X.stack, b ∈ X.env.locals :: X.fs := fun b hb => by
  rcases I.ok.stk with e | ⟨e, hf⟩
  · rw [e] at hb; exact List.mem_cons_of_mem _ hb
  · rw [e] at hb
    unfold frs at hb
    rw [List.filterMap_cons, hf] at hb
    exact hb
theorem Inv.stkFree (I : Inv X pins σ H s) : ∀ b ∈ frs X.stack, H b = none := fun b hb => by
  rcases List.mem_cons.mp (I.stkSub b hb) with e | hb
  · rw [e]; exact I.free
  · obtain ⟨_, o, ho, _⟩ := I.ok.funs.mem hb
    exact I.base.free b o ho (I.ok.frf b hb) fun z => I.ok.exfs b z hb
theorem Inv.step {g' : Array GenState} {t' : Nat} {d' : Drawn} {ch : List Addr} (I : Inv X pins σ H s)
    (hch : ∀ b ∈ ch, (b ∈ X.ex ∨ X.s₀.heap.objs.size ≤ b) ∧ b ≠ X.env.locals ∧ (∀ x c, X.env.cells.lookup x = some c → c ≠ b) ∧ ∀ p ∈ X.pn ++ pins, p.1 ≠ b)
    (keep : ∀ b o, b ≠ X.env.locals → b ∉ X.fs → b ∉ ch → s.heap.get? b = some o → H b = none → h'.get? b = some o)
    (slot : ∀ b o, b ≠ X.env.locals → b ∈ X.fs → b ∉ ch → s.heap.get? b = some o → H b = none → ∃ sl, h'.get? b = some { o with slots := sl }) (free : ∀ b o, b ∉ ch → s.heap.get? b = some o → H b = none → H' b = none)
    (there : ∀ b o, b ∉ ch → s.heap.get? b = some o → ∃ o', h'.get? b = some o')
    (tups : ∀ b xs, H b = some (.tup xs) → H' b = some (.tup xs)) (frzs : ∀ b o u, H b = some (.frz o u) → H' b = some (.frz o u)) (tbls : ∀ b ps, H b = some (.tbl ps) → ∃ more, H' b = some (.tbl (ps ++ more)))
    (ns : ∀ m, s.heap.Ns X.env.locals m → h'.Ns X.env.locals m) (hok : HOk X.prog X.w H' h') (hg : AllBare g') :
    Inv X pins σ H' { s with heap := h', gens := g', drawn := d', toks := t' } := by
  have neL : ∀ b o, X.s₀.heap.get? b = some o → b ≠ X.env.locals := fun b o e => Nat.ne_of_lt (Nat.lt_of_lt_of_le (Heap.lt_size e) I.ok.above)
  have neC : ∀ b o, X.s₀.heap.get? b = some o → b ∉ X.ex → b ∉ ch := fun b o e hx hb => by
    rcases (hch b hb).1 with z | z
    · exact hx z
    · exact absurd (Nat.lt_of_lt_of_le (Heap.lt_size e) z) (Nat.lt_irrefl _)
  have cellK : ∀ x c, X.env.cells.lookup x = some c → ∀ v, s.heap.IsCell c v → h'.IsCell c v := fun x c e v ⟨o, ho, hd⟩ => by
    have nch : c ∉ ch := fun z => (hch c z).2.2.1 x c e rfl
    by_cases hc : c ∈ X.fs
    · obtain ⟨sl, q⟩ := slot c o (I.cne x c e) hc nch ho (I.freeC x c e)
      exact ⟨_, q, hd⟩
    · exact ⟨o, keep c o (I.cne x c e) hc nch ho (I.freeC x c e), hd⟩
  refine ⟨I.ok, I.os, hg, ⟨fun b o e n hb hx => ?_, fun b o e n hb hx => ?_, fun b o e n hx => ?_, fun b o e hx => ?_, fun b xs e => tups b xs (I.base.tups b xs e), fun b o xs e => frzs b o xs (I.base.frzs b o xs e), fun b ps e => ?_⟩, ?_, fun x c e => ?_, ?_, fun x c e => ?_, fun p hp => ?_, hok, I.len⟩
  · exact keep b o (neL b o e) hb (neC b o e hx) (I.base.keep b o e n hb hx) (I.base.free b o e n hx)
  · obtain ⟨sl, e1⟩ := I.base.slot b o e n hb hx
    obtain ⟨sl', e2⟩ := slot b _ (neL b o e) hb (neC b o e hx) e1 (I.base.free b o e n hx)
    exact ⟨sl', e2⟩
  · obtain ⟨o', e1⟩ := I.base.there b o e hx
    exact free b o' (neC b o e hx) e1 (I.base.free b o e n hx)
  · obtain ⟨o', e1⟩ := I.base.there b o e hx
    exact there b o' (neC b o e hx) e1
  · obtain ⟨m1, e1⟩ := I.base.tbls b ps e
    obtain ⟨m2, e2⟩ := tbls b _ e1
    exact ⟨m1 ++ m2, by rw [e2, Array.append_assoc]⟩
  · obtain ⟨m, hn, hl⟩ := I.loc
    refine ⟨m, ns m hn, fun i x v e1 e2 e3 => ?_⟩
    obtain ⟨u, r, l⟩ := hl i x v e1 e2 e3
    refine ⟨u, r, ?_⟩
    rcases l with l | ⟨k, c, e, z⟩
    · exact .inl l
    · exact .inr ⟨k, c, e, cellK x c e _ z⟩
  · obtain ⟨v, z⟩ := I.cell x c e
    exact ⟨v, cellK x c e v z⟩
  · obtain ⟨m, ⟨o, _, _, ho, _⟩, _⟩ := I.loc
    exact free _ o (fun z => (hch _ z).2.1 rfl) ho I.free
  · obtain ⟨v, o, ho, hd⟩ := I.cell x c e
    exact free c o (fun z => (hch c z).2.2.1 x c e rfl) ho (I.freeC x c e)
  · obtain ⟨e, n, ne, nf, d⟩ := I.pin p hp
    have nch : p.1 ∉ ch := fun z => (hch p.1 z).2.2.2 p hp rfl
    exact ⟨keep p.1 p.2 ne nf nch e n, free p.1 p.2 nch e n, ne, nf, d⟩
theorem Inv.un {t' : Nat} (I : Inv X pins σ H s) (u : Un X.fs [] H H' s.heap h') (hok : HOk X.prog X.w H' h') : Inv X pins σ H' { s with heap := h', toks := t' } := by
  obtain ⟨m, ⟨o, es, ep, ho, r⟩, _⟩ := id I.loc
  obtain ⟨sl, hL⟩ := u.any ho I.free (by simp)
  exact I.step (g' := s.gens) (d' := s.drawn) (ch := []) (fun _ z => nomatch z) (fun b o _ hb _ e n => u.keep b o e n hb (by simp)) (fun b o _ hb _ e n => u.slot b o e n hb (by simp)) (fun b o _ e n => u.free b o e n (by simp)) (fun b o _ e => u.there b o e (by simp)) u.tups u.frzs u.tbls (fun m' hm => by
    obtain ⟨o', es', ep', ho', r'⟩ := hm
    rw [ho] at ho'; cases ho'
    exact ⟨_, es', ep', hL, r'⟩) hok I.bare
theorem Inv.call {g' : Array GenState} {t' : Nat} {d' : Drawn} {ch : List Addr} (I : Inv X pins σ H s) (u : Un (frs X.stack) ch H H' s.heap h') (hok : HOk X.prog X.w H' h') (hg : AllBare g')
    (hch : ∀ b ∈ ch, (b ∈ X.ex ∨ X.s₀.heap.objs.size ≤ b) ∧ b ≠ X.env.locals ∧ (∀ x c, X.env.cells.lookup x = some c → c ≠ b) ∧ ∀ p ∈ X.pn ++ pins, p.1 ≠ b) :
    Inv X pins σ H' { s with heap := h', gens := g', drawn := d', toks := t' } := by
  obtain ⟨m, ⟨o, es, ep, ho, r⟩, _⟩ := id I.loc
  obtain ⟨sl, hL⟩ := u.any ho I.free fun z => (hch _ z).2.1 rfl
  exact I.step (ch := ch) hch (fun b o hL hb hc e n => u.keep b o e n (fun z => (List.mem_cons.mp (I.stkSub b z)).elim hL hb) hc) (fun b o _ _ hc e n => u.any e n hc) (fun b o hc e n => u.free b o e n hc) (fun b o hc e => u.there b o e hc) u.tups u.frzs u.tbls (fun m' hm => by
    obtain ⟨o', es', ep', ho', r'⟩ := hm
    rw [ho] at ho'; cases ho'
    exact ⟨_, es', ep', hL, r'⟩) hok hg
theorem Inv.turned {t' : Nat} {it : Addr} (I : Inv X pins σ H s) (k : ∀ b o, b ≠ it → s.heap.get? b = some o → h'.get? b = some o) (hn : H it = none) (hL : it ≠ X.env.locals)
    (h1 : it ∈ X.ex ∨ X.s₀.heap.objs.size ≤ it) (h2 : ∀ x c, X.env.cells.lookup x = some c → c ≠ it) (h3 : ∀ p ∈ X.pn ++ pins, p.1 ≠ it) : Inv X pins σ H { s with heap := h', toks := t' } := by
  have nit : ∀ b u, H b = some u → b ≠ it := fun b u e z => by rw [z, hn] at e; cases e
  refine I.step (g' := s.gens) (d' := s.drawn) (ch := [it]) (fun b hb => ?_) (fun b o _ _ hc e _ => k b o (fun z => hc (by simp [z])) e) (fun b o _ _ hc e _ => ⟨o.slots, k b o (fun z => hc (by simp [z])) e⟩) (fun _ _ _ _ n => n)
    (fun b o hc e => ⟨o, k b o (fun z => hc (by simp [z])) e⟩) (fun _ _ e => e) (fun _ _ _ e => e) (fun b ps e => ⟨#[], by rw [e]; simp⟩) (fun m hm => ?_) (fun b u e => ?_) I.bare
  · have e : b = it := by simpa using hb
    subst e
    exact ⟨h1, hL, h2, h3⟩
  · obtain ⟨o, es, ep, ho, r⟩ := hm
    exact ⟨o, es, ep, k _ o (Ne.symm hL) ho, r⟩
  · refine (I.hok b u e).stay (fun c v hc q => k c v ?_ q) (fun _ q => q) fun _ _ q => q
    rcases hc with z | z
    · rw [z]; exact nit b u e
    · exact nit c _ z
theorem Inv.tok (I : Inv X pins σ H s) (t : Nat) : Inv X pins σ H { s with toks := t } := I.un (h' := s.heap) (t' := t) Un.refl I.hok
theorem Inv.kept {t' : Nat} (I : Inv X pins σ H s) (k : ∀ b u, s.heap.get? b = some u → h'.get? b = some u) : Inv X pins σ H { s with heap := h', toks := t' } := I.un (Un.kept k) (I.hok.kept k)
theorem Inv.laid {a : Addr} {o : HO} {t' : Nat} (I : Inv X pins σ H s) (k : ∀ b u, s.heap.get? b = some u → h'.get? b = some u) (hp : s.heap.objs.size ≤ a) (new : ObjOk X.prog X.w (upd H a o) h' a o) :
    Inv X pins σ (upd H a o) { s with heap := h', toks := t' } := I.un (Un.laid k hp (I.hok.fresh hp)) (I.hok.laid k hp new)
theorem Inv.write {x e : Addr} {o : HO} {t' : Nat} (I : Inv X pins σ H s) (mu : Mut (H x)) (he : e = x ∨ H e = some (.own x)) (k : ∀ b u, b ≠ e → s.heap.get? b = some u → h'.get? b = some u) (heo : ∃ u, h'.get? e = some u)
    (new : ObjOk X.prog X.w (upd H x o) h' x o) : Inv X pins σ (upd H x o) { s with heap := h', toks := t' } := I.un (Un.write mu he k heo) (I.hok.write mu he k heo new)
theorem Inv.pins_of {pins' : List (Addr × Obj)} (I : Inv X pins σ H s) (h : ∀ p ∈ pins', s.heap.get? p.1 = some p.2 ∧ H p.1 = none ∧ p.1 ≠ X.env.locals ∧ p.1 ∉ X.fs ∧ ∀ v, p.2.data ≠ .cell v) : Inv X pins' σ H s :=
  ⟨I.ok, I.os, I.bare, I.base, I.loc, I.cell, I.free, I.freeC, fun p hp => (List.mem_append.mp hp).elim (fun z => I.pin p (List.mem_append_left _ z)) (h p), I.hok, I.len⟩
theorem nodup_ix {N : List Str} (hN : N.Nodup) {i j : Nat} {x : Str} (a : N[i]? = some x) (b : N[j]? = some x) : i = j := by
  obtain ⟨h1, e1⟩ := List.getElem?_eq_some_iff.mp a
  obtain ⟨h2, e2⟩ := List.getElem?_eq_some_iff.mp b
  exact (List.getElem_inj hN).mp (e1.trans e2.symm)
theorem store_ok2 {M : Model} {A : Around} {E : Value → Shared → Prop} {i : Nat} {x : Str} {v : V} {u : Value} {Q : Unit → Shared → Prop} (I : Inv X pins σ H s) (hN : X.N.Nodup) (hi : X.N[i]? = some x) (hx : Loc X.env.scope x) (r : RelV v u)
    (h : ∀ s', Inv X pins (σ.set i (some v)) H s' → (∃ a, Heap.SameBut a s.heap s'.heap ∧ (a = X.env.locals ∨ X.env.cells.lookup x = some a)) → Q () s') (hf : X.fn x = true ∨ X.env.scope.names.lookup x = some .local := by first | exact .inl rfl | exact .inr rfl | assumption) : wpAny M A (storeName X.env x u) Q E s := by
  obtain ⟨m, hn, hl⟩ := id I.loc
  have hcls : (X.env.scope.kind == .class || (X.env.scope.kind == .module && X.env.locals != X.env.globals)) = false := by rw [I.ok.kind]; rfl
  have hiσ : i < σ.length := by rw [I.len]; exact (List.getElem?_eq_some_iff.mp hi).1
  have cne := I.cne
  have tracked : ∀ {a : Addr} {h' : Heap}, (∃ o, s.heap.get? a = some o ∧ H a = none) → Heap.SameBut a s.heap h' → HOk X.prog X.w H h' := fun {a h'} ha hs b ob e => by
    obtain ⟨_, _, hfree⟩ := ha
    refine (I.hok b ob e).stay (fun c w' hc q => (hs.2 c ?_).trans q) (fun _ q => q) fun _ _ q => q
    rintro rfl
    rcases hc with rfl | hc
    · rw [hfree] at e; cases e
    · rw [hfree] at hc; cases hc
  rcases hx with hk | hk
  · refine wpAny_storeName_local hk hn (fun h' hn' hs => ?_) hcls
    obtain ⟨oL, _, _, hoL, _⟩ := id hn
    refine h _ ⟨I.ok, I.os, I.bare, ⟨fun b o e n hb hx => ?_, fun b o e n hb hx => ?_, I.base.free, fun b o e hx => ?_, I.base.tups, I.base.frzs, I.base.tbls⟩, ⟨_, hn', fun j y v' e1 e2 e3 => ?_⟩, fun y c e => ?_, I.free, I.freeC, fun p hp => ?_, tracked ⟨oL, hoL, I.free⟩ hs, by simpa using I.len⟩ ⟨_, hs, .inl rfl⟩
    · exact (hs.2 b (Nat.ne_of_lt (Nat.lt_of_lt_of_le (Heap.lt_size e) I.ok.above))).trans (I.base.keep b o e n hb hx)
    · obtain ⟨sl, e1⟩ := I.base.slot b o e n hb hx
      exact ⟨sl, (hs.2 b (Nat.ne_of_lt (Nat.lt_of_lt_of_le (Heap.lt_size e) I.ok.above))).trans e1⟩
    · obtain ⟨o', e1⟩ := I.base.there b o e hx
      exact ⟨o', (hs.2 b (Nat.ne_of_lt (Nat.lt_of_lt_of_le (Heap.lt_size e) I.ok.above))).trans e1⟩
    · by_cases hj : j = i
      · subst hj
        rw [hi] at e1; cases e1
        rw [List.getElem?_set_self hiσ] at e2
        cases e2
        exact ⟨u, r, .inl ⟨hk, by simp⟩⟩
      · rw [List.getElem?_set_ne (Ne.symm hj)] at e2
        obtain ⟨u', r', q⟩ := hl j y v' e1 e2 e3
        refine ⟨u', r', ?_⟩
        rcases q with ⟨k, e⟩ | ⟨k, c, e, z⟩
        · refine .inl ⟨k, ?_⟩
          have : y ≠ x := fun e => hj (nodup_ix hN e1 (e ▸ hi))
          simp [this, e]
        · exact .inr ⟨k, c, e, z.sameBut hs (cne y c e)⟩
    · obtain ⟨w', z⟩ := I.cell y c e
      exact ⟨w', z.sameBut hs (cne y c e)⟩
    · obtain ⟨e, n, ne, nf, d⟩ := I.pin p hp
      exact ⟨(hs.2 p.1 ne).trans e, n, ne, nf, d⟩
  · have hfn : X.fn x = true := by
      rcases hf with z | z
      · exact z
      · rw [z] at hk; cases hk
    obtain ⟨c, hc⟩ := I.ok.has x (.inl hk)
    obtain ⟨w', z⟩ := I.cell x c hc
    refine wpAny_storeName_cell I.ok.kind hk hc z (fun h' hc' hs => ?_)
    obtain ⟨oc, hoc, hocd⟩ := id z
    refine h { s with heap := h' } ⟨I.ok, I.os, I.bare, ⟨fun b o e n hb hx => ?_, fun b o e n hb hx => ?_, I.base.free, fun b o e hx => ?_, I.base.tups, I.base.frzs, I.base.tbls⟩, ⟨m, hn.sameBut hs (Ne.symm (cne x c hc)), fun j y v' e1 e2 e3 => ?_⟩, fun y c' e => ?_, I.free, I.freeC, fun p hp => ?_, tracked ⟨oc, hoc, I.freeC x c hc⟩ hs, by simpa using I.len⟩ ⟨c, hs, .inr hc⟩
    · exact (hs.2 b (Nat.ne_of_lt (Nat.lt_of_lt_of_le (Heap.lt_size e) (I.ok.cab x c hfn hc)))).trans (I.base.keep b o e n hb hx)
    · obtain ⟨sl, e1⟩ := I.base.slot b o e n hb hx
      exact ⟨sl, (hs.2 b (Nat.ne_of_lt (Nat.lt_of_lt_of_le (Heap.lt_size e) (I.ok.cab x c hfn hc)))).trans e1⟩
    · obtain ⟨o', e1⟩ := I.base.there b o e hx
      exact ⟨o', (hs.2 b (Nat.ne_of_lt (Nat.lt_of_lt_of_le (Heap.lt_size e) (I.ok.cab x c hfn hc)))).trans e1⟩
    · by_cases hj : j = i
      · subst hj
        rw [hi] at e1; cases e1
        rw [List.getElem?_set_self hiσ] at e2
        cases e2
        exact ⟨u, r, .inr ⟨.inl hk, c, hc, hc'⟩⟩
      · rw [List.getElem?_set_ne (Ne.symm hj)] at e2
        obtain ⟨u', r', q⟩ := hl j y v' e1 e2 e3
        refine ⟨u', r', ?_⟩
        rcases q with q | ⟨k, c', e, z'⟩
        · exact .inl q
        · refine .inr ⟨k, c', e, z'.sameBut hs ?_⟩
          rintro rfl
          exact hj (nodup_ix hN e1 (I.ok.inj _ _ _ e hc ▸ hi))
    · by_cases hcc : c' = c
      · subst hcc; exact ⟨_, hc'⟩
      · obtain ⟨w2, z2⟩ := I.cell y c' e
        exact ⟨w2, z2.sameBut hs hcc⟩
    · obtain ⟨e, n, ne, nf, d⟩ := I.pin p hp
      refine ⟨(hs.2 p.1 ?_).trans e, n, ne, nf, d⟩
      intro q
      rw [q, hoc] at e
      have q' : oc = p.2 := Option.some.inj e
      exact d w' (by rw [← q']; exact hocd)
theorem store_ok {M : Model} {A : Around} {E : Value → Shared → Prop} {i : Nat} {x : Str} {v : V} {u : Value} {Q : Unit → Shared → Prop} (I : Inv X pins σ H s) (hN : X.N.Nodup) (hi : X.N[i]? = some x) (hx : Loc X.env.scope x) (r : RelV v u)
    (h : ∀ s', Inv X pins (σ.set i (some v)) H s' → Q () s') (hf : X.fn x = true ∨ X.env.scope.names.lookup x = some .local := by first | exact .inl rfl | exact .inr rfl | assumption) : wpAny M A (storeName X.env x u) Q E s :=
  store_ok2 I hN hi hx r (fun s' I' _ => h s' I') hf
theorem Inv.call' {s' : Shared} {ch : List Addr} (I : Inv X pins σ H s) (ho : s'.os = s.os) (u : Un (frs X.stack) ch H H' s.heap s'.heap) (hok : HOk X.prog X.w H' s'.heap) (hg : AllBare s'.gens)
    (hch : ∀ b ∈ ch, (b ∈ X.ex ∨ X.s₀.heap.objs.size ≤ b) ∧ b ≠ X.env.locals ∧ (∀ x c, X.env.cells.lookup x = some c → c ≠ b) ∧ ∀ p ∈ X.pn ++ pins, p.1 ≠ b) : Inv X pins σ H' s' := by
  obtain ⟨h', g', d', t', o'⟩ := s'
  have e : o' = s.os := ho
  subst e
  exact I.call (g' := g') (t' := t') (d' := d') u hok hg hch
end
noncomputable abbrev XK := Value → Option Addr → Hp → Prop
noncomputable abbrev St := List (Option V)
noncomputable abbrev VK := V → Hp → Prop
noncomputable abbrev TE := St → Hp → VK → Prop
noncomputable abbrev TT := St → Hp → (Bool → Hp → Prop) → Prop
noncomputable abbrev TA := St → Hp → (List V → Hp → Prop) → Prop
structure Ends where
  nx : St → Hp → Prop
  rt : VK
  bk : St → Hp → Prop := fun _ _ => False
  ct : St → Hp → Prop := fun _ _ => False
noncomputable abbrev TS := Ends → St → Hp → Prop
noncomputable def EP (X : Cx) (pins : List (Addr × Obj)) (σ : St) (Q : VK) (u : Value) (s' : Shared) : Prop := ∃ v H', Inv X pins σ H' s' ∧ RelV v u ∧ Q v H'
noncomputable def TP (X : Cx) (pins : List (Addr × Obj)) (σ : St) (Q : Bool → Hp → Prop) (b : Bool) (s' : Shared) : Prop := ∃ H', Inv X pins σ H' s' ∧ Q b H'
noncomputable def AP (X : Cx) (pins : List (Addr × Obj)) (σ : St) (Q : List V → Hp → Prop) (us : List Value) (s' : Shared) : Prop := ∃ vs H', Inv X pins σ H' s' ∧ Vals vs us ∧ Q vs H'
noncomputable def SP (X : Cx) (pins : List (Addr × Obj)) (D : Ends) (f : Flow) (s' : Shared) : Prop :=
  match f with
  | .next => ∃ σ' H', Inv X pins σ' H' s' ∧ D.nx σ' H'
  | .brk => ∃ σ' H', Inv X pins σ' H' s' ∧ D.bk σ' H'
  | .cont => ∃ σ' H', Inv X pins σ' H' s' ∧ D.ct σ' H'
  | .ret u => ∃ v σ' H', Inv X pins σ' H' s' ∧ RelV v u ∧ D.rt v H'
noncomputable def PE (X : Cx) (e : Expr) (t : TE) : Prop :=
  ∀ (pins : List (Addr × Obj)) (s : Shared) (σ : St) (H : Hp) (Q : VK), Inv X pins σ H s → t σ H Q → wpAny (model X.prog X.w) X.A (eval e X.env) (EP X pins σ Q) X.xe s
noncomputable def PT (X : Cx) (e : Expr) (t : TT) : Prop :=
  ∀ (pins : List (Addr × Obj)) (s : Shared) (σ : St) (H : Hp) (Q : Bool → Hp → Prop), Inv X pins σ H s → t σ H Q → wpAny (model X.prog X.w) X.A (isTrue e X.env (eval e X.env)) (TP X pins σ Q) X.xe s
noncomputable def PW (X : Cx) (e : Expr) (t : TT) : Prop :=
  ∀ (whole : Sem Value) (pins : List (Addr × Obj)) (s : Shared) (σ : St) (H : Hp) (Q : Bool → Hp → Prop), Inv X pins σ H s → t σ H Q → wpAny (model X.prog X.w) X.A (isTrue e X.env whole) (TP X pins σ Q) X.xe s
theorem PW.pt {X : Cx} {e : Expr} {t : TT} (h : PW X e t) : PT X e t := h _
noncomputable def PA (X : Cx) (es : List Expr) (t : TA) : Prop :=
  ∀ (pos : Pos) (pins : List (Addr × Obj)) (s : Shared) (σ : St) (H : Hp) (Q : List V → Hp → Prop), Inv X pins σ H s → t σ H Q → wpAny (model X.prog X.w) X.A (spliced (backTo pos (starEach es X.env))) (AP X pins σ Q) X.xe s
noncomputable def PS (X : Cx) (st : Stmt) (t : TS) : Prop :=
  ∀ (pins : List (Addr × Obj)) (s : Shared) (σ : St) (H : Hp) (D : Ends), Inv X pins σ H s → t D σ H → wpAny (model X.prog X.w) X.A (exec st X.env) (SP X pins D) X.xe s
noncomputable def PSs (X : Cx) (st : List Stmt) (t : TS) : Prop :=
  ∀ (pins : List (Addr × Obj)) (s : Shared) (σ : St) (H : Hp) (D : Ends), Inv X pins σ H s → t D σ H → wpAny (model X.prog X.w) X.A (execs st X.env) (SP X pins D) X.xe s
theorem thn {α : Type} {t : Sem α} {Q Q' : α → Shared → Prop} {M : Model} {A : Around} {E : Value → Shared → Prop} {s : Shared} (h : wpAny M A t Q E s) (hQ : ∀ a s, Q a s → Q' a s) : wpAny M A t Q' E s := wpAny_mono h hQ fun _ _ x => x
end L2
namespace L2
open PySem PySem.Spec PyProof.Rows
section
variable {X : Cx}
noncomputable def tVar (i : Nat) : TE := fun σ H Q => ∃ v, σ[i]? = some (some v) ∧ Q v H
noncomputable def tC (v : V) : TE := fun _ H Q => Q v H
theorem pe_var {i : Nat} {x : Str} {pos : Pos} (hN : X.N[i]? = some x) (hv : Vis X.env.scope x) (hd : (x == ("__debug__" : Str)) = false := by decide) (hcd : (x == ("__classdict__" : Str)) = false := by decide) : PE X (.Name x pos) (tVar i) := by
  intro pins s σ H Q I h
  obtain ⟨v, e, h⟩ := h
  obtain ⟨m, hn, hl⟩ := I.loc
  obtain ⟨u, r, l⟩ := hl i x v hN e hv
  have fin : EP X pins σ Q u s := ⟨v, H, I, r, h⟩
  rcases l with ⟨hk, hm⟩ | ⟨hk, c, hc, hcell⟩
  · exact wpAny_Name (wpAny_loadName_local I.ok.kind hk hn hm fin) hd
  · rcases hk with hk | hk
    · exact wpAny_Name (wpAny_loadName_cell I.ok.kind hk hc hcell fin) hd
    · exact wpAny_Name (wpAny_loadName_free I.ok.kind hk hc hcell fin hcd) hd
theorem pe_int {i j pos} : PE X (.Constant (.int i) j pos) (tC (.int i)) := fun _ _ _ H _ I h => wpAny_Constant_int ⟨.int i, H, I.tok _, ⟨_, rfl⟩, h⟩
theorem pe_bl {b j pos} : PE X (.Constant (.bool b) j pos) (tC (.bl b)) := fun _ _ _ H _ I h => Constant_bool ⟨.bl b, H, I, rfl, h⟩
theorem pe_non {j pos} : PE X (.Constant .none j pos) (tC .non) := fun _ _ _ H _ I h => Constant_none ⟨.non, H, I, rfl, h⟩
theorem pe_str {x j pos} : PE X (.Constant (.str x) j pos) (tC (.str x)) := fun _ _ _ H _ I h => Calls.Constant_str ⟨.str x, H, I.tok _, ⟨_, rfl⟩, h⟩
noncomputable def Gl (X : Cx) (x : Str) : Prop := X.env.kindOf x = some .globalImplicit
theorem ld_glob {E : Value → Shared → Prop} {pins : List (Addr × Obj)} {s : Shared} {σ : St} {H : Hp} {x : Str} {u : Value} {pos : Pos} {Q : Value → Shared → Prop} (I : Inv X pins σ H s) (hg : Gl X x) (hm : X.mg x = some u) (h : Q u s)
    (hd : (x == ("__debug__" : Str)) = false := by decide) : wpAny (model X.prog X.w) X.A (eval (.Name x pos) X.env) Q E s :=
  Calls.Name_function_global I.ok.kind hg (Calls.loadGlobal_global (by rw [I.ok.glob]; exact I.mod.glob.keeps I.bk) hm h) hd
theorem ld_blt {E : Value → Shared → Prop} {pins : List (Addr × Obj)} {s : Shared} {σ : St} {H : Hp} {x : Str} {u : Value} {pos : Pos} {Q : Value → Shared → Prop} (I : Inv X pins σ H s) (hg : Gl X x) (hm : X.mg x = none) (hv : bootBuiltins x = some u) (h : Q u s)
    (hn : x ≠ "__name__" := by decide) (hd : (x == ("__debug__" : Str)) = false := by decide) : wpAny (model X.prog X.w) X.A (eval (.Name x pos) X.env) Q E s := by
  obtain ⟨mb, h1, h2⟩ := I.mod.blt
  exact Calls.Name_function_global I.ok.kind hg (Calls.loadGlobal_builtin (by rw [I.ok.glob]; exact I.mod.glob.keeps I.bk) hm (by rw [I.ok.blt]; exact h1.keeps I.bk) ((h2 x hn).trans hv) h) hd
theorem pe_glob {x : Str} {v : V} {u : Value} {pos : Pos} (hg : Gl X x) (hm : X.mg x = some u) (r : RelV v u) (hd : (x == ("__debug__" : Str)) = false := by decide) : PE X (.Name x pos) (tC v) :=
  fun _ _ _ H _ I h => ld_glob I hg hm ⟨v, H, I, r, h⟩ hd
theorem pe_bltn {x : Str} {v : V} {u : Value} {pos : Pos} (hg : Gl X x) (hm : X.mg x = none) (hv : bootBuiltins x = some u) (r : RelV v u) (hn : x ≠ "__name__" := by decide) (hd : (x == ("__debug__" : Str)) = false := by decide) : PE X (.Name x pos) (tC v) :=
  fun _ _ _ H _ I h => ld_blt I hg hm hv ⟨v, H, I, r, h⟩ hn hd
variable {a b : Expr} {ta tb : TE} {pos : Pos}
noncomputable def PC (X : Cx) (op : CmpOp) (a b : Expr) (t : TE) : Prop :=
  ∀ (pins : List (Addr × Obj)) (s : Shared) (σ : St) (H : Hp) (Q : VK), Inv X pins σ H s → t σ H Q →
    wpAny (model X.prog X.w) X.A (eval a X.env) (fun v s₁ => wpAny (model X.prog X.w) X.A (eval b X.env) (fun u s₂ => wpAny (model X.prog X.w) X.A (compareOp op v u) (EP X pins σ Q) X.xe s₂) X.xe s₁) X.xe s
theorem nobehind (b : Expr) {op : CmpOp} (h : op ≠ .In) (h2 : op ≠ .NotIn) : behindInMarks op b = false := by
  have e1 : (op == CmpOp.In) = false := by cases op <;> first | rfl | exact absurd rfl h
  have e2 : (op == CmpOp.NotIn) = false := by cases op <;> first | rfl | exact absurd rfl h2
  cases b <;> simp [behindInMarks, e1, e2]
noncomputable def tIsN (ta : TE) : TE := fun σ H Q => ta σ H fun x H1 => Q (.bl (decide (x = .non))) H1
noncomputable def tNotN (ta : TE) : TE := fun σ H Q => ta σ H fun x H1 => Q (.bl (!decide (x = .non))) H1
theorem RelV.none_iff {x : V} {v : Value} (r : RelV x v) : (v == Value.none) = decide (x = .non) := by
  cases x with
  | non => cases r; rfl
  | bl _ => cases r; rfl
  | int _ => obtain ⟨t, rfl⟩ := r; rfl
  | str _ => obtain ⟨t, rfl⟩ := r; rfl
  | byt _ => obtain ⟨t, rfl⟩ := r; rfl
  | flt _ => obtain ⟨t, rfl⟩ := r; rfl
  | ref _ => cases r; rfl
  | ty _ => cases r; rfl
theorem pc_isN {j pos'} (ha : PE X a ta) : PC X .Is a (.Constant .none j pos') (tIsN ta) := by
  intro pins s σ H Q I h
  refine thn (ha pins s σ H _ I h) fun v s1 ⟨x, H1, I1, r1, q1⟩ => ?_
  exact Constant_none (is_none_gen ⟨.bl _, H1, I1, by rw [r1.none_iff]; rfl, q1⟩)
theorem pc_notN {j pos'} (ha : PE X a ta) : PC X .IsNot a (.Constant .none j pos') (tNotN ta) := by
  intro pins s σ H Q I h
  refine thn (ha pins s σ H _ I h) fun v s1 ⟨x, H1, I1, r1, q1⟩ => ?_
  exact Constant_none (isnot_none_gen ⟨.bl _, H1, I1, by rw [r1.none_iff]; rfl, q1⟩)
noncomputable def tB (t : TE) : TT := fun σ H Q => t σ H fun x H1 => ∃ c, x = .bl c ∧ Q c H1
theorem pt_cmp {op : CmpOp} {t : TE} (h : PC X op a b t) (h1 : behindInMarks op b = false := by first | exact nobehind _ (by decide) (by decide) | rfl) : PT X (.Compare a [op] [b] pos) (tB t) := by
  intro pins s σ H Q I hw
  refine wpAny_isTrue_Compare1 (thn (h pins s σ H _ I hw) fun v s1 h1 => thn h1 fun u s2 h2 => thn h2 fun c s3 ⟨x, H1, I1, r1, q1⟩ => ?_) h1
  obtain ⟨d, rfl, q⟩ := q1
  cases r1
  exact wpAny_truthy_bool ⟨H1, I1, q⟩
theorem pt_val {e : Expr} {t : TE} (h : PE X e t) (he : ∀ whole, isTrue e X.env whole = (do let v ← whole; standAt e.pos; holding [v] (truthy v)) := by intro _; rfl) : PT X e (tB t) := by
  intro pins s σ H Q I hw
  refine isTrue_plain (thn (h pins s σ H _ I hw) fun v s1 ⟨x, H1, I1, r1, q1⟩ => ?_) (he _)
  obtain ⟨d, rfl, q⟩ := q1
  cases r1
  exact wpAny_truthy_bool ⟨H1, I1, q⟩
variable {tA tB' : TT} {rest : List Expr}
noncomputable def tAnd (t u : TT) : TT := fun σ H Q => t σ H fun c H1 => if c = true then u σ H1 Q else Q false H1
noncomputable def tOr (t u : TT) : TT := fun σ H Q => t σ H fun c H1 => if c = true then Q true H1 else u σ H1 Q
noncomputable def tNot (t : TT) : TT := fun σ H Q => t σ H fun c H1 => Q (!c) H1
theorem pw_and1 (ha : PT X a tA) : PW X (.BoolOp .And [a] pos) tA := by
  intro wh pins s σ H Q I h
  refine isTrue_and (thn (ha pins s σ H Q I h) fun c s1 e => ?_)
  cases c with
  | true => exact isTrue_and_nil e
  | false => exact e
theorem pw_or1 (ha : PT X a tA) : PW X (.BoolOp .Or [a] pos) tA := by
  intro wh pins s σ H Q I h
  refine isTrue_or (thn (ha pins s σ H Q I h) fun c s1 e => ?_)
  cases c with
  | false => exact isTrue_or_nil e
  | true => exact e
theorem pw_and (ha : PT X a tA) (hb : PW X (.BoolOp .And (b :: rest) pos) tB') : PW X (.BoolOp .And (a :: b :: rest) pos) (tAnd tA tB') := by
  intro wh pins s σ H Q I h
  refine isTrue_and (thn (ha pins s σ H _ I h) fun c s1 ⟨H1, I1, q1⟩ => ?_)
  cases c with
  | true => exact hb wh pins s1 σ H1 Q I1 q1
  | false => exact ⟨H1, I1, q1⟩
theorem pw_or (ha : PT X a tA) (hb : PW X (.BoolOp .Or (b :: rest) pos) tB') : PW X (.BoolOp .Or (a :: b :: rest) pos) (tOr tA tB') := by
  intro wh pins s σ H Q I h
  refine isTrue_or (thn (ha pins s σ H _ I h) fun c s1 ⟨H1, I1, q1⟩ => ?_)
  cases c with
  | true => exact ⟨H1, I1, q1⟩
  | false => exact hb wh pins s1 σ H1 Q I1 q1
theorem pt_not (ha : PT X a tA) : PT X (.UnaryOp .Not a pos) (tNot tA) := by
  intro pins s σ H Q I h
  exact isTrue_not (ha pins s σ H (fun c H1 => Q (!c) H1) I h)
noncomputable def tAndV (ta tb : TE) : TE := fun σ H Q => ta σ H fun x H1 => ∃ c, x = .bl c ∧ if c = true then tb σ H1 Q else Q (.bl false) H1
noncomputable def tOrV (ta tb : TE) : TE := fun σ H Q => ta σ H fun x H1 => ∃ c, x = .bl c ∧ if c = true then Q (.bl true) H1 else tb σ H1 Q
noncomputable def tNotV (ta : TE) : TE := fun σ H Q => ta σ H fun x H1 => ∃ c, x = .bl c ∧ Q (.bl (!c)) H1
theorem pe_one {op} {t : TE} (h : PE X a t) : PE X (.BoolOp op [a] pos) t := fun pins s σ H Q I hw => BoolOp_one (h pins s σ H Q I hw)
theorem pe_and (ha : PE X a ta) (hb : PE X (.BoolOp .And (b :: rest) pos) tb) : PE X (.BoolOp .And (a :: b :: rest) pos) (tAndV ta tb) := by
  intro pins s σ H Q I h
  refine BoolOp_and (thn (ha pins s σ H _ I h) fun v s1 ⟨x, H1, I1, r1, q1⟩ => ?_)
  obtain ⟨c, rfl, q1⟩ := q1
  cases r1
  refine wpAny_truthy_bool ?_
  cases c with
  | true => exact hb pins s1 σ H1 Q I1 q1
  | false => exact ⟨.bl false, H1, I1, rfl, q1⟩
theorem pe_or (ha : PE X a ta) (hb : PE X (.BoolOp .Or (b :: rest) pos) tb) : PE X (.BoolOp .Or (a :: b :: rest) pos) (tOrV ta tb) := by
  intro pins s σ H Q I h
  refine BoolOp_or (thn (ha pins s σ H _ I h) fun v s1 ⟨x, H1, I1, r1, q1⟩ => ?_)
  obtain ⟨c, rfl, q1⟩ := q1
  cases r1
  refine wpAny_truthy_bool ?_
  cases c with
  | false => exact hb pins s1 σ H1 Q I1 q1
  | true => exact ⟨.bl true, H1, I1, rfl, q1⟩
theorem pe_not (ha : PE X a ta) : PE X (.UnaryOp .Not a pos) (tNotV ta) := by
  intro pins s σ H Q I h
  refine UnaryOp_ (thn (ha pins s σ H _ I h) fun v s1 ⟨x, H1, I1, r1, q1⟩ => ?_)
  obtain ⟨c, rfl, q1⟩ := q1
  cases r1
  exact not_of (wpAny_truthy_bool ⟨.bl (!c), H1, I1, rfl, q1⟩)
end
end L2
namespace L2
open PySem PySem.Spec PyProof.Rows
noncomputable def SqL (K : PySem.W.Frag) (H : Hp) (a : Addr) (xs : List V) : Prop :=
  Rd H a (.lst xs) ∨
    ∃ (o : Obj) (its : Array Value) (n : Nat), K.lookup a = some o ∧ o.cls = .type "list" ∧ o.dict = none ∧ o.data = .seq its n ∧ its.size ≤ sizeLine ∧ Vals xs its.toList
noncomputable def SqT (K : PySem.W.Frag) (H : Hp) (a : Addr) (xs : List V) : Prop :=
  Rd H a (.tup xs) ∨
    ∃ (o : Obj) (its : Array Value) (n : Nat), K.lookup a = some o ∧ o.cls = .type "tuple" ∧ o.data = .seq its n ∧ its.size ≤ sizeLine ∧ Vals xs its.toList
noncomputable def absV : Value → Option V
  | .none => some .non
  | .bool b => some (.bl b)
  | .int i _ => some (.int i)
  | .str x _ => some (.str x)
  | .bytes b _ => some (.byt b)
  | .float b _ => some (.flt b)
  | .ref a => some (.ref a)
  | .type n => some (.ty n)
  | _ => none
theorem RelV.abs {x : V} {u : Value} (r : RelV x u) : absV u = some x := by
  cases x with
  | non => cases r; rfl
  | bl _ => cases r; rfl
  | int _ => obtain ⟨t, rfl⟩ := r; rfl
  | str _ => obtain ⟨t, rfl⟩ := r; rfl
  | byt _ => obtain ⟨t, rfl⟩ := r; rfl
  | flt _ => obtain ⟨t, rfl⟩ := r; rfl
  | ref _ => cases r; rfl
  | ty _ => cases r; rfl
theorem RelV.inj {x y : V} {u : Value} (r : RelV x u) (q : RelV y u) : x = y := Option.some.inj (r.abs.symm.trans q.abs)
theorem Vals.inj : ∀ {xs ys : List V} {us : List Value}, Vals xs us → Vals ys us → xs = ys
  | _, _, _, .nil, .nil => rfl
  | _, _, _, .cons r t, .cons r' t' => by rw [r.inj r', Vals.inj t t']
section
variable {X : Cx} {pins : List (Addr × Obj)} {σ : St} {H : Hp} {s : Shared} {a : Addr} {xs ys : List V}
theorem SqL.of {K : PySem.W.Frag} (h : H a = some (.lst xs)) : SqL K H a xs := .inl (.inl h)
theorem SqT.of {K : PySem.W.Frag} (h : H a = some (.tup xs)) : SqT K H a xs := .inl (.inl h)
theorem Inv.list (I : Inv X pins σ H s) (h : SqL X.K H a xs) : ∃ its : List Value, Vals xs its ∧ PlainL s.heap a its.toArray ∧ xs.length ≤ sizeLine := by
  rcases h with h | ⟨o, its, n, hk, hc, hd, hs, hz, r⟩
  · obtain ⟨z, its, n, r, e⟩ := h.ok I.hok
    exact ⟨its, r, ⟨_, n, e, rfl, rfl, rfl⟩, z⟩
  · refine ⟨its.toList, r, ⟨o, n, I.kIn a o hk, hc, hd, by simpa using hs⟩, ?_⟩
    have e := r.length
    simp only [Array.length_toList] at e
    omega
theorem Inv.tuple (I : Inv X pins σ H s) (h : SqT X.K H a xs) : ∃ its : List Value, Vals xs its ∧ IsTup s.heap a its.toArray ∧ xs.length ≤ sizeLine := by
  rcases h with h | ⟨o, its, n, hk, hc, hs, hz, r⟩
  · obtain ⟨z, its, r, p⟩ := h.ok I.hok
    exact ⟨its, r, p, z⟩
  · refine ⟨its.toList, r, ⟨o, I.kIn a o hk, hc, n, by simpa using hs⟩, ?_⟩
    have e := r.length
    simp only [Array.length_toList] at e
    omega
theorem Inv.list_inj (I : Inv X pins σ H s) (h : SqL X.K H a xs) (h' : SqL X.K H a ys) : xs = ys := by
  obtain ⟨its, r, ⟨o, n, e, _, _, d⟩, _⟩ := I.list h
  obtain ⟨its', r', ⟨o', n', e', _, _, d'⟩, _⟩ := I.list h'
  rw [e] at e'; cases e'
  rw [d] at d'
  injection d' with d1 _
  have : its = its' := by simpa using congrArg Array.toList d1
  subst this
  exact r.inj r'
end
noncomputable abbrev Cx.wish (X : Cx) (E : Value → Shared → Prop) : Cx := { X with xe := E }
noncomputable abbrev Cx.nox (X : Cx) : Cx := X.wish fun _ _ => False
theorem Cx.Ok.wish {X : Cx} (ok : X.Ok) (E : Value → Shared → Prop) : (X.wish E).Ok :=
  ⟨ok.mod, ok.kind, ok.glob, ok.blt, ok.above, ok.inj, ok.has, ok.cab, ok.hd, ok.frames, ok.stk, ok.exf, ok.bs, ok.bsz, ok.noex, ok.exfs, ok.funs, ok.frf⟩
theorem Cx.Ok.unwish {X : Cx} {E : Value → Shared → Prop} (ok : (X.wish E).Ok) : X.Ok :=
  ⟨ok.mod, ok.kind, ok.glob, ok.blt, ok.above, ok.inj, ok.has, ok.cab, ok.hd, ok.frames, ok.stk, ok.exf, ok.bs, ok.bsz, ok.noex, ok.exfs, ok.funs, ok.frf⟩
section
variable {X : Cx} {pins : List (Addr × Obj)} {σ : St} {H : Hp} {s : Shared} {E : Value → Shared → Prop}
theorem Inv.wish (I : Inv X pins σ H s) (E : Value → Shared → Prop) : Inv (X.wish E) pins σ H s := ⟨I.ok.wish E, I.os, I.bare, I.base, I.loc, I.cell, I.free, I.freeC, I.pin, I.hok, I.len⟩
theorem Inv.unwish (I : Inv (X.wish E) pins σ H s) : Inv X pins σ H s := ⟨I.ok.unwish, I.os, I.bare, I.base, I.loc, I.cell, I.free, I.freeC, I.pin, I.hok, I.len⟩
theorem SP.unwish {D : Ends} {f : Flow} {s' : Shared} (h : SP (X.wish E) pins D f s') : SP X pins D f s' := by
  cases f with
  | next => obtain ⟨σ', H', I, q⟩ := h; exact ⟨σ', H', I.unwish, q⟩
  | brk => obtain ⟨σ', H', I, q⟩ := h; exact ⟨σ', H', I.unwish, q⟩
  | cont => obtain ⟨σ', H', I, q⟩ := h; exact ⟨σ', H', I.unwish, q⟩
  | ret u => obtain ⟨v, σ', H', I, r, q⟩ := h; exact ⟨v, σ', H', I.unwish, r, q⟩
theorem PSs.nox {st : List Stmt} {t : TS} (h : PSs X.nox st t) : PSs X st t := fun pins s σ H D I hw =>
  wpAny_mono (h pins s σ H D (I.wish _) hw) (fun _ _ q => q.unwish) fun _ _ z => False.elim z
end
section
variable {X : Cx} {st : Stmt} {rest : List Stmt} {t u : TS} {e : Expr} {te : TE} {pos : Pos}
noncomputable def tNext : TS := fun D σ H => D.nx σ H
noncomputable def tSeq (t u : TS) : TS := fun D σ H => t { D with nx := u D } σ H
theorem pss_nil : PSs X [] tNext := fun _ _ σ H _ I h => wpAny_execs_nil ⟨σ, H, I, h⟩
theorem pss_cons (h1 : PS X st t) (h2 : PSs X rest u) : PSs X (st :: rest) (tSeq t u) := by
  intro pins s σ H D I h
  refine wpAny_execs_cons (thn (h1 pins s σ H { D with nx := u D } I h) fun f s1 q => ?_)
  cases f with
  | next =>
    obtain ⟨σ', H', I', q⟩ := q
    exact h2 pins s1 σ' H' D I' q
  | ret v => exact q
  | brk => exact q
  | cont => exact q
theorem pss_one (h1 : PS X st t) : PSs X [st] t := by
  intro pins s σ H D I h
  refine wpAny_execs_cons (thn (h1 pins s σ H D I h) fun f s1 q => ?_)
  cases f with
  | next => exact wpAny_execs_nil q
  | ret v => exact q
  | brk => exact q
  | cont => exact q
theorem Inv.quiet {pins : List (Addr × Obj)} {σ : St} {H : Hp} {s : Shared} (I : Inv X pins σ H s) : interactive X.env = false := by simp [interactive, I.ok.kind]
noncomputable def tDrop (te : TE) : TS := fun D σ H => te σ H fun _ H1 => D.nx σ H1
theorem ps_expr (he : PE X e te) (hs : swapsWith e none pos.line X.env = pure false := by rfl) : PS X (.Expr e pos) (tDrop te) := by
  intro pins s σ H D I h
  exact wpAny_Expr_any (thn (he pins s σ H _ I h) fun v s1 ⟨x, H1, I1, r1, q1⟩ => ⟨σ, H1, I1, q1⟩) I.quiet hs
noncomputable def tRet (te : TE) : TS := fun D σ H => te σ H D.rt
theorem ps_ret (he : PE X e te) : PS X (.Return (some e) pos) (tRet te) := by
  intro pins s σ H D I h
  exact wpAny_Return_some (thn (he pins s σ H _ I h) fun v s1 ⟨x, H1, I1, r1, q1⟩ => ⟨x, σ, H1, I1, r1, q1⟩)
noncomputable def tIfS (c : TT) (t u : TS) : TS := fun D σ H => c σ H fun b H1 => if b = true then t D σ H1 else u D σ H1
theorem ps_if {c : Expr} {a b : List Stmt} {tc : TT} (hc : PT X c tc) (ha : PSs X a t) (hb : PSs X b u) : PS X (.If c a b pos) (tIfS tc t u) := by
  intro pins s σ H D I h
  refine wpAny_If (thn (hc pins s σ H _ I h) fun d s1 ⟨H1, I1, q1⟩ => ?_)
  cases d with
  | true => exact ha pins s1 σ H1 D I1 q1
  | false => exact hb pins s1 σ H1 D I1 q1
end
noncomputable abbrev TG := V → St → Hp → (St → Hp → Prop) → Prop
noncomputable abbrev TGs := List V → St → Hp → (St → Hp → Prop) → Prop
noncomputable def PG (X : Cx) (target : Expr) (t : TG) : Prop :=
  ∀ (pins : List (Addr × Obj)) (s : Shared) (σ : St) (H : Hp) (v : V) (u : Value) (Q : St → Hp → Prop), Inv X pins σ H s → RelV v u → t v σ H Q →
    wpAny (model X.prog X.w) X.A (assign target X.env u) (fun _ s' => ∃ σ' H', Inv X pins σ' H' s' ∧ Q σ' H') X.xe s
noncomputable def PGs (X : Cx) (ts : List Expr) (t : TGs) : Prop :=
  ∀ (pins : List (Addr × Obj)) (s : Shared) (σ : St) (H : Hp) (vs : List V) (us : List Value) (Q : St → Hp → Prop), Inv X pins σ H s → Vals vs us → t vs σ H Q →
    wpAny (model X.prog X.w) X.A (assignInOrder ((assignEach ts X.env).map (·.2)) us) (fun _ s' => ∃ σ' H', Inv X pins σ' H' s' ∧ Q σ' H') X.xe s
noncomputable abbrev TSet := V → V → V → Hp → (Hp → Prop) → Prop
noncomputable def PSet (X : Cx) (t : TSet) : Prop :=
  ∀ (pins : List (Addr × Obj)) (s : Shared) (σ : St) (H : Hp) (o i v : V) (ov iv u : Value) (Q : Hp → Prop), Inv X pins σ H s → RelV o ov → RelV i iv → RelV v u → t o i v H Q →
    wpAny (model X.prog X.w) X.A (setItem ov iv u) (fun _ s' => ∃ H', Inv X pins σ H' s' ∧ Q H') X.xe s
noncomputable abbrev TIp := V → V → Hp → VK → Prop
section
variable {X : Cx} {pos : Pos}
noncomputable def gName (i : Nat) : TG := fun v σ H Q => Q (σ.set i (some v)) H
theorem pg_name {i : Nat} {x : Str} (hN : X.N.Nodup) (hi : X.N[i]? = some x) (hx : Loc X.env.scope x) (hf : X.fn x = true ∨ X.env.scope.names.lookup x = some .local := by first | exact .inl rfl | exact .inr rfl | assumption) : PG X (.Name x pos) (gName i) := by
  intro pins s σ H v u Q I r h
  exact wpAny_assign_Name (store_ok I hN hi hx r (fun s' I' => ⟨_, H, I', h⟩) hf)
noncomputable def gNil : TGs := fun vs σ H Q => vs = [] ∧ Q σ H
noncomputable def gCons (t : TG) (u : TGs) : TGs := fun vs σ H Q => ∃ v r, vs = v :: r ∧ t v σ H fun σ' H' => u r σ' H' Q
theorem pgs_nil : PGs X [] gNil := by
  intro pins s σ H vs us Q I r h
  obtain ⟨e, h⟩ := h
  subst e
  cases r
  exact assignInOrder_nil ⟨σ, H, I, h⟩
theorem pgs_cons {e : Expr} {es : List Expr} {t : TG} {u : TGs} (h1 : PG X e t) (h2 : PGs X es u)
    (hs : (assignEach (e :: es) X.env).map (·.2) = assign e X.env :: (assignEach es X.env).map (·.2) := by rfl) : PGs X (e :: es) (gCons t u) := by
  intro pins s σ H vs us Q I r h
  obtain ⟨v, vr, e1, h⟩ := h
  subst e1
  cases r with
  | cons r rr =>
    rw [hs]
    refine assignInOrder_cons (thn (h1 pins s σ H _ _ _ I r h) fun _ s1 ⟨σ1, H1, I1, q1⟩ => ?_)
    exact h2 pins s1 σ1 H1 _ _ Q I1 rr q1
noncomputable def gTup (K : PySem.W.Frag) (n : Nat) (t : TGs) : TG := fun v σ H Q => ∃ a xs, v = .ref a ∧ SqT K H a xs ∧ xs.length = n ∧ t xs σ H Q
theorem pg_tup {es : List Expr} {k : Nat} {t : TGs} {n : Nat} (hc : X.calm = true) (h : PGs X es t)
    (hn : (assignEach es X.env).length = n := by rfl) (hst : (assignEach es X.env).findIdx? (·.1) = none := by rfl) : PG X (.Tuple es k pos) (gTup X.K n t) := by
  intro pins s σ H v u Q I r hw
  obtain ⟨a, xs, e1, hq, hl, hw⟩ := hw
  subst e1
  cases r
  obtain ⟨its, rv, ht, hz⟩ := I.tuple hq
  refine assign_Tuple_tuple (I.ok.hd hc) ht (by simp [hn, ← hl, rv.length]) hst fun h' hx => ?_
  have I1 : Inv X pins σ H { s with heap := h' } := I.kept (t' := s.toks) fun b o e => hx b o (Nat.ne_of_lt (Heap.lt_size e)) e
  exact h pins _ σ H xs _ Q I1 (by simpa using rv) hw
noncomputable def gSub (to ti : TE) (t : TSet) : TG := fun v σ H Q => to σ H fun o H1 => ti σ H1 fun i H2 => t o i v H2 fun H3 => Q σ H3
theorem pg_sub {o i : Expr} {to ti : TE} {t : TSet} (ho : PE X o to) (hi : PE X i ti) (hs : PSet X t)
    (ha : ∀ v, assign (.Subscript o i pos) X.env v = (do
      let ov ← holding [v] (eval o X.env)
      let iv ← holding [v, ov] (eval i X.env)
      standAt pos
      holding [v, ov, iv] (setItem ov iv v)
      release [v, ov, iv] []) := by intro _; rfl) : PG X (.Subscript o i pos) (gSub to ti t) := by
  intro pins s σ H v u Q I r h
  rw [ha]
  refine wpAny_bind (wpAny_holding (thn (ho pins s σ H _ I h) fun ov s1 ⟨x, H1, I1, r1, q1⟩ => ?_))
  refine wpAny_bind (wpAny_holding (thn (hi pins s1 σ H1 _ I1 q1) fun iv s2 ⟨y, H2, I2, r2, q2⟩ => ?_))
  refine wpAny_bind (wpAny_standAt (wpAny_bind (wpAny_holding (thn (hs pins s2 σ H2 x y v ov iv u _ I2 r1 r2 r q2) fun _ s3 ⟨H3, I3, q3⟩ => ?_))))
  exact wpAny_release ⟨σ, H3, I3, q3⟩
noncomputable def tAsg (te : TE) (g : TG) : TS := fun D σ H => te σ H fun x H1 => g x σ H1 D.nx
theorem ps_asg {tg e : Expr} {te : TE} {g : TG} (he : PE X e te) (hg : PG X tg g) (hs : swapsWithSole [tg] e pos.line X.env = pure false := by rfl) (hw : swappedStores [tg] e X.env = pure none := by rfl)
    (h1 : (assignEach [tg] X.env).map (·.2) = [assign tg X.env] := by rfl) : PS X (.Assign [tg] e pos) (tAsg te g) := by
  intro pins s σ H D I h
  refine wpAny_Assign_stores (thn (he pins s σ H _ I h) fun v s1 ⟨x, H1, I1, r1, q1⟩ => ?_) hs hw
  rw [h1]
  exact thn (hg pins s1 σ H1 x v _ I1 r1 q1) fun _ s2 q => q
theorem ps_set {i : Nat} {x : Str} {e : Expr} {te : TE} {pos' : Pos} (hN : X.N.Nodup) (hi : X.N[i]? = some x) (hx : Loc X.env.scope x) (he : PE X e te) (hs : swapsWith e (some (.Name x pos')) pos.line X.env = pure false := by rfl) (hf : X.fn x = true ∨ X.env.scope.names.lookup x = some .local := by first | exact .inl rfl | exact .inr rfl | assumption) :
    PS X (.Assign [.Name x pos'] e pos) (tAsg te (gName i)) := by
  intro pins s σ H D I h
  refine wpAny_Assign_Name (thn (he pins s σ H _ I h) fun v s1 ⟨y, H1, I1, r1, q1⟩ => ?_) hs
  exact store_ok I1 hN hi hx r1 (fun s2 I2 => ⟨_, H1, I2, q1⟩) hf
end
section
variable {X : Cx} {pos : Pos}
end
structure It where
  go : Nat → Hp → Prop
  yld : Nat → Hp → V → Hp → Prop
  stop : Nat → Hp → Prop
noncomputable def FpOk (X : Cx) (pins : List (Addr × Obj)) (H : Hp) (b : Addr) : Prop :=
  H b = none ∧ b ≠ X.env.locals ∧ b ∉ X.fs ∧ (b ∈ X.ex ∨ X.s₀.heap.objs.size ≤ b) ∧ (∀ x c, X.env.cells.lookup x = some c → c ≠ b) ∧ ∀ p ∈ X.pn ++ pins, p.1 ≠ b
theorem Inv.fpOk {X : Cx} {pins : List (Addr × Obj)} {σ : St} {H H' : Hp} {s : Shared} {b : Addr} (I : Inv X pins σ H s) (hb : s.heap.objs.size ≤ b) (hn : H' b = none) : FpOk X pins H' b := by
  refine ⟨hn, Nat.ne_of_gt (Nat.lt_of_lt_of_le I.lt hb), I.nofs hb, .inr (Nat.le_trans I.sz hb), fun x c e z => ?_, fun p hp z => ?_⟩
  · obtain ⟨v, q⟩ := I.cell x c e
    exact absurd (Nat.lt_of_lt_of_le q.lt (by rw [z]; exact hb)) (Nat.lt_irrefl _)
  · exact absurd (Nat.lt_of_lt_of_le (Heap.lt_size (I.pin p hp).1) (by rw [z]; exact hb)) (Nat.lt_irrefl _)
structure Turn (P : Program) (w : World) (K : PySem.W.Frag) (tg : Expr) (J : It) (fp : List Addr) (it : Addr) (tn : Nat → Heap → Prop) : Prop where
  mem : it ∈ fp
  obj : ∀ i h, tn i h → ∀ b ∈ fp, ∃ o, h.get? b = some o ∧ ∀ v, o.data ≠ .cell v
  keep : ∀ i h h', tn i h → (∀ b ∈ fp, ∀ o, h.get? b = some o → h'.get? b = some o) → tn i h'
  item : ∀ (X : Cx), X.prog = P → X.w = w → X.K = K → X.calm = true → ∀ (i : Nat) (pins : List (Addr × Obj)) (s : Shared) (σ : St) (H : Hp) (E : Value → Shared → Prop), Inv X pins σ H s → (∀ b ∈ fp, FpOk X pins H b) → tn i s.heap → J.go i H →
    wpAny (model P w) X.A (pyNext (.ref it)) (fun r s1 => ∃ u, r = some u ∧
      wpAny (model P w) X.A (letOwnedTupleGo tg (.ref it) u) (fun _ s2 => ∃ x H', Inv X pins σ H' s2 ∧ RelV x u ∧ J.yld i H x H' ∧ tn (i + 1) s2.heap ∧ ∀ b ∈ fp, H' b = none) E s1) E s
  done : ∀ (X : Cx), X.prog = P → X.w = w → X.K = K → X.calm = true → ∀ (i : Nat) (pins : List (Addr × Obj)) (s : Shared) (σ : St) (H : Hp) (E : Value → Shared → Prop), Inv X pins σ H s → (∀ b ∈ fp, FpOk X pins H b) → tn i s.heap → J.stop i H →
    wpAny (model P w) X.A (pyNext (.ref it)) (fun r s1 => r = none ∧ Inv X pins σ H s1) E s
  self : ∀ (A : Around) (i : Nat) (s : Shared) (Q : Value → Shared → Prop) (E : Value → Shared → Prop), tn i s.heap → Q (.ref it) s → wpAny (model P w) A (pyIter (.ref it)) Q E s
noncomputable abbrev TI := St → Hp → (It → Hp → Prop) → Prop
noncomputable def PIE (X : Cx) (pins : List (Addr × Obj)) (σ : St) (tg : Expr) (R : It → Hp → Prop) (itv : Value) (s2 : Shared) : Prop :=
  ∃ (it : Addr) (fp : List Addr) (tn : Nat → Heap → Prop) (J : It) (H' : Hp), itv = .ref it ∧ Inv X pins σ H' s2 ∧ Turn X.prog X.w X.K tg J fp it tn ∧ tn 0 s2.heap ∧ (∀ b ∈ fp, FpOk X pins H' b) ∧ R J H'
noncomputable def PI (X : Cx) (tg iter : Expr) (wi : TI) : Prop :=
  ∀ (pins : List (Addr × Obj)) (s : Shared) (σ : St) (H : Hp) (R : It → Hp → Prop), Inv X pins σ H s → wi σ H R →
    wpAny (model X.prog X.w) X.A (eval iter X.env) (fun v s1 => wpAny (model X.prog X.w) X.A (pyIter v) (PIE X pins σ tg R) X.xe s1) X.xe s
theorem go_of {M : Model} {A : Around} {E : Value → Shared → Prop} {s : Shared} {tg : Expr} {it : Addr} {u : Value} {o : Obj} {n : String} {vs : Array Value} {Q : Unit → Shared → Prop} (ho : s.heap.get? it = some o) (hc : o.cls = .type n) (hd : o.data = .fields vs)
    (hn : ["enumerate", "zip", "dict_itemiterator", "dict_reverseitemiterator", "odict_iterator", "itertools.zip_longest", "itertools.pairwise"].contains n = false) (hQ : Q () s) : wpAny M A (letOwnedTupleGo tg (.ref it) u) Q E s := by
  unfold letOwnedTupleGo
  cases tg <;> first
    | exact wpAny_pure hQ
    | (cases u <;> first
        | exact wpAny_pure hQ
        | (refine wpAny_bind (wpAny_load ho ?_)
           rw [hc, hd]
           show wpAny M A (if (["enumerate", "zip", "dict_itemiterator", "dict_reverseitemiterator", "odict_iterator", "itertools.zip_longest", "itertools.pairwise"].contains n && vs[0]? == some (rawInt _)) = true then _ else _) Q E s
           rw [if_neg (by intro h; rw [hn, Bool.false_and] at h; cases h)]
           exact wpAny_pure hQ))
noncomputable def Itl (K : PySem.W.Frag) (a : Addr) : It :=
  ⟨fun i H => ∃ xs x, SqL K H a xs ∧ xs[i]? = some x, fun i H x H' => H' = H ∧ ∀ xs, SqL K H a xs → xs[i]? = some x, fun i H => ∃ xs, SqL K H a xs ∧ xs.length ≤ i⟩
noncomputable def Itr (lo : Int) (n : Nat) : It := ⟨fun i _ => i < n, fun i H x H' => H' = H ∧ x = .int (lo + i), fun i _ => n ≤ i⟩
theorem turn_list {P : Program} {w : World} {K : PySem.W.Frag} {tg : Expr} (a it : Addr) : Turn P w K tg (Itl K a) [it] it (fun i h => h.IsListIter it a i) where
  mem := by simp
  obj := fun i h st b hb => by
    have e : b = it := by simpa using hb
    subst e
    obtain ⟨o, e, c, d⟩ := st
    exact ⟨o, e, fun v z => by rw [d] at z; cases z⟩
  keep := fun i h h' st k => st.at fun o e => k it (by simp) o e
  item := by
    intro X hP hw hK hc i pins s σ H E I hf st hg
    subst hP hw hK
    obtain ⟨xs, x, hq, hx⟩ := hg
    obtain ⟨its, rv, p, hz⟩ := I.list hq
    obtain ⟨u, hu, ru⟩ := rv.get hx
    obtain ⟨f0, f1, f2, f3, f4, f5⟩ := hf it (by simp)
    refine wpAny_pyNext_list_item st p.isList (x := u) (by simpa using hu) fun h' st' sb => ?_
    have I1 : Inv X pins σ H { s with heap := h' } := I.turned (t' := s.toks) (fun b o hb e => (sb.2 b hb).trans e) f0 f1 f3 f4 f5
    obtain ⟨o, e, c, d⟩ := id st'
    exact ⟨u, rfl, go_of (s := { s with heap := h' }) e c d (by decide) ⟨x, H, I1, ru, ⟨rfl, fun ys hy => by rw [I.list_inj hy hq]; exact hx⟩, st', fun b hb => (hf b hb).1⟩⟩
  done := by
    intro X hP hw hK hc i pins s σ H E I hf st hg
    subst hP hw hK
    obtain ⟨xs, hq, hx⟩ := hg
    obtain ⟨its, rv, p, hz⟩ := I.list hq
    obtain ⟨f0, f1, f2, f3, f4, f5⟩ := hf it (by simp)
    have hl := rv.length
    exact wpAny_pyNext_list_end (I.ok.hd hc) st p.isList (by simp; omega) fun h' eb => ⟨rfl, I.turned (t' := s.toks) (fun b o hb e => eb b o hb e) f0 f1 f3 f4 f5⟩
  self := fun _ _ _ _ _ st h => wpAny_pyIter_listiter st h
theorem turn_range {P : Program} {w : World} {K : PySem.W.Frag} {tg : Expr} (it : Addr) (lo : Int) (n : Nat) : Turn P w K tg (Itr lo n) [it] it (fun i h => IsRangeIter h it (lo + (i : Nat) * 1) ((n : Int) - (i : Nat)) 1) where
  mem := by simp
  obj := fun i h st b hb => by
    have e : b = it := by simpa using hb
    subst e
    exact ⟨_, st, fun v z => by
      have z' : Data.fields _ = Data.cell v := z
      cases z'⟩
  keep := fun i h h' st k => k it (by simp) _ st
  item := by
    intro X hP hw hK hc i pins s σ H E I hf st hg
    subst hP hw hK
    obtain ⟨f0, f1, f2, f3, f4, f5⟩ := hf it (by simp)
    have W := Walks.range (prog := X.prog) (w := X.w) (I.ok.hd hc) it lo 1 n
    refine W.item i s _ _ hg st fun v h' tk hv st' kk => ?_
    obtain ⟨t, rfl⟩ := hv
    have I1 : Inv X pins σ H { s with heap := h', toks := tk } := I.turned (fun b o hb e => kk b o (by simpa using hb) e) f0 f1 f3 f4 f5
    refine ⟨_, rfl, go_of (s := { s with heap := h', toks := tk }) (n := "range_iterator") st' rfl rfl (by decide) ⟨.int (lo + i), H, I1, ⟨t, ?_⟩, ⟨rfl, rfl⟩, st', fun b hb => (hf b hb).1⟩⟩
    rw [Int.mul_one]
  done := by
    intro X hP hw hK hc i pins s σ H E I hf st hg
    subst hP hw hK
    obtain ⟨f0, f1, f2, f3, f4, f5⟩ := hf it (by simp)
    exact wpAny_pyNext_range_end (I.ok.hd hc) st (by have : n ≤ i := hg; omega) fun h' eb => ⟨rfl, I.turned (t' := s.toks) (fun b o hb e => eb b o hb e) f0 f1 f3 f4 f5⟩
  self := fun _ _ _ _ _ st h => wpAny_pyIter_rangeiter st h
end L2
namespace L2
open PySem PySem.Spec PyProof.Rows
section
variable {X : Cx} {tg : Expr}
noncomputable def iList (K : PySem.W.Frag) (tl : TE) : TI := fun σ H R => tl σ H fun x H1 => ∃ a, x = .ref a ∧ (∃ xs, SqL K H1 a xs) ∧ R (Itl K a) H1
theorem pi_list {l : Expr} {tl : TE} (hl : PE X l tl) : PI X tg l (iList X.K tl) := by
  intro pins s σ H R I h
  refine thn (hl pins s σ H _ I h) fun v s1 ⟨x, H1, I1, r1, q1⟩ => ?_
  obtain ⟨a, e, ⟨xs, hq⟩, q⟩ := q1
  subst e
  cases r1
  obtain ⟨its, rv, p, hz⟩ := I1.list hq
  refine wpAny_pyIter_list p.isList ?_
  refine ⟨s1.heap.objs.size, [s1.heap.objs.size], _, _, H1, rfl, I1.kept (t' := s1.toks) fun b o e => Heap.get?_push_of_some _ e, turn_list a _, ⟨_, Heap.get?_push_size _ rfl, rfl, rfl⟩, fun b hb => ?_, q⟩
  have e : b = s1.heap.objs.size := by simpa using hb
  subst e
  exact I1.fpOk (Nat.le_refl _) (I1.hok.fresh (Nat.le_refl _))
theorem range_it {pins : List (Addr × Obj)} {σ : St} {H : Hp} {s : Shared} {R : It → Hp → Prop} {E : Value → Shared → Prop} {lo hi : Int} {t u v : Tok} {tk : Nat} (I : Inv X pins σ H s) (h1 : -(2 ^ 62) ≤ lo) (h2 : lo < 2 ^ 62) (h3 : -(2 ^ 62) ≤ hi) (h4 : hi < 2 ^ 62)
    (q : R (Itr lo (hi - lo).toNat) H) : wpAny (model X.prog X.w) X.A (pyIter (.ref s.heap.objs.size)) (PIE X pins σ tg R) E { s with heap := s.heap.push { cls := .type "range", data := .fields #[.int lo t, .int hi u, .int 1 v] }, toks := tk } := by
  refine wpAny_pyIter_range (IsRange.new ..) (small_one h1 h2 h3 h4) ?_
  have I1 : Inv X pins σ H { s with heap := s.heap.push { cls := .type "range", data := .fields #[.int lo t, .int hi u, .int 1 v] }, toks := tk } := I.kept fun b o e => Heap.get?_push_of_some _ e
  refine ⟨(s.heap.push { cls := .type "range", data := .fields #[.int lo t, .int hi u, .int 1 v] }).objs.size, [(s.heap.push { cls := .type "range", data := .fields #[.int lo t, .int hi u, .int 1 v] }).objs.size], _, _, H, rfl,
    I1.kept (t' := tk) fun b o e => Heap.get?_push_of_some _ e, turn_range _ lo (hi - lo).toNat, ?_, fun b hb => ?_, q⟩
  · have e1 : lo + ((0 : Nat) : Int) * 1 = lo := by simp
    have e2 : (((hi - lo).toNat : Nat) : Int) - ((0 : Nat) : Int) = Builtin.Range.rangeSize lo hi 1 := by rw [rangeSize_one]; split <;> omega
    show IsRangeIter _ _ (lo + ((0 : Nat) : Int) * 1) ((((hi - lo).toNat : Nat) : Int) - ((0 : Nat) : Int)) 1
    rw [e1, e2]
    exact Heap.get?_push_size _ rfl
  · have e : b = (s.heap.push { cls := .type "range", data := .fields #[.int lo t, .int hi u, .int 1 v] }).objs.size := by simpa using hb
    subst e
    exact I1.fpOk (Nat.le_refl _) (I1.hok.fresh (Nat.le_refl _))
noncomputable def iRng1 (ta : TA) : TI := fun σ H R => ta σ H fun vs H1 => ∃ j : Int, vs = [.int j] ∧ -(2 ^ 62) ≤ j ∧ j < 2 ^ 62 ∧ R (Itr 0 j.toNat) H1
theorem pi_range1 {a : Expr} {ta : TA} {p pos : Pos} (hg : Gl X "range") (hm : X.mg "range" = none) (ha : PA X [a] ta) (hs : starEach [a] X.env = [(false, eval a X.env)] := by rfl) : PI X tg (.Call (.Name "range" p) [a] [] pos) (iRng1 ta) := by
  intro pins s σ H R I h
  refine Call_ (ld_blt I hg hm boot_range (PyProof.Rows.callWith_type1 (thn (ha pos pins s σ H _ I h) fun us s1 ⟨vs, H1, I1, r1, q1⟩ => ?_) hs rfl))
  obtain ⟨j, e, q1, q2, q⟩ := q1
  subst e
  cases r1 with
  | cons r rr =>
    cases rr
    obtain ⟨t, rfl⟩ := r
    exact call_range_1 (range_it I1 (by omega) (by omega) q1 q2 (by simpa using q))
noncomputable def tFor (wi : TI) (g : TG) (tb : TS) : TS := fun D σ H => wi σ H fun J H1 => ∃ W : Nat → Nat → St → Hp → Prop, (∃ m, W 0 m σ H1) ∧ ∀ i m σ H, W i m σ H →
  (J.stop i H ∧ D.nx σ H) ∨ (J.go i H ∧ ∃ N : St → Hp → Prop, (∀ σ' H', N σ' H' → ∃ m', m' < m ∧ W (i + 1) m' σ' H') ∧ ∀ x H', J.yld i H x H' → g x σ H' fun σ2 H2 => tb { D with nx := N, ct := N, bk := D.nx } σ2 H2)
noncomputable def pinsAt (fp : List Addr) (h : Heap) : List (Addr × Obj) := fp.filterMap fun b => (h.get? b).map fun o => (b, o)
theorem mem_pinsAt {fp : List Addr} {h : Heap} {b : Addr} {o : Obj} (hb : b ∈ fp) (e : h.get? b = some o) : (b, o) ∈ pinsAt fp h := List.mem_filterMap.mpr ⟨b, hb, by rw [e]; rfl⟩
theorem of_pinsAt {fp : List Addr} {h : Heap} {p : Addr × Obj} (hp : p ∈ pinsAt fp h) : p.1 ∈ fp ∧ h.get? p.1 = some p.2 := by
  obtain ⟨b, hb, e⟩ := List.mem_filterMap.mp hp
  cases q : h.get? b with
  | none => rw [q] at e; cases e
  | some o =>
    rw [q] at e
    have e' : (b, o) = p := Option.some.inj e
    subst e'
    exact ⟨hb, q⟩
theorem Inv.pinned {pins : List (Addr × Obj)} {σ : St} {H : Hp} {s : Shared} {fp : List Addr} (I : Inv X pins σ H s) (hf : ∀ b ∈ fp, FpOk X pins H b) (ho : ∀ b ∈ fp, ∃ o, s.heap.get? b = some o ∧ ∀ v, o.data ≠ .cell v) : Inv X (pins ++ pinsAt fp s.heap) σ H s :=
  I.pins_of fun p hp => (List.mem_append.mp hp).elim (fun z => I.pin p (List.mem_append_right _ z)) fun z => by
    obtain ⟨hb, e⟩ := of_pinsAt z
    obtain ⟨f0, f1, f2, _⟩ := hf p.1 hb
    obtain ⟨o, e', d⟩ := ho p.1 hb
    rw [e] at e'; cases e'
    exact ⟨e, f0, f1, f2, d⟩
theorem Inv.unpinned {pins pl : List (Addr × Obj)} {σ : St} {H : Hp} {s : Shared} (I : Inv X (pins ++ pl) σ H s) : Inv X pins σ H s := I.pins_of fun p hp => I.pin p (List.mem_append_right _ (List.mem_append_left _ hp))
theorem ps_for {iter : Expr} {body : List Stmt} {wi : TI} {g : TG} {tb : TS} {pos : Pos} (hp : PassesOwn (model X.prog X.w) X.A X.env X.xe) (hc : X.calm = true) (hi : PI X tg iter wi) (hg : PG X tg g) (hb : PSs X body tb)
    (hs : ∀ x, foldedSetIterable iter X.env x = pure x := by intro _; rfl) : PS X (.For tg iter body [] pos) (tFor wi g tb) := by
  intro pins s σ H D I h
  refine wpAny_For (thn (hi pins s σ H _ I h) fun v s1 h1 => thn h1 fun itv s2 h2 => ?_) hs
  obtain ⟨it, fp, tn, J, H2, e, I2, T, st2, f2, W, ⟨m0, w0⟩, turn⟩ := h2
  subst e
  have stat : ∀ {H' : Hp}, (∀ b ∈ fp, H' b = none) → ∀ b ∈ fp, FpOk X pins H' b := fun hn b hb => ⟨hn b hb, (f2 b hb).2⟩
  refine codeAny_forLoop_any (fun n s' => ∃ i σ' H', Inv X pins σ' H' s' ∧ tn i s'.heap ∧ (∀ b ∈ fp, H' b = none) ∧ W i n σ' H') ?_ m0 ⟨0, σ, H2, I2, st2, fun b hb => (f2 b hb).1, w0⟩
  rintro n s3 ⟨i, σ3, H3, I3, st3, fr3, w3⟩
  rcases turn i n σ3 H3 w3 with ⟨stop, qn⟩ | ⟨go, N, hN, step⟩
  · refine wpAny_passesOwn hp (thn (T.done X rfl rfl rfl hc i pins s3 σ3 H3 X.xe I3 (stat fr3) st3 stop) fun r s4 ⟨hr, I4⟩ => ?_)
    subst hr
    exact wpAny_execs_nil ⟨σ3, H3, I4, qn⟩
  · refine wpAny_passesOwn hp (thn (T.item X rfl rfl rfl hc i pins s3 σ3 H3 X.xe I3 (stat fr3) st3 go) fun r s4 ⟨u, hr, h4⟩ => ?_)
    subst hr
    refine wpAny_passesOwn hp (thn h4 fun _ s5 ⟨x, H5, I5, r5, y5, st5, fr5⟩ => ?_)
    have I5' := I5.pinned (stat fr5) (T.obj _ _ st5)
    refine wpAny_passesOwn hp (thn (hg _ s5 σ3 H5 x u _ I5' r5 (step x H5 y5)) fun _ s6 ⟨σ6, H6, I6, q6⟩ => ?_)
    refine wpAny_passesOwn hp (thn (hb _ s6 σ6 H6 _ I6 q6) fun f s7 q7 => ?_)
    have again : ∀ {σ7 : St} {H7 : Hp}, Inv X (pins ++ pinsAt fp s5.heap) σ7 H7 s7 → N σ7 H7 → ∃ m, m < n ∧ ∃ i σ' H', Inv X pins σ' H' s7 ∧ tn i s7.heap ∧ (∀ b ∈ fp, H' b = none) ∧ W i m σ' H' := fun {σ7 H7} I7 n7 => by
      obtain ⟨m', hm, w7⟩ := hN σ7 H7 n7
      refine ⟨m', hm, i + 1, σ7, H7, I7.unpinned, T.keep _ _ _ st5 fun b hb o e => (I7.pin (b, o) (List.mem_append_right _ (List.mem_append_right _ (mem_pinsAt hb e)))).1, fun b hb => ?_, w7⟩
      obtain ⟨o, e, d⟩ := T.obj _ _ st5 b hb
      exact (I7.pin (b, o) (List.mem_append_right _ (List.mem_append_right _ (mem_pinsAt hb e)))).2.1
    cases f with
    | next => obtain ⟨σ7, H7, I7, n7⟩ := q7; exact again I7 n7
    | cont => obtain ⟨σ7, H7, I7, n7⟩ := q7; exact again I7 n7
    | brk => obtain ⟨σ7, H7, I7, q7⟩ := q7; exact ⟨σ7, H7, I7.unpinned, q7⟩
    | ret v => obtain ⟨x7, σ7, H7, I7, r7, q7⟩ := q7; exact ⟨x7, σ7, H7, I7.unpinned, r7, q7⟩
end
theorem for_list {K : PySem.W.Frag} {a : Addr} {xs : List V} {g : TG} {tb : TS} {D : Ends} {σ : St} {H : Hp} (Pv : Nat → St → Hp → Prop) (h0 : Pv 0 σ H) (hl : ∀ i σ H, i ≤ xs.length → Pv i σ H → SqL K H a xs)
    (hs : ∀ i x σ H, xs[i]? = some x → Pv i σ H → g x σ H fun σ2 H2 => tb { D with nx := Pv (i + 1), ct := Pv (i + 1), bk := D.nx } σ2 H2) (hd : ∀ σ H, Pv xs.length σ H → D.nx σ H) :
    ∃ W : Nat → Nat → St → Hp → Prop, (∃ m, W 0 m σ H) ∧ ∀ i m σ H, W i m σ H →
      ((Itl K a).stop i H ∧ D.nx σ H) ∨ ((Itl K a).go i H ∧ ∃ N : St → Hp → Prop, (∀ σ' H', N σ' H' → ∃ m', m' < m ∧ W (i + 1) m' σ' H') ∧ ∀ x H', (Itl K a).yld i H x H' → g x σ H' fun σ2 H2 => tb { D with nx := N, ct := N, bk := D.nx } σ2 H2) := by
  refine ⟨fun i m σ H => m = xs.length - i ∧ i ≤ xs.length ∧ Pv i σ H, ⟨xs.length, by simp, Nat.zero_le _, h0⟩, ?_⟩
  rintro i m σ H ⟨rfl, hi, p⟩
  have q := hl i σ H hi p
  by_cases hlt : i < xs.length
  · refine .inr ⟨⟨xs, xs[i], q, by simp [hlt]⟩, Pv (i + 1), fun σ' H' p' => ⟨xs.length - (i + 1), by omega, rfl, hlt, p'⟩, fun x H' y => ?_⟩
    obtain ⟨e, y⟩ := y
    subst e
    exact hs i x σ _ (y xs q) p
  · have e : i = xs.length := by omega
    subst e
    exact .inl ⟨⟨xs, q, Nat.le_refl _⟩, hd σ H p⟩
theorem for_range {lo : Int} {n : Nat} {g : TG} {tb : TS} {D : Ends} {σ : St} {H : Hp} (Pv : Nat → St → Hp → Prop) (h0 : Pv 0 σ H)
    (hs : ∀ i σ H, i < n → Pv i σ H → g (.int (lo + i)) σ H fun σ2 H2 => tb { D with nx := Pv (i + 1), ct := Pv (i + 1), bk := D.nx } σ2 H2) (hd : ∀ σ H, Pv n σ H → D.nx σ H) :
    ∃ W : Nat → Nat → St → Hp → Prop, (∃ m, W 0 m σ H) ∧ ∀ i m σ H, W i m σ H →
      ((Itr lo n).stop i H ∧ D.nx σ H) ∨ ((Itr lo n).go i H ∧ ∃ N : St → Hp → Prop, (∀ σ' H', N σ' H' → ∃ m', m' < m ∧ W (i + 1) m' σ' H') ∧ ∀ x H', (Itr lo n).yld i H x H' → g x σ H' fun σ2 H2 => tb { D with nx := N, ct := N, bk := D.nx } σ2 H2) := by
  refine ⟨fun i m σ H => m = n - i ∧ i ≤ n ∧ Pv i σ H, ⟨n, by simp, Nat.zero_le _, h0⟩, ?_⟩
  rintro i m σ H ⟨rfl, hi, p⟩
  by_cases hlt : i < n
  · refine .inr ⟨hlt, Pv (i + 1), fun σ' H' p' => ⟨n - (i + 1), by omega, rfl, hlt, p'⟩, fun x H' y => ?_⟩
    obtain ⟨e, y⟩ := y
    subst e y
    exact hs i σ _ hlt p
  · have e : i = n := by omega
    subst e
    exact .inl ⟨Nat.le_refl _, hd σ H p⟩
end L2
namespace L2
open PySem PySem.Spec PyProof.Rows
noncomputable abbrev R2 := V → V → Hp → VK → Prop
noncomputable def OpR (X : Cx) (f : Value → Value → Sem Value) (r : R2) : Prop :=
  ∀ (pins : List (Addr × Obj)) (s : Shared) (σ : St) (H : Hp) (x y : V) (v u : Value) (Q : VK), Inv X pins σ H s → RelV x v → RelV y u → r x y H Q →
    wpAny (model X.prog X.w) X.A (f v u) (EP X pins σ Q) X.xe s
noncomputable def UnR (X : Cx) (f : Value → Sem Value) (r : V → Hp → VK → Prop) : Prop :=
  ∀ (pins : List (Addr × Obj)) (s : Shared) (σ : St) (H : Hp) (x : V) (v : Value) (Q : VK), Inv X pins σ H s → RelV x v → r x H Q →
    wpAny (model X.prog X.w) X.A (f v) (EP X pins σ Q) X.xe s
noncomputable def CallR (X : Cx) (f : Value) (r : List V → Hp → VK → Prop) : Prop :=
  ∀ (pins : List (Addr × Obj)) (s : Shared) (σ : St) (H : Hp) (xs : List V) (us : List Value) (Q : VK), Inv X pins σ H s → Vals xs us → r xs H Q →
    wpAny (model X.prog X.w) X.A (call f us) (EP X pins σ Q) X.xe s
noncomputable def TruR (X : Cx) (r : V → Hp → (Bool → Hp → Prop) → Prop) : Prop :=
  ∀ (pins : List (Addr × Obj)) (s : Shared) (σ : St) (H : Hp) (x : V) (v : Value) (Q : Bool → Hp → Prop), Inv X pins σ H s → RelV x v → r x H Q →
    wpAny (model X.prog X.w) X.A (truthy v) (TP X pins σ Q) X.xe s
noncomputable def tOp (r : R2) (ta tb : TE) : TE := fun σ H Q => ta σ H fun x H1 => tb σ H1 fun y H2 => r x y H2 Q
noncomputable def tUn (r : V → Hp → VK → Prop) (ta : TE) : TE := fun σ H Q => ta σ H fun x H1 => r x H1 Q
noncomputable def rI (C : Int → Int → Prop) (g : Int → Int → V) : R2 := fun x y H Q => ∃ i j, x = .int i ∧ y = .int j ∧ C i j ∧ Q (g i j) H
noncomputable def rI0 (g : Int → Int → V) : R2 := fun x y H Q => ∃ i j, x = .int i ∧ y = .int j ∧ Q (g i j) H
noncomputable def rU (g : Int → V) : V → Hp → VK → Prop := fun x H Q => ∃ i, x = .int i ∧ Q (g i) H
section
variable {X : Cx} {a b c : Expr} {ta tb tc : TE} {pos : Pos}
theorem binT (ha : PE X a ta) (hb : PE X b tb) {pins : List (Addr × Obj)} {s : Shared} {σ : St} {H : Hp} {R : V → V → Hp → Prop} (I : Inv X pins σ H s)
    (h : ta σ H fun x H1 => tb σ H1 fun y H2 => R x y H2) {Q : Value → Shared → Prop} {f : Value → Value → Sem Value}
    (hf : ∀ v u s2 x y H2, Inv X pins σ H2 s2 → RelV x v → RelV y u → R x y H2 → wpAny (model X.prog X.w) X.A (f v u) Q X.xe s2) :
    wpAny (model X.prog X.w) X.A (eval a X.env) (fun v s₁ => wpAny (model X.prog X.w) X.A (eval b X.env) (fun u s₂ => wpAny (model X.prog X.w) X.A (f v u) Q X.xe s₂) X.xe s₁) X.xe s := by
  refine thn (ha pins s σ H _ I h) fun v s1 ⟨x, H1, I1, r1, q1⟩ => ?_
  refine thn (hb pins s1 σ H1 _ I1 q1) fun u s2 ⟨y, H2, I2, r2, q2⟩ => ?_
  exact hf v u s2 x y H2 I2 r1 r2 q2
theorem pe_op {op : Operator} {r : R2} (ho : OpR X (binaryOp op) r) (ha : PE X a ta) (hb : PE X b tb) : PE X (.BinOp a op b pos) (tOp r ta tb) := by
  intro pins s σ H Q I h
  exact wpAny_BinOp (binT ha hb I h fun v u s2 x y H2 I2 rx ry q => ho pins s2 σ H2 x y v u Q I2 rx ry q)
theorem pe_un {op : UnaryOp} {r : V → Hp → VK → Prop} (ho : UnR X (unaryOp op) r) (ha : PE X a ta) : PE X (.UnaryOp op a pos) (tUn r ta) := by
  intro pins s σ H Q I h
  exact UnaryOp_ (thn (ha pins s σ H _ I h) fun v s1 ⟨x, H1, I1, r1, q1⟩ => ho pins s1 σ H1 x v Q I1 r1 q1)
theorem opI {f : Value → Value → Sem Value} {C : Int → Int → Prop} {g : Int → Int → Int}
    (rule : ∀ (i j : Int) (t u : Tok) (s : Shared) (Q : Value → Shared → Prop) (E : Value → Shared → Prop), C i j → Q (.int (g i j) s.toks) { s with toks := s.toks + 1 } → wpAny (model X.prog X.w) X.A (f (.int i t) (.int j u)) Q E s) :
    OpR X f (rI C fun i j => .int (g i j)) := by
  intro pins s σ H x y v u Q I rx ry h
  obtain ⟨i, j, rfl, rfl, hc, q⟩ := h
  obtain ⟨t, rfl⟩ := rx
  obtain ⟨t', rfl⟩ := ry
  exact rule i j t t' s _ _ hc ⟨.int (g i j), H, I.tok _, ⟨_, rfl⟩, q⟩
theorem opI0 {f : Value → Value → Sem Value} {g : Int → Int → Int}
    (rule : ∀ (i j : Int) (t u : Tok) (s : Shared) (Q : Value → Shared → Prop) (E : Value → Shared → Prop), Q (.int (g i j) s.toks) { s with toks := s.toks + 1 } → wpAny (model X.prog X.w) X.A (f (.int i t) (.int j u)) Q E s) :
    OpR X f (rI0 fun i j => .int (g i j)) := by
  intro pins s σ H x y v u Q I rx ry h
  obtain ⟨i, j, rfl, rfl, q⟩ := h
  obtain ⟨t, rfl⟩ := rx
  obtain ⟨t', rfl⟩ := ry
  exact rule i j t t' s _ _ ⟨.int (g i j), H, I.tok _, ⟨_, rfl⟩, q⟩
theorem opB0 {f : Value → Value → Sem Value} {g : Int → Int → Bool}
    (rule : ∀ (i j : Int) (t u : Tok) (s : Shared) (Q : Value → Shared → Prop) (E : Value → Shared → Prop), Q (.bool (g i j)) s → wpAny (model X.prog X.w) X.A (f (.int i t) (.int j u)) Q E s) :
    OpR X f (rI0 fun i j => .bl (g i j)) := by
  intro pins s σ H x y v u Q I rx ry h
  obtain ⟨i, j, rfl, rfl, q⟩ := h
  obtain ⟨t, rfl⟩ := rx
  obtain ⟨t', rfl⟩ := ry
  exact rule i j t t' s _ _ ⟨.bl (g i j), H, I, rfl, q⟩
noncomputable def CDiv (i j : Int) : Prop := 0 < j ∧ j < 1073741824
noncomputable def CPow (i j : Int) : Prop := 0 ≤ j ∧ j ≤ 1000000 ∧ i.natAbs < 2 ^ 64
noncomputable def CMul (i j : Int) : Prop := (-(2 ^ 64) < i ∧ i < 2 ^ 64) ∨ (-(2 ^ 64) < j ∧ j < 2 ^ 64)
theorem CMul.ok {i j : Int} (h : CMul i j) : IntMulOk i j := by
  rcases h with ⟨h1, h2⟩ | ⟨h1, h2⟩
  · exact .of_left (intBits_le_64 h1 h2)
  · exact .of_right (intBits_le_64 h1 h2)
theorem op_add : OpR X (binaryOp .Add) (rI0 fun i j => .int (i + j)) := opI0 fun _ _ _ _ _ _ _ q => add_int q
theorem op_sub : OpR X (binaryOp .Sub) (rI0 fun i j => .int (i - j)) := opI0 fun _ _ _ _ _ _ _ q => sub_int q
theorem op_mul : OpR X (binaryOp .Mult) (rI CMul fun i j => .int (i * j)) := opI fun _ _ _ _ _ _ _ hc q => mul_int q hc.ok
theorem op_fdiv : OpR X (binaryOp .FloorDiv) (rI CDiv fun i j => .int (i / j)) := opI fun i j _ _ _ _ _ hc q => by
  have h1 : (0 : Int) < j := hc.1
  have h2 : j < 1073741824 := hc.2
  exact floordiv_int (by omega) (by rw [Int.fdiv_eq_ediv_of_nonneg i (by omega)]; exact q) (.inl (PyProof.noPylong_small (by omega)))
theorem op_mod : OpR X (binaryOp .Mod) (rI (fun _ j => 0 < j) fun i j => .int (i % j)) := opI fun i j _ _ _ _ _ hc q => by
  have h1 : (0 : Int) < j := hc
  exact mod_int' (by omega) (by rw [Int.fmod_eq_emod_of_nonneg i (by omega)]; exact q)
theorem op_pow : OpR X (binaryOp .Pow) (rI CPow fun i j => .int (i ^ j.toNat)) := opI fun _ _ _ _ _ _ _ hc q => pow_int_small hc.1 hc.2.1 hc.2.2 q
theorem unI {f : Value → Sem Value} {g : Int → Int}
    (rule : ∀ (i : Int) (t : Tok) (s : Shared) (Q : Value → Shared → Prop) (E : Value → Shared → Prop), Q (.int (g i) s.toks) { s with toks := s.toks + 1 } → wpAny (model X.prog X.w) X.A (f (.int i t)) Q E s) :
    UnR X f (rU fun i => .int (g i)) := by
  intro pins s σ H x v Q I rx h
  obtain ⟨i, rfl, q⟩ := h
  obtain ⟨t, rfl⟩ := rx
  exact rule i t s _ _ ⟨.int (g i), H, I.tok _, ⟨_, rfl⟩, q⟩
theorem un_neg : UnR X (unaryOp .USub) (rU fun i => .int (-i)) := unI fun _ _ _ _ _ q => neg_int q
end
noncomputable def scal : V → V → Bool
  | .non, .non => true | .non, .int _ => true | .int _, .non => true | .non, .bl _ => true | .bl _, .non => true | .non, .str _ => true | .str _, .non => true
  | .int _, .int _ => true | .bl _, .bl _ => true | .str _, .str _ => true | .byt _, .byt _ => true
  | .int _, .str _ => true | .str _, .int _ => true | .bl _, .str _ => true | .str _, .bl _ => true
  | _, _ => false
noncomputable def rEq : R2 := fun x y H Q => scal x y = true ∧ Q (.bl (decide (x = y))) H
noncomputable def rNe : R2 := fun x y H Q => scal x y = true ∧ Q (.bl (!decide (x = y))) H
theorem dec_int {i j : Int} : decide (V.int i = V.int j) = (i == j) := by
  rw [Bool.eq_iff_iff]
  simp
theorem dec_bl {i j : Bool} : decide (V.bl i = V.bl j) = (i == j) := by
  rw [Bool.eq_iff_iff]
  simp
theorem dec_str {i j : Str} : decide (V.str i = V.str j) = (i == j) := by
  rw [Bool.eq_iff_iff]
  simp
theorem dec_byt {i j : Array UInt8} : decide (V.byt i = V.byt j) = (i.toList == j.toList) := by
  rw [Bool.eq_iff_iff]
  cases i
  cases j
  simp
section
variable {X : Cx} {a b c : Expr} {ta tb tc : TE} {pos : Pos}
theorem fin_bl {pins : List (Addr × Obj)} {σ : St} {H : Hp} {s : Shared} {Q : VK} {k k' : Bool} (I : Inv X pins σ H s) (q : Q (.bl k) H) (e : k = k') : EP X pins σ Q (.bool k') s := by
  subst e
  exact ⟨.bl k, H, I, rfl, q⟩
theorem op_eq : OpR X (compareOp .Eq) rEq := by
  intro pins s σ H x y v u Q I rx ry h
  obtain ⟨hs, q⟩ := h
  cases x with
  | non =>
    cases rx
    cases y with
    | non => cases ry; exact PySem.EqNone.eq_none_none (fin_bl I q (by simp))
    | bl j => cases ry; exact PySem.EqNone.eq_none_bool (fin_bl I q (by simp))
    | int j => obtain ⟨t', rfl⟩ := ry; exact PySem.EqNone.eq_none_int (fin_bl I q (by simp))
    | str j => obtain ⟨t', rfl⟩ := ry; exact PySem.EqNone.eq_none_str (fin_bl I q (by simp))
    | _ => exact absurd (show false = true from hs) Bool.false_ne_true
  | bl i =>
    cases rx
    cases y with
    | non => cases ry; exact PySem.EqNone.eq_bool_none (fin_bl I q (by simp))
    | bl j => cases ry; exact eq_bool (fin_bl I q dec_bl)
    | str j => obtain ⟨t', rfl⟩ := ry; exact PySem.EqMixed.eq_bool_str (fin_bl I q (by simp))
    | _ => exact absurd (show false = true from hs) Bool.false_ne_true
  | int i =>
    obtain ⟨t, rfl⟩ := rx
    cases y with
    | non => cases ry; exact PySem.EqNone.eq_int_none (fin_bl I q (by simp))
    | int j => obtain ⟨t', rfl⟩ := ry; exact eq_int (fin_bl I q dec_int)
    | str j => obtain ⟨t', rfl⟩ := ry; exact PySem.EqMixed.eq_int_str (fin_bl I q (by simp))
    | _ => exact absurd (show false = true from hs) Bool.false_ne_true
  | str i =>
    obtain ⟨t, rfl⟩ := rx
    cases y with
    | non => cases ry; exact PySem.EqNone.eq_str_none (fin_bl I q (by simp))
    | bl j => cases ry; exact PySem.EqMixed.eq_str_bool (fin_bl I q (by simp))
    | int j => obtain ⟨t', rfl⟩ := ry; exact PySem.EqMixed.eq_str_int (fin_bl I q (by simp))
    | str j => obtain ⟨t', rfl⟩ := ry; exact eq_str (fin_bl I q dec_str)
    | _ => exact absurd (show false = true from hs) Bool.false_ne_true
  | byt i =>
    obtain ⟨t, rfl⟩ := rx
    cases y with
    | byt j => obtain ⟨t', rfl⟩ := ry; exact PySem.W.eq_bytes (fin_bl I q dec_byt)
    | _ => exact absurd (show false = true from hs) Bool.false_ne_true
  | _ => cases y <;> exact absurd (show false = true from hs) Bool.false_ne_true
theorem op_ne : OpR X (compareOp .NotEq) rNe := by
  intro pins s σ H x y v u Q I rx ry h
  obtain ⟨hs, q⟩ := h
  cases x with
  | non =>
    cases rx
    cases y with
    | non => cases ry; exact PySem.EqNone.ne_none_none (fin_bl I q (by simp))
    | bl j => cases ry; exact PySem.EqNone.ne_none_bool (fin_bl I q (by simp))
    | int j => obtain ⟨t', rfl⟩ := ry; exact PySem.EqNone.ne_none_int (fin_bl I q (by simp))
    | str j => obtain ⟨t', rfl⟩ := ry; exact PySem.EqNone.ne_none_str (fin_bl I q (by simp))
    | _ => exact absurd (show false = true from hs) Bool.false_ne_true
  | bl i =>
    cases rx
    cases y with
    | non => cases ry; exact PySem.EqNone.ne_bool_none (fin_bl I q (by simp))
    | bl j => cases ry; exact ne_bool (fin_bl I q (congrArg not dec_bl))
    | str j => obtain ⟨t', rfl⟩ := ry; exact PySem.EqMixed.ne_bool_str (fin_bl I q (by simp))
    | _ => exact absurd (show false = true from hs) Bool.false_ne_true
  | int i =>
    obtain ⟨t, rfl⟩ := rx
    cases y with
    | non => cases ry; exact PySem.EqNone.ne_int_none (fin_bl I q (by simp))
    | int j => obtain ⟨t', rfl⟩ := ry; exact ne_int (fin_bl I q (congrArg not dec_int))
    | str j => obtain ⟨t', rfl⟩ := ry; exact PySem.EqMixed.ne_int_str (fin_bl I q (by simp))
    | _ => exact absurd (show false = true from hs) Bool.false_ne_true
  | str i =>
    obtain ⟨t, rfl⟩ := rx
    cases y with
    | non => cases ry; exact PySem.EqNone.ne_str_none (fin_bl I q (by simp))
    | bl j => cases ry; exact PySem.EqMixed.ne_str_bool (fin_bl I q (by simp))
    | int j => obtain ⟨t', rfl⟩ := ry; exact PySem.EqMixed.ne_str_int (fin_bl I q (by simp))
    | str j => obtain ⟨t', rfl⟩ := ry; exact ne_str (fin_bl I q (congrArg not dec_str))
    | _ => exact absurd (show false = true from hs) Bool.false_ne_true
  | byt i =>
    obtain ⟨t, rfl⟩ := rx
    cases y with
    | byt j => obtain ⟨t', rfl⟩ := ry; exact PySem.W.ne_bytes (fin_bl I q (congrArg not dec_byt))
    | _ => exact absurd (show false = true from hs) Bool.false_ne_true
  | _ => cases y <;> exact absurd (show false = true from hs) Bool.false_ne_true
theorem op_lt : OpR X (compareOp .Lt) (rI0 fun i j => .bl (decide (i < j))) := opB0 fun _ _ _ _ _ _ _ q => lt_int q
theorem op_le : OpR X (compareOp .LtE) (rI0 fun i j => .bl (decide (i ≤ j))) := opB0 fun _ _ _ _ _ _ _ q => le_int q
theorem op_gt : OpR X (compareOp .Gt) (rI0 fun i j => .bl (decide (j < i))) := opB0 fun _ _ _ _ _ _ _ q => gt_int q
theorem op_in_str : OpR X (compareOp .In) (fun x y H Q => ∃ i j, x = .str i ∧ y = .str j ∧ Q (.bl (!(Builtin.Str.occurrences j i 0 j.length 1).isEmpty)) H) := by
  intro pins s σ H x y v u Q I rx ry h
  obtain ⟨i, j, rfl, rfl, q⟩ := h
  obtain ⟨t, rfl⟩ := rx
  obtain ⟨t', rfl⟩ := ry
  exact in_str (fin_bl I q rfl)
theorem op_notin_str : OpR X (compareOp .NotIn) (fun x y H Q => ∃ i j, x = .str i ∧ y = .str j ∧ Q (.bl (!(!(Builtin.Str.occurrences j i 0 j.length 1).isEmpty))) H) := by
  intro pins s σ H x y v u Q I rx ry h
  obtain ⟨i, j, rfl, rfl, q⟩ := h
  obtain ⟨t, rfl⟩ := rx
  obtain ⟨t', rfl⟩ := ry
  exact notIn_str (fin_bl I q rfl)
theorem nomark (b : Expr) {op : CmpOp} (h : op ≠ .In := by decide) (h2 : op ≠ .NotIn := by decide) : behindInMarks op b = false := by
  have e1 : (op == CmpOp.In) = false := by cases op <;> first | rfl | exact absurd rfl h
  have e2 : (op == CmpOp.NotIn) = false := by cases op <;> first | rfl | exact absurd rfl h2
  cases b <;> simp [behindInMarks, e1, e2]
theorem pe_cmpR {op : CmpOp} {r : R2} (ho : OpR X (compareOp op) r) (ha : PE X a ta) (hb : PE X b tb) (hm : behindInMarks op b = false) : PE X (.Compare a [op] [b] pos) (tOp r ta tb) := by
  intro pins s σ H Q I h
  exact wpAny_Compare1 (binT ha hb I h fun v u s2 x y H2 I2 rx ry q => ho pins s2 σ H2 x y v u Q I2 rx ry q) hm
noncomputable def tTest (t : TE) : TT := fun σ H Q => t σ H fun x H' => ∃ k, x = .bl k ∧ Q k H'
theorem pt_cmpR {op : CmpOp} {r : R2} (ho : OpR X (compareOp op) r) (ha : PE X a ta) (hb : PE X b tb) (hm : behindInMarks op b = false) : PT X (.Compare a [op] [b] pos) (tTest (tOp r ta tb)) := by
  intro pins s σ H Q I h
  refine wpAny_isTrue_Compare1 (thn (ha pins s σ H _ I h) fun v s1 ⟨x, H1, I1, r1, q1⟩ => thn (hb pins s1 σ H1 _ I1 q1) fun u s2 ⟨y, H2, I2, r2, q2⟩ =>
    thn (ho pins s2 σ H2 x y v u _ I2 r1 r2 q2) fun c s3 ⟨z, H3, I3, r3, k, e, q3⟩ => ?_) hm
  subst e
  cases r3
  exact wpAny_truthy_bool ⟨H3, I3, q3⟩
noncomputable def tChain (r r' : R2) (ta tb tc : TE) : TE := fun σ H Q => ta σ H fun x H1 => tb σ H1 fun y H2 => r x y H2 fun z H3 => ∃ k, z = .bl k ∧
  (if k = true then tc σ H3 fun w' H4 => r' y w' H4 Q else Q (.bl false) H3)
theorem pt_chain {op op' : CmpOp} {r r' : R2} (ho : OpR X (compareOp op) r) (ho' : OpR X (compareOp op') r') (ha : PE X a ta) (hb : PE X b tb) (hc : PE X c tc)
    (hm : lastMarks [op, op'] [b, c] = false := by with_unfolding_all rfl) : PT X (.Compare a [op, op'] [b, c] pos) (tTest (tChain r r' ta tb tc)) := by
  intro pins s σ H Q I h
  refine isTrue_chain (thn (ha pins s σ H _ I h) fun v s1 ⟨x, H1, I1, r1, q1⟩ => test_link (thn (hb pins s1 σ H1 _ I1 q1) fun u s2 ⟨y, H2, I2, r2, q2⟩ =>
    thn (ho pins s2 σ H2 x y v u _ I2 r1 r2 q2) fun d s3 ⟨z, H3, I3, r3, k, e, q3⟩ => ?_)) hm
  subst e
  cases r3
  refine wpAny_truthy_bool ?_
  cases k with
  | false =>
    obtain ⟨k', e', q'⟩ := q3
    cases e'
    exact ite_ff ⟨H3, I3, q'⟩
  | true =>
    refine ite_tt (test_last (thn (hc pins s3 σ H3 _ I3 q3) fun w' s4 ⟨z', H4, I4, r4, q4⟩ => thn (ho' pins s4 σ H4 y z' u w' _ I4 r2 r4 q4) fun d' s5 ⟨z2, H5, I5, r5, k2, e2, q5⟩ => ?_))
    subst e2
    cases r5
    exact wpAny_truthy_bool ⟨H5, I5, q5⟩
noncomputable def TruV (K : PySem.W.Frag) (x : V) (H : Hp) (k : Bool) : Prop :=
  match x with
  | .non => k = false
  | .bl b => k = b
  | .int i => k = (i != 0)
  | .str y => y.length ≤ sizeLine ∧ k = ((y.length : Int) != 0)
  | .byt y => y.size ≤ sizeLine ∧ k = ((y.size : Int) != 0)
  | .ref p => (∃ xs, SqL K H p xs ∧ k = !xs.isEmpty) ∨ (∃ xs, SqT K H p xs ∧ k = !xs.isEmpty) ∨ ∃ kvs, H p = some (.dK kvs) ∧ k = !kvs.isEmpty
  | _ => False
theorem isEmpty_kv {κ : Type} {kvs : List (κ × V)} {vs : List (κ × Value)} (r : KV kvs vs) : (!vs.isEmpty) = !kvs.isEmpty := by
  cases r <;> rfl
theorem isEmpty_of {xs : List V} {its : List Value} (r : Vals xs its) : (!its.toArray.isEmpty) = !xs.isEmpty := by
  cases r <;> simp
theorem line63 : (sizeLine : Nat) < 2 ^ 63 := by rw [sizeLine_eq]; decide
theorem tru_ok : TruR X (fun x H Q => ∃ k, TruV X.K x H k ∧ Q k H) := by
  intro pins s σ H x v Q I rx h
  obtain ⟨k, e, q⟩ := h
  have hl := line63
  have hs : sizeLine = 16777216 := sizeLine_eq
  cases x with
  | non =>
    cases rx
    have e' : k = false := e
    subst e'
    exact truthy_none ⟨H, I, q⟩
  | bl b =>
    cases rx
    have e' : k = b := e
    subst e'
    exact wpAny_truthy_bool ⟨H, I, q⟩
  | int i =>
    obtain ⟨t, rfl⟩ := rx
    have e' : k = (i != 0) := e
    subst e'
    exact PySem.P.truthy_int ⟨H, I, q⟩
  | str y =>
    obtain ⟨t, rfl⟩ := rx
    obtain ⟨hy, e'⟩ : y.length ≤ sizeLine ∧ k = ((y.length : Int) != 0) := e
    subst e'
    exact PySem.P.truthy_str (by omega) ⟨H, I.tok _, q⟩
  | byt y =>
    obtain ⟨t, rfl⟩ := rx
    obtain ⟨hy, e'⟩ : y.size ≤ sizeLine ∧ k = ((y.size : Int) != 0) := e
    subst e'
    exact PySem.W.truthy_bytes (by omega) ⟨H, I.tok _, q⟩
  | ref p =>
    cases rx
    have e' : (∃ xs, SqL X.K H p xs ∧ k = !xs.isEmpty) ∨ (∃ xs, SqT X.K H p xs ∧ k = !xs.isEmpty) ∨ ∃ kvs, H p = some (.dK kvs) ∧ k = !kvs.isEmpty := e
    rcases e' with ⟨xs, hx, e'⟩ | ⟨xs, hx, e'⟩ | ⟨kvs, hx, e'⟩
    · subst e'
      obtain ⟨its, r, pl, hz⟩ := I.list hx
      have hlen := r.length
      exact wpAny_truthy_list pl.isList (by simp only [List.size_toArray]; omega) ⟨H, I.tok _, by rw [isEmpty_of r]; exact q⟩
    · subst e'
      obtain ⟨its, r, pl, hz⟩ := I.tuple hx
      have hlen := r.length
      exact truthy_tuple pl (by simp only [List.size_toArray]; omega) ⟨H, I.tok _, by rw [isEmpty_of r]; exact q⟩
    · subst e'
      obtain ⟨hz, hS, vs, r, m⟩ : kvs.length ≤ sizeLine ∧ (p == sysModules) = false ∧ ∃ vs, KV kvs vs ∧ s.heap.DictOf (mixKind X.prog X.w) p vs := I.hok p _ hx
      have hlen : kvs.length = vs.length := Paired.length r
      exact wpAny_truthy_dict hS m (by omega) ⟨H, I.tok _, by rw [isEmpty_kv r]; exact q⟩
  | _ => exact (show False from e).elim
theorem pt_truth (ha : PE X a ta) (he : ∀ whole, isTrue a X.env whole = (do let v ← whole; standAt a.pos; holding [v] (truthy v))) :
    PT X a (fun σ H Q => ta σ H fun x H' => ∃ k, TruV X.K x H' k ∧ Q k H') := by
  intro pins s σ H Q I h
  exact isTrue_plain (thn (ha pins s σ H _ I h) fun v s1 ⟨x, H1, I1, r1, q1⟩ => tru_ok pins s1 σ H1 x v Q I1 r1 q1) (he _)
theorem op_add_str : OpR X (binaryOp .Add) (fun x y H Q => ∃ i j, x = .str i ∧ y = .str j ∧ i.length + j.length ≤ sizeLine ∧ Q (.str (i ++ j)) H) := by
  intro pins s σ H x y v u Q I rx ry h
  obtain ⟨i, j, rfl, rfl, hz, q⟩ := h
  obtain ⟨t, rfl⟩ := rx
  obtain ⟨t', rfl⟩ := ry
  exact add_str (fun t' tk => ⟨.str (i ++ j), H, I.tok _, ⟨_, rfl⟩, q⟩) hz
theorem vals1 {x : V} {us : List Value} (r : Vals [x] us) : ∃ u, us = [u] ∧ RelV x u := by
  cases r with
  | cons r1 r2 => cases r2; exact ⟨_, rfl, r1⟩
theorem vals2 {x y : V} {us : List Value} (r : Vals [x, y] us) : ∃ u w', us = [u, w'] ∧ RelV x u ∧ RelV y w' := by
  cases r with
  | cons r1 r2 =>
    cases r2 with
    | cons r3 r4 => cases r4; exact ⟨_, _, rfl, r1, r3⟩
end
end L2
namespace L2
open PySem PySem.Spec PyProof.Rows
structure ObjM (h : Heap) (x dx C : Addr) (mA : Str → Option Value) : Prop where
  obj : h.get? x = some (PySem.W.instObj C dx)
  ns : h.Ns1 dx mA
  ne : dx ≠ x
theorem lookIn_ns {h : Heap} {dx : Addr} {mA : Str → Option Value} (n : h.Ns1 dx mA) : ∃ od, h.get? dx = some od ∧ ∀ name, PySem.W.lookIn name od = some (mA name) := by
  obtain ⟨o, es, ep, ho, hd, hk, _, hm⟩ := n
  refine ⟨o, ho, fun name => ?_⟩
  have e := hm name
  unfold nsFind findBy at e
  rw [← Array.find?_toList] at e
  unfold PySem.W.lookIn
  rw [hd]
  dsimp only
  split
  · rename_i y q
    rw [q] at e
    exact congrArg some e
  · rename_i q
    rw [q] at e
    have a : es.toList.any (·.refKey) = false := by
      rw [List.any_eq_false]
      intro y hy
      obtain ⟨z, t, hkey⟩ := hk y (Array.mem_toList_iff.mp hy)
      simp [DictEntry.refKey, hkey]
    have a' : ¬ es.toList.any (·.refKey) = true := by rw [a]; exact Bool.false_ne_true
    rw [if_neg a']
    exact congrArg some e
theorem ObjM.look {h : Heap} {x dx C : Addr} {mA : Str → Option Value} (I : ObjM h x dx C mA) : ∃ od, PySem.W.InstAt h x (PySem.W.instObj C dx) C (some od) ∧ ∀ name, PySem.W.lookIn name od = some (mA name) :=
  let ⟨od, ho, hl⟩ := lookIn_ns I.ns
  ⟨od, ⟨I.obj, rfl, rfl, ho⟩, hl⟩
section
variable {prog : Program} {w : World} {A : Around} {E : Value → Shared → Prop} {s : Shared} {K : PySem.W.Frag} {x dx C f : Addr} {mA : Str → Option Value} {name : Str} {v : Value}
end
section
variable {P : Program} {w : World} {H H' : Hp} {h h' : Heap} {a C dx : Addr} {fs fs' : List (Str × V)}
theorem ins_get (hok : HOk P w H h) (e : H a = some (.ins C dx fs)) : ∃ mA, ObjM h a dx C mA ∧ (∀ f, RelO (fs.lookup f) (mA f)) ∧ PySem.Within mA (fs.map (·.1)) ∧ fs.length ≤ 1000 ∧ H dx = some (.own a) := by
  obtain ⟨d, z, ne, ob, mA, n, r, q⟩ := (show ObjOk P w H h a (.ins C dx fs) from hok a _ e)
  exact ⟨mA, ⟨ob, n, ne⟩, r, q, z, d⟩
end
structure Cls (K : PySem.W.Frag) (C : Addr) : Prop where
  pg : PySem.W.plainGet K C Str.empty = true
  hd : PySem.W.hasDictIn K C = true
  po : PySem.W.plainOver K C = true
  sa : PySem.W.findIn K (.ref C) "__setattr__" = some (some (.builtin "object.__setattr__"))
theorem Cls.get {K : PySem.W.Frag} {C : Addr} (c : Cls K C) (f : Str) : PySem.W.plainGet K C f = true := c.pg
section
variable {X : Cx} {pins : List (Addr × Obj)} {σ : St} {H : Hp} {s : Shared} {a C dx : Addr} {fs : List (Str × V)} {f : Str} {v : V} {A : Around} {E : Value → Shared → Prop}
theorem attr_of {prog : Program} {w : World} {env : Env} {e : Expr} {f : Str} {pos : Pos} {s : Shared} {Q : Value → Shared → Prop} (hb : attributeBase e f env (eval e env) = eval e env)
    (h : wpAny (model prog w) A (eval e env) (fun o s₁ => wpAny (model prog w) A (getAttr o f true) Q E s₁) E s) : wpAny (model prog w) A (eval (.Attribute e f pos) env) Q E s :=
  Attribute_any_ h (by rw [arm_eval_Attribute, hb])
end
section
variable {X : Cx} {o e value : Expr} {f : Str} {pos pos' tpos : Pos} {ta tv : TE}
end
section
variable {X : Cx} {pins : List (Addr × Obj)} {σ : St} {H : Hp} {s : Shared} {A : Around} {E : Value → Shared → Prop} {Q : Value → Shared → Prop} {c : Value} {b : Bool}
inductive TyOf (K : PySem.W.Frag) (H : Hp) : V → Value → Prop where
  | non : TyOf K H .non (.type "NoneType")
  | bl (x : Bool) : TyOf K H (.bl x) (.type "bool")
  | int (i : Int) : TyOf K H (.int i) (.type "int")
  | str (x : Str) : TyOf K H (.str x) (.type "str")
  | flt (x : UInt64) : TyOf K H (.flt x) (.type "float")
  | lst {a : Addr} {xs : List V} (e : H a = some (.lst xs)) : TyOf K H (.ref a) (.type "list")
  | frz {a : Addr} {o : Obj} {xs : List V} (e : H a = some (.frz o (.lst xs))) : TyOf K H (.ref a) (.type "list")
  | tup {a : Addr} {xs : List V} (e : H a = some (.tup xs)) : TyOf K H (.ref a) (.type "tuple")
  | dK {a : Addr} {kvs : List (Key × V)} (e : H a = some (.dK kvs)) : TyOf K H (.ref a) (.type "dict")
  | dT {a : Addr} {kvs : List (List Key × V)} (e : H a = some (.dT kvs)) : TyOf K H (.ref a) (.type "dict")
  | ins {a C dx : Addr} {fs : List (Str × V)} (e : H a = some (.ins C dx fs)) (cl : Cls K C) (ha : PySem.W.findIn K (.ref C) "__class__" = some (some (.builtin "object.__class__")))
      (hn : PySem.W.specialIn K (.builtin "object.__class__") "__get__" = some (some (.builtin "getset_descriptor.__get__"))) (htk : PySem.W.takesIn K (.builtin "object.__class__") = some true)
      (hm : PySem.W.mroIn K C (.type "object") = some true) : TyOf K H (.ref a) (.ref C)
theorem isinst_ok {x : V} {u t : Value} (I : Inv X pins σ H s) (rx : RelV x u) (ty : TyOf X.K H x t) (e : PySem.W.kitOne X.K t c = some b) (h : ∀ tk, Q (.bool b) { s with toks := tk }) :
    wpAny (model X.prog X.w) A (call (.builtin "isinstance") [u, c]) Q E s := by
  cases ty with
  | non => cases (show u = Value.none from rx); exact PySem.W.kia_one PySem.W.kitx_none I.kIn True.intro e (fun z => nomatch z) h
  | bl y => cases (show u = Value.bool y from rx); exact PySem.W.kia_one PySem.W.kitx_bool I.kIn True.intro e (fun z => nomatch z) h
  | int i => obtain ⟨t, q⟩ := (show ∃ t, u = Value.int i t from rx); cases q; exact PySem.W.kia_one PySem.W.kitx_int I.kIn True.intro e (fun z => nomatch z) h
  | str y => obtain ⟨t, q⟩ := (show ∃ t, u = Value.str y t from rx); cases q; exact PySem.W.kia_one PySem.W.kitx_str I.kIn True.intro e (fun z => nomatch z) h
  | flt y => obtain ⟨t, q⟩ := (show ∃ t, u = Value.float y t from rx); cases q; exact PySem.W.kia_one PySem.W.kitx_float I.kIn True.intro e (fun z => nomatch z) h
  | @lst a xs ea =>
    cases (show u = Value.ref a from rx)
    obtain ⟨_, _, n, _, h1⟩ := (show ObjOk X.prog X.w H s.heap a (.lst xs) from I.hok a _ ea)
    exact PySem.W.kia_one PySem.W.kitx_list I.kIn ⟨_, h1, rfl⟩ e (fun z => nomatch z) h
  | @frz a ob xs ea =>
    cases (show u = Value.ref a from rx)
    obtain ⟨_, _, _, n, _, h1⟩ := (show ObjOk X.prog X.w H s.heap a (.frz ob (.lst xs)) from I.hok a _ ea)
    exact PySem.W.kia_one PySem.W.kitx_list I.kIn ⟨_, h1, rfl⟩ e (fun z => nomatch z) h
  | @tup a xs ea =>
    cases (show u = Value.ref a from rx)
    obtain ⟨_, _, _, p⟩ := (show ObjOk X.prog X.w H s.heap a (.tup xs) from I.hok a _ ea)
    obtain ⟨o, h1, h2, _⟩ := p
    exact PySem.W.kia_one PySem.W.kitx_tuple I.kIn ⟨o, h1, h2⟩ e (fun z => nomatch z) h
  | @dK a kvs ea =>
    cases (show u = Value.ref a from rx)
    obtain ⟨_, _, vs, _, p⟩ := (show ObjOk X.prog X.w H s.heap a (.dK kvs) from I.hok a _ ea)
    obtain ⟨o, es, ep, h1, h2, _⟩ := p
    exact PySem.W.kia_one PySem.W.kitx_dict I.kIn ⟨o, h1, h2.1⟩ e (fun z => nomatch z) h
  | @dT a kvs ea =>
    cases (show u = Value.ref a from rx)
    obtain ⟨_, _, xs, _, o, es, ep, h1, h2, _⟩ := (show ObjOk X.prog X.w H s.heap a (.dT kvs) from I.hok a _ ea)
    exact PySem.W.kia_one PySem.W.kitx_dict I.kIn ⟨o, h1, h2.1⟩ e (fun z => nomatch z) h
  | @ins a C dx fs ea cl ha hn htk hm =>
    cases (show u = Value.ref a from rx)
    obtain ⟨mA, O, _⟩ := ins_get I.hok ea
    obtain ⟨od, J, _⟩ := O.look
    exact PySem.W.kia_one (PySem.W.kitx_own (cl.get _) cl.hd ha hn htk hm) I.kIn J e (fun z => nomatch z) h
end
end L2
namespace L2
open PySem PySem.Spec PyProof.Rows
structure Room (k : Nat) (A : Around) : Prop where
  hd : A.handled = none
  dp : A.depth + 3 * k + 5 < recursionLimit
  un : A.units + 16 * k + 200 < cLine
theorem Room.mono {j k : Nat} {A : Around} (r : Room k A) (h : j ≤ k) : Room j A := ⟨r.hd, by have := r.dp; omega, by have := r.un; omega⟩
theorem Room.deeper {k : Nat} {A : Around} (r : Room (k + 1) A) (env : Env) : Room k (A.deeper env) :=
  ⟨r.hd, by have := r.dp; show A.depth + 1 + 3 * k + 5 < _; omega, by have := r.un; show A.units + 3 + 16 * k + 200 < _; omega⟩
theorem make_depth {A : Around} {C : Addr} {us : List Value} {kw : List (Str × Value)} : (A.under (.builtin "type.__call__" ⟨.ref C :: us, kw⟩)).depth = A.depth + 1 := by
  first | rfl | simp [Around.under, Code.weight, Code.isCreation, Code.isGuard, Code.isCaller, Code.frames, Code.isFrame, guardIds]
theorem make_units {A : Around} {C : Addr} {us : List Value} {kw : List (Str × Value)} : (A.under (.builtin "type.__call__" ⟨.ref C :: us, kw⟩)).units = A.units + 1 := by
  first | rfl | simp [Around.under, Code.cUnits, Code.frames, Code.isFrame]
theorem Room.make {k : Nat} {A : Around} (r : Room (k + 1) A) (C : Addr) (us : List Value) (kw : List (Str × Value)) : Room k (A.under (.builtin "type.__call__" ⟨.ref C :: us, kw⟩)) :=
  ⟨r.hd, by have := r.dp; rw [make_depth]; omega, by have := r.un; rw [make_units]; omega⟩
theorem Room.depth {k : Nat} {A : Around} (r : Room k A) : A.depth < recursionLimit := by have := r.dp; omega
theorem Room.units {k : Nat} {A : Around} (r : Room k A) : A.units + 64 < cLine := by have := r.un; omega
noncomputable def tNil : TA := fun _ H Q => Q [] H
noncomputable def tCons (ta : TE) (tr : TA) : TA := fun σ H Q => ta σ H fun x H1 => tr σ H1 fun xs H2 => Q (x :: xs) H2
section
variable {X : Cx} {e : Expr} {es : List Expr} {te : TE} {t : TA} {pos : Pos}
theorem pa_nil : PA X [] tNil := fun _ _ _ _ H Q I h => Calls.spliced_nil ⟨[], H, I, .nil, h⟩
theorem pa_cons (ha : PE X e te) (hr : PA X es t) (hs : starEach (e :: es) X.env = (false, eval e X.env) :: starEach es X.env := by rfl) : PA X (e :: es) (tCons te t) := by
  intro pos pins s σ H Q I h
  rw [hs]
  show wpAny _ _ (spliced ((false, eval e X.env) :: backTo pos (starEach es X.env))) _ _ s
  refine Calls.spliced_cons (thn (ha pins s σ H _ I h) fun u s1 ⟨x, H1, I1, r1, q1⟩ => ?_)
  exact thn (hr pos pins s1 σ H1 _ I1 q1) fun us s2 ⟨xs, H2, I2, r2, q2⟩ => ⟨x :: xs, H2, I2, .cons r1 r2, q2⟩
noncomputable def tTup (t : TA) : TE := fun σ H Q => t σ H fun xs H1 => xs.length ≤ sizeLine ∧ ∀ p, H1 p = none → Q (.ref p) (upd H1 p (.tup xs))
noncomputable def tLst (t : TA) : TE := fun σ H Q => t σ H fun xs H1 => xs.length ≤ sizeLine ∧ ∀ p, H1 p = none → Q (.ref p) (upd H1 p (.lst xs))
theorem pe_tup {x1} (h : PA X es t) : PE X (.Tuple es x1 pos) (tTup t) := by
  intro pins s σ H Q I hq
  refine wpAny_Tuple_spliced (thn (h pos pins s σ H _ I hq) fun us s1 ⟨xs, H1, I1, r, z, q⟩ => ⟨by rw [← r.length]; exact z, ?_⟩)
  have hf : H1 s1.heap.objs.size = none := I1.hok.fresh (Nat.le_refl _)
  refine ⟨.ref s1.heap.objs.size, upd H1 s1.heap.objs.size (.tup xs), I1.laid (t' := s1.toks) (fun b u e => Heap.get?_push_of_some _ e) (Nat.le_refl _) ?_, rfl, q _ hf⟩
  exact ⟨z, us, r, ⟨_, Heap.get?_push_size _ rfl, rfl, _, rfl⟩⟩
theorem pe_lst (h : PA X es t) : PE X (.List es pos) (tLst t) := by
  intro pins s σ H Q I hq
  refine wpAny_List_spliced (thn (h pos pins s σ H _ I hq) fun us s1 ⟨xs, H1, I1, r, z, q⟩ => ⟨by rw [← r.length]; exact z, ?_⟩)
  have hf : H1 s1.heap.objs.size = none := I1.hok.fresh (Nat.le_refl _)
  refine ⟨.ref s1.heap.objs.size, upd H1 s1.heap.objs.size (.lst xs), I1.laid (t' := s1.toks) (fun b u e => Heap.get?_push_of_some _ e) (Nat.le_refl _) ?_, rfl, q _ hf⟩
  exact ⟨z, us, 0, r, Heap.get?_push_size _ rfl⟩
end
noncomputable abbrev Sp := List V → Hp → VK → XK → Prop
noncomputable abbrev CXT := List Env → Hp → Shared → XK → Value → Shared → Prop
structure Env0 (P : Program) (w : World) (K : PySem.W.Frag) (mg : Str → Option Value) (base : Heap) (A : Around) (outer : List Env) (s : Shared) (H : Hp) : Prop where
  frames : A.frames = some outer
  mod : Mod K mg base
  bs : ∀ b o, base.get? b = some o → s.heap.get? b = some o ∧ H b = none
  bsz : base.objs.size ≤ s.heap.objs.size
  funs : s.heap.FunFrames base outer
  frf : ∀ b ∈ frs outer, H b = none
  hok : HOk P w H s.heap
  bare : AllBare s.gens
noncomputable def CE (outer : List Env) (P : Program) (w : World) (H : Hp) (s : Shared) (Q : VK) (u : Value) (s' : Shared) : Prop :=
  ∃ v H', s'.os = s.os ∧ AllBare s'.gens ∧ Un (frs outer) [] H H' s.heap s'.heap ∧ HOk P w H' s'.heap ∧ RelV v u ∧ Q v H'
noncomputable def CR (CX : CXT) (outer : List Env) (P : Program) (w : World) (H : Hp) (s : Shared) (Q : VK) (E : XK) (r : Result) (s' : Shared) : Prop :=
  match r with
  | .ok (.ret u) => CE outer P w H s Q u s'
  | .ok _ => False
  | .error e => CX outer H s E e s'
structure FnOk (P : Program) (w : World) (K : PySem.W.Frag) (mg : Str → Option Value) (base : Heap) (CX : CXT) (k : Nat) (f : Addr) (fd : FuncData) (ps : List Str) (sp : Sp) : Prop where
  len : ∀ vs H Q E, sp vs H Q E → vs.length = ps.length
  run : ∀ (A : Around) (outer : List Env) (s : Shared) (H : Hp) (args : Args) (us : List Value) (vs : List V) (Q : VK) (E : XK), Room k A → Env0 P w K mg base A outer s H → BindsTo s fd args (ps.zip us) → Vals vs us → sp vs H Q E →
    codeAny (model P w) A (.call (.ref f) args) (CR CX outer P w H s Q E) s
theorem Env0.make {P : Program} {w : World} {K : PySem.W.Frag} {mg : Str → Option Value} {base : Heap} {A : Around} {outer : List Env} {s : Shared} {H : Hp} (e : Env0 P w K mg base A outer s H) (C : Addr) (us : List Value) (kw : List (Str × Value)) :
    Env0 P w K mg base (A.under (.builtin "type.__call__" ⟨.ref C :: us, kw⟩)) outer s H := ⟨by first | exact e.frames | (simpa [Around.under, Code.envs, Code.isFrame, pushEnvs] using e.frames), e.mod, e.bs, e.bsz, e.funs, e.frf, e.hok, e.bare⟩
section
variable {X : Cx} {pins : List (Addr × Obj)} {σ : St} {H : Hp} {s s' : Shared}
theorem Inv.env0 (I : Inv X pins σ H s) : Env0 X.prog X.w X.K X.mg X.base X.A X.stack s H :=
  ⟨I.ok.frames, I.ok.mod, I.bs, Nat.le_trans I.ok.bsz I.sz, I.stack, I.stkFree, I.hok, I.bare⟩
theorem Inv.after {Q : VK} {u : Value} (I : Inv X pins σ H s) (h : CE X.stack X.prog X.w H s Q u s') : EP X pins σ Q u s' := by
  obtain ⟨v, H', os, bare, un, hok, r, q⟩ := h
  obtain ⟨hh, g, d, t, os'⟩ := s'
  obtain rfl : os' = s.os := os
  exact ⟨v, H', I.call (h' := hh) (g' := g) (d' := d) (t' := t) (ch := []) un hok bare (fun b z => absurd z (by simp)), r, q⟩
end
noncomputable def tCall (sp : Sp) (dvs : List V) (E : XK) (t : TA) : TE := fun σ H Q => t σ H fun vs H1 => sp (vs ++ dvs) H1 Q E
noncomputable def Binds (K : PySem.W.Frag) (fd : FuncData) (ps : List Str) (ds : List Value) : Prop :=
  ∀ (s : Shared) (us : List Value), K.In s.heap → (us ++ ds).length = ps.length → BindsTo s fd ⟨us, []⟩ (ps.zip (us ++ ds))
theorem Binds.all {K : PySem.W.Frag} {fd : FuncData} {ps : List Str} (h : ∀ us : List Value, us.length = ps.length → bindArgs fd ⟨us, []⟩ = pure (ps.zip us)) : Binds K fd ps [] := fun s us _ hl => by
  rw [List.append_nil] at hl ⊢
  exact .of_eq (h us hl)
noncomputable def Passes (CX : CXT) (X : Cx) (E : XK) : Prop := ∀ (pins : List (Addr × Obj)) (σ : St) (H : Hp) (s : Shared) (e : Value) (s' : Shared), Inv X pins σ H s → CX X.stack H s E e s' → X.xe e s'
section
variable {X : Cx} {CX : CXT} {k : Nat} {f C : Addr} {fd : FuncData} {ps : List Str} {sp : Sp} {dvs : List V} {ds : List Value} {E : XK} {x m : Str} {p pos apos : Pos} {e o : Expr} {es : List Expr} {ta : TE} {t : TA}
theorem run_fn {pins : List (Addr × Obj)} {σ : St} {H : Hp} {s : Shared} {Q : VK} {us : List Value} {vs : List V} (F : FnOk X.prog X.w X.K X.mg X.base CX k f fd ps sp) (hr : Room k X.A) (hb : Binds X.K fd ps ds) (hd : Vals dvs ds) (hx : Passes CX X E)
    (I : Inv X pins σ H s) (r : Vals vs us) (h : sp (vs ++ dvs) H Q E) : wpAny (model X.prog X.w) X.A (call (.ref f) us) (EP X pins σ Q) X.xe s := by
  have r2 : Vals (vs ++ dvs) (us ++ ds) := r.append hd
  have hl : (us ++ ds).length = ps.length := by rw [← r2.length]; exact F.len _ _ _ _ h
  refine wpAny_call (codeAny_mono (F.run X.A X.stack s H ⟨us, []⟩ (us ++ ds) (vs ++ dvs) Q E hr I.env0 (hb s us I.kIn hl) r2 h) fun r s' hq => ?_)
  cases r with
  | error e => exact hx pins σ H s e s' I hq
  | ok fl =>
    cases fl with
    | ret u => exact I.after hq
    | next => exact False.elim hq
    | brk => exact False.elim hq
    | cont => exact False.elim hq
theorem pe_call (F : FnOk X.prog X.w X.K X.mg X.base CX k f fd ps sp) (hr : Room k X.A) (hg : Gl X x) (hm : X.mg x = some (.ref f)) (hk : PySem.W.keepIn X.K (.ref f) = true) (hb : Binds X.K fd ps ds) (hd : Vals dvs ds) (hx : Passes CX X E)
    (ha : PA X (e :: es) t) (hdb : (x == ("__debug__" : Str)) = false := by decide) (he : starEach (e :: es) X.env = (false, eval e X.env) :: starEach es X.env := by rfl) (hpl : (backTo pos (starEach es X.env)).any (·.1) = false := by rfl) :
    PE X (.Call (.Name x p) (e :: es) [] pos) (tCall sp dvs E t) := by
  intro pins s σ H Q I h
  refine wpAny_Call_Name_kw (ld_glob I hg hm ?_ hdb)
  refine PySem.W.callWith_K (h₀ := X.base) I.ok.mod.kin hk (thn (ha pos pins s σ H _ I h) fun us s1 ⟨vs, H1, I1, r, q⟩ => ⟨I1.kIn, ?_⟩) he hpl
  exact run_fn F hr hb hd hx I1 r q
end
section
variable {X : Cx} {CX : CXT} {k : Nat} {f C : Addr} {fd : FuncData} {ps ks : List Str} {sp : Sp} {E : XK} {x m : Str} {p pos apos kpos : Pos} {e o : Expr} {es : List Expr} {kws : List Keyword} {te ta : TE} {t tk : TA} {nm : Option Str}
variable {g : List Value → List Value → List Value} {gV : List V → List V → List V}
end
structure FnScope (N P : List Str) (sc : Scope) : Prop where
  kind : sc.kind = .function
  co : sc.isCoroutine = false
  gen : sc.isGenerator = false
  nd : N.Nodup
  pre : N.take P.length = P
  par : ∀ x ∈ P, sc.names.lookup x = some .local ∨ sc.names.lookup x = some .cell
  nofree : ∀ y ∈ sc.names, y.2 ≠ .free
theorem bindL_out {kindOf : Str → Option NameKind} {x : Str} : ∀ {binds : List (Str × Value)} {m : Str → Option Value}, (∀ v, (x, v) ∉ binds) → bindL kindOf binds m x = m x
  | [], _, _ => rfl
  | (n, v) :: r, m, h => by
    unfold bindL
    rw [bindL_out fun w hw => h w (List.mem_cons_of_mem _ hw)]
    split
    · have : x ≠ n := by rintro rfl; exact h v List.mem_cons_self
      simp [this]
    · rfl
theorem bindC_out {kindOf : Str → Option NameKind} {x : Str} : ∀ {binds : List (Str × Value)} {m : Str → Option Value}, (∀ v, (x, v) ∉ binds) → bindC kindOf binds m x = m x
  | [], _, _ => rfl
  | (n, v) :: r, m, h => by
    unfold bindC
    rw [bindC_out fun w hw => h w (List.mem_cons_of_mem _ hw)]
    split
    · rfl
    · have : x ≠ n := by rintro rfl; exact h v List.mem_cons_self
      simp [this]
theorem bindL_get {kindOf : Str → Option NameKind} {x : Str} {v : Value} : ∀ {P : List Str} {vs : List Value} {i : Nat} {m : Str → Option Value}, P.Nodup → P[i]? = some x → vs[i]? = some v → kindOf x = some .local →
    bindL kindOf (P.zip vs) m x = some v
  | [], _, _, _, _, h, _, _ => by simp at h
  | _ :: _, [], _, _, _, _, h, _ => by simp at h
  | p :: P, w :: vs, 0, m, nd, h1, h2, hk => by
    simp at h1 h2; subst h1; subst h2
    show bindL kindOf ((p, w) :: P.zip vs) m p = _
    unfold bindL
    rw [bindL_out fun v hv => (List.nodup_cons.mp nd).1 (List.of_mem_zip hv).1, if_pos hk]
    simp
  | p :: P, w :: vs, i + 1, m, nd, h1, h2, hk => by
    show bindL kindOf ((p, w) :: P.zip vs) m x = _
    unfold bindL
    exact bindL_get (i := i) (List.nodup_cons.mp nd).2 (by simpa using h1) (by simpa using h2) hk
theorem bindC_get {kindOf : Str → Option NameKind} {x : Str} {v : Value} : ∀ {P : List Str} {vs : List Value} {i : Nat} {m : Str → Option Value}, P.Nodup → P[i]? = some x → vs[i]? = some v → kindOf x ≠ some .local →
    bindC kindOf (P.zip vs) m x = some v
  | [], _, _, _, _, h, _, _ => by simp at h
  | _ :: _, [], _, _, _, _, h, _ => by simp at h
  | p :: P, w :: vs, 0, m, nd, h1, h2, hk => by
    simp at h1 h2; subst h1; subst h2
    show bindC kindOf ((p, w) :: P.zip vs) m p = _
    unfold bindC
    rw [bindC_out fun v hv => (List.nodup_cons.mp nd).1 (List.of_mem_zip hv).1, if_neg hk]
    simp
  | p :: P, w :: vs, i + 1, m, nd, h1, h2, hk => by
    show bindC kindOf ((p, w) :: P.zip vs) m x = _
    unfold bindC
    exact bindC_get (i := i) (List.nodup_cons.mp nd).2 (by simpa using h1) (by simpa using h2) hk
noncomputable def start (N : List Str) (vs : List V) : St := vs.map some ++ List.replicate (N.length - vs.length) none
noncomputable def cxOf (CX : CXT) (P : Program) (w : World) (K : PySem.W.Frag) (mg : Str → Option Value) (base : Heap) (N : List Str) (qual : Str) (scope : Scope) (f : Addr) (cd : Value) (A : Around) (outer : List Env) (s : Shared) (H : Hp) (E : XK) : Cx where
  prog := P
  w := w
  K := K
  mg := mg
  base := base
  A := A.deeper (envOfC qual scope s.heap.objs.size f cd)
  N := N
  s₀ := s
  H₀ := H
  env := envOfC qual scope s.heap.objs.size f cd
  outer := outer
  stack := envOfC qual scope s.heap.objs.size f cd :: outer
  ex := []
  calm := true
  fn := fun _ => true
  pn := []
  xe := fun e s' => wpAny (model P w) (A.deeper (envOfC qual scope s.heap.objs.size f cd)) (leaving (envOfC qual scope s.heap.objs.size f cd) e) (fun _ s'' => CX outer H s E e s'') (fun e' s'' => CX outer H s E e' s'') s'
theorem cell_has {sc : Scope} {n : Nat} {x : Str} (h : sc.names.lookup x = some .cell) : ∃ c, (cellsFrom n sc.names []).lookup x = some c := by
  have q := PySem.W.cellsFrom_some sc.names n [] (.inl h)
  exact Option.isSome_iff_exists.mp q
theorem inv_start {CX : CXT} {P : Program} {w : World} {K : PySem.W.Frag} {mg : Str → Option Value} {base : Heap} {N ps : List Str} {qual : Str} {scope : Scope} {f : Addr} {cd : Value} {A : Around} {outer : List Env} {s s1 : Shared} {H : Hp} {E : XK} {us : List Value} {vs : List V}
    (S : FnScope N ps scope) (hd : A.handled = none) (e0 : Env0 P w K mg base A outer s H) (hl : vs.length = ps.length) (r : Vals vs us)
    (x : InCallC s s.heap.objs.size (bindL (envOfC qual scope s.heap.objs.size f cd).kindOf (ps.zip us) fun _ => none) (cellsFrom (s.heap.objs.size + 1) scope.names []) (bindC (envOfC qual scope s.heap.objs.size f cd).kindOf (ps.zip us) fun _ => none) s1) :
    Inv (cxOf CX P w K mg base N qual scope f cd A outer s H E) [] (start N vs) H s1 := by
  have hpl : ps.length ≤ N.length := by have := congrArg List.length S.pre; rw [List.length_take] at this; omega
  obtain ⟨h1, tk, rfl, hk⟩ := x.done
  have noA : ∀ b : Addr, b ∉ (cxOf CX P w K mg base N qual scope f cd A outer s H E).ex := fun b z => absurd (show b ∈ ([] : List Addr) from z) (by simp)
  refine ⟨⟨e0.mod, S.kind, rfl, rfl, Nat.le_refl _, fun y z c h1 h2 => ?_, fun y hy => ?_, fun y c _ h => ?_, fun _ => hd, Around.frames_deeper e0.frames, .inr ⟨rfl, rfl⟩, fun b z => absurd z (noA b), e0.bs, e0.bsz, fun b _ _ => noA b, fun b z => absurd z (noA b), e0.funs, e0.frf⟩,
    rfl, e0.bare, Un.kept hk, ⟨_, x.toInCall.ns, fun i y v h1 h2 h3 => ?_⟩, fun y c h => ⟨_, x.cell y c h⟩, e0.hok.fresh (Nat.le_refl _), fun y c h => ?_, fun p hp => absurd (show p ∈ ([] : List (Addr × Obj)) from hp) (by simp), e0.hok.kept hk, ?_⟩
  · exact name_of_addr x.apart (PySem.mem_of_lookup h1) (PySem.mem_of_lookup h2)
  · have hy : scope.names.lookup y = some .cell ∨ scope.names.lookup y = some .free := hy
    rcases hy with hy | hy
    · exact cell_has hy
    · exact absurd rfl (S.nofree _ (PySem.mem_of_lookup hy))
  · exact Nat.le_of_lt (x.above y c (PySem.mem_of_lookup h))
  · have hi : i < vs.length := by
      unfold start at h2
      by_cases hi : i < vs.length
      · exact hi
      · rw [List.getElem?_append_right (by simpa using hi)] at h2
        rw [List.getElem?_replicate] at h2
        split at h2 <;> cases h2
    have ha : vs[i]? = some v := by
      unfold start at h2
      rw [List.getElem?_append_left (by simpa using hi), List.getElem?_map] at h2
      cases e : vs[i]? with
      | none => rw [e] at h2; cases h2
      | some a => rw [e] at h2; cases h2; rfl
    obtain ⟨u, hu, rv⟩ := r.get ha
    have hp : ps[i]? = some y := by
      rw [← S.pre, List.getElem?_take_of_lt (by omega)]; exact h1
    have ndP : ps.Nodup := by rw [← S.pre]; exact S.nd.sublist (List.take_sublist _ _)
    refine ⟨u, rv, ?_⟩
    rcases S.par y (List.mem_of_getElem? hp) with k | k
    · exact .inl ⟨k, bindL_get ndP hp hu k⟩
    · obtain ⟨c, e⟩ := cell_has (n := s.heap.objs.size + 1) k
      refine .inr ⟨.inl k, c, e, ?_⟩
      have q := x.cell y c e
      rw [bindC_get ndP hp hu (by show scope.names.lookup y ≠ _; rw [k]; decide)] at q
      exact q
  · exact e0.hok.fresh (Nat.le_of_lt (x.above y c (PySem.mem_of_lookup h)))
  · unfold start
    show _ = N.length
    rw [List.length_append, List.length_map, List.length_replicate]
    omega
theorem fn_of {CX : CXT} {P : Program} {w : World} {K : PySem.W.Frag} {mg : Str → Option Value} {base : Heap} {k : Nat} {f : Addr} {name qual : Str} {params : Arguments} {body : List Stmt} {scope : Scope} {dV kV doc pm cdv ct oc : Value} {an od : Option Addr}
    {osl : Array (Option Value)} {N ps : List Str} {sp : Sp} (lk : K.lookup f = some ⟨oc, od, .func (PySem.W.fnOf name qual params body scope dV kV doc pm an cdv ct), osl⟩) (hcd : PySem.W.codeIn K cdv qual = true) (S : FnScope N ps scope)
    (len : ∀ vs H Q E, sp vs H Q E → vs.length = ps.length)
    (hbody : ∀ (A : Around) (outer : List Env) (s : Shared) (H : Hp) (vs : List V) (Q : VK) (E : XK), Room k (A.deeper (envOfC qual scope s.heap.objs.size f cdv)) → sp vs H Q E →
      ∃ t, PSs (cxOf CX P w K mg base N qual scope f cdv A outer s H E) body t ∧ t { nx := fun _ H' => Q .non H', rt := Q } (start N vs) H) :
    FnOk P w K mg base CX (k + 1) f (PySem.W.fnOf name qual params body scope dV kV doc pm an cdv ct) ps sp := by
  refine ⟨len, fun A outer s H args us vs Q E hr e0 hb r hsp => ?_⟩
  have hl := len _ _ _ _ hsp
  have KX : K.In s.heap := e0.mod.kin.keeps fun b o e => (e0.bs b o e).1
  have lim : s.heap.NoLimit := e0.mod.nolimit.keeps fun b o e => (e0.bs b o e).1
  have hkind : ∀ y ∈ ps.zip us, scope.names.lookup y.1 = some .local ∨ (scope.names.lookup y.1 = some .cell ∧ ((cellsFrom (s.heap.objs.size + 1) scope.names []).lookup y.1).isSome = true) := fun ⟨n, v⟩ hy => by
    rcases S.par n (List.of_mem_zip hy).1 with q | q
    · exact .inl q
    · exact .inr ⟨q, PySem.W.cellsFrom_some _ _ _ (.inl q)⟩
  refine codeAny_call_function hr.depth (KX _ _ lk) rfl S.co S.gen rfl (PySem.W.codeRec_of KX hcd) (hb _ _ _ _ ?_)
  refine wpAny_newFunctionEnv_cells S.kind hkind fun env he s1 x => ?_
  subst he
  refine ⟨lim.keeps x.toInCall.keep, codeAny_func ?_⟩
  obtain ⟨t, ht, hq⟩ := hbody A outer s H vs Q E (hr.deeper _) hsp
  have I : Inv (cxOf CX P w K mg base N qual scope f cdv A outer s H E) [] (start N vs) H s1 := inv_start S hr.hd e0 hl r x
  refine wpAny_mono (ht [] s1 (start N vs) H _ I hq) (fun fl s' hs => ?_) fun e s' hs => hs
  have fin : ∀ {σ' : St} {H' : Hp} {v : V} {u : Value}, Inv (cxOf CX P w K mg base N qual scope f cdv A outer s H E) [] σ' H' s' → RelV v u → Q v H' → CE outer P w H s Q u s' :=
    fun {σ' H' v u} J rv q => ⟨v, H', J.os, J.bare, J.base, J.hok, rv, q⟩
  cases fl with
  | ret u =>
    obtain ⟨v, σ', H', J, rv, q⟩ := hs
    exact fin J rv q
  | next =>
    obtain ⟨σ', H', J, q⟩ := hs
    exact fin (v := V.non) (u := Value.none) J rfl q
  | brk =>
    obtain ⟨_, _, _, q⟩ := hs
    exact False.elim q
  | cont =>
    obtain ⟨_, _, _, q⟩ := hs
    exact False.elim q
end L2
namespace L2
open PySem PySem.Spec PyProof.Rows
section
variable {X : Cx} {x : Str} {p pos : Pos} {e : Expr} {es : List Expr} {t : TA} {id T : String} {r : List V → Hp → VK → Prop}
noncomputable def tCB (r : List V → Hp → VK → Prop) (t : TA) : TE := fun σ H Q => t σ H fun vs H1 => r vs H1 Q
theorem pe_callB (hc : CallR X (.builtin id) r) (hg : Gl X x) (hm : X.mg x = none) (hv : bootBuiltins x = some (.builtin id)) (ha : PA X (e :: es) t) (hn : x ≠ "__name__" := by decide) (hdb : (x == ("__debug__" : Str)) = false := by decide)
    (he : starEach (e :: es) X.env = (false, eval e X.env) :: starEach es X.env := by rfl) (hpl : (backTo pos (starEach es X.env)).any (·.1) = false := by rfl) : PE X (.Call (.Name x p) (e :: es) [] pos) (tCB r t) := by
  intro pins s σ H Q I h
  refine wpAny_Call_Name_kw (ld_blt I hg hm hv ?_ hn hdb)
  exact PyProof.Rows.callWith_builtin1 (thn (ha pos pins s σ H _ I h) fun us s1 ⟨vs, H1, I1, r1, q1⟩ => hc pins s1 σ H1 vs us Q I1 r1 q1) he hpl
theorem pe_callTy (hc : CallR X (.type T) r) (hg : Gl X x) (hm : X.mg x = none) (hv : bootBuiltins x = some (.type T)) (ha : PA X (e :: es) t) (hn : x ≠ "__name__" := by decide) (hdb : (x == ("__debug__" : Str)) = false := by decide)
    (he : starEach (e :: es) X.env = (false, eval e X.env) :: starEach es X.env := by rfl) (hpl : (backTo pos (starEach es X.env)).any (·.1) = false := by rfl) : PE X (.Call (.Name x p) (e :: es) [] pos) (tCB r t) := by
  intro pins s σ H Q I h
  refine wpAny_Call_Name_kw (ld_blt I hg hm hv ?_ hn hdb)
  exact PyProof.Rows.callWith_type1 (thn (ha pos pins s σ H _ I h) fun us s1 ⟨vs, H1, I1, r1, q1⟩ => hc pins s1 σ H1 vs us Q I1 r1 q1) he hpl
end
end L2
namespace HT
open PySem PyProof.Rows
section
open PySem.SeqAt
open PySem.AutoSeq1 (wpAny_loadPart')
open PySem.MeetsSeq PySem.MeetsSeq2 PySem.MeetsSeq3
end
section
variable {prog : Program} {w : World} {A : Around} {E : Value → Shared → Prop} {s : Shared}
theorem cat_tup {t b : Addr} {vs ws : List Value} {Q : Value → Shared → Prop} (ht : IsTup s.heap t vs.toArray) (hb : IsTup s.heap b ws.toArray) (hv : vs ≠ [])
    (h1 : ws = [] → Q (.ref t) s) (h2 : ws ≠ [] → Q (.ref s.heap.objs.size) { s with heap := s.heap.push { cls := .type "tuple", data := .seq (vs ++ ws).toArray } })
    (hsz : vs.length + ws.length ≤ sizeLine) : wpAny (model prog w) A (binaryOp .Add (.ref t) (.ref b)) Q E s := by
  obtain ⟨⟨cls, dd, data, sl⟩, ho, hc, n, hd⟩ := id ht
  obtain ⟨⟨cls2, dd2, data2, sl2⟩, ho2, hc2, n2, hd2⟩ := id hb
  simp only at hc hd hc2 hd2
  subst hc hd hc2 hd2
  have e : vs.toArray ++ ws.toArray = (vs ++ ws).toArray := by simp
  by_cases hw : ws = []
  · exact concat_meets ⟨_, ho, rfl⟩ ⟨_, ho2, rfl⟩ noFill_tuple_add seq_tuple_add PySem.F.slot_tuple_add PySem.F.entry_tuple_add (PySem.F.args_tuple_add_2 _ _)
      (tuple_addW1 t b vs.toArray ws.toArray n n2 dd dd2 sl sl2 (by simpa using hv) (by simp [hw])) ⟨ho, ho2, h1 hw⟩
  · refine concat_meets ⟨_, ho, rfl⟩ ⟨_, ho2, rfl⟩ noFill_tuple_add seq_tuple_add PySem.F.slot_tuple_add PySem.F.entry_tuple_add (PySem.F.args_tuple_add_2 _ _)
      (tuple_addW2 t b vs.toArray ws.toArray n n2 dd dd2 sl sl2 (by simpa using hv) (by simpa using hw) (by rw [List.size_toArray, List.size_toArray]; exact hsz)) ⟨ho, ho2, ?_⟩
    rw [e]
    exact h2 hw
noncomputable def sIx (n d : Nat) : Option Int → Nat
  | none => d
  | some v => if v < 0 then (v + (n : Int)).toNat else min v.toNat n
theorem sIx_none (n d : Nat) : sIx n d none = d := rfl
theorem sIx_nat (n d k : Nat) : sIx n d (some (k : Int)) = min k n := by
  show (if (k : Int) < 0 then ((k : Int) + (n : Int)).toNat else min (k : Int).toNat n) = min k n
  rw [if_neg (by omega), Int.toNat_natCast]
end
end HT
namespace L2
open PySem PySem.Spec PyProof.Rows
noncomputable abbrev TO := St → Hp → (Option Int → Hp → Prop) → Prop
noncomputable def PO (X : Cx) (e : Option Expr) (t : TO) : Prop :=
  ∀ (pins : List (Addr × Obj)) (s : Shared) (σ : St) (H : Hp) (Q : Option Int → Hp → Prop), Inv X pins σ H s → t σ H Q →
    wpAny (model X.prog X.w) X.A (evalPart e X.env) (fun u s' => ∃ o H', Inv X pins σ H' s' ∧ IsPart u o ∧ Q o H') X.xe s
noncomputable def tNoPart : TO := fun _ H Q => Q none H
noncomputable def tPart (t : TE) : TO := fun σ H Q => t σ H fun x H1 => ∃ i, x = .int i ∧ Q (some i) H1
section
variable {X : Cx} {e : Expr} {te : TE} {lo hi : Option Expr} {tl th : TO} {pos p2 : Pos}
theorem po_none : PO X none tNoPart := by
  intro pins s σ H Q I h
  rw [evalPart_none]
  exact wpAny_pure ⟨none, H, I, .none, h⟩
theorem po_some (h : PE X e te) : PO X (some e) (tPart te) := by
  intro pins s σ H Q I hw
  rw [evalPart_some]
  refine thn (h pins s σ H _ I hw) fun u s1 ⟨x, H1, I1, r1, q1⟩ => ?_
  obtain ⟨i, rfl, q⟩ := q1
  obtain ⟨t, rfl⟩ := r1
  exact ⟨some i, H1, I1, .int i t, q⟩
noncomputable def SlR (X : Cx) (r : V → Option Int → Option Int → Hp → VK → Prop) : Prop :=
  ∀ (pins : List (Addr × Obj)) (s : Shared) (σ : St) (H : Hp) (x : V) (v vl vu : Value) (lo hi : Option Int) (sl : Addr) (Q : VK), Inv X pins σ H s → RelV x v → s.heap.IsSliceOf sl vl vu .none → IsPart vl lo → IsPart vu hi → r x lo hi H Q →
    ∃ T id, typeLookup (.type T) "__getitem__" = pure (some (.builtin id)) ∧ s.TypeIs v T ∧ wpAny (model X.prog X.w) X.A (getItem v (.ref sl)) (EP X pins σ Q) X.xe s
noncomputable def tSl (r : V → Option Int → Option Int → Hp → VK → Prop) (te : TE) (tl th : TO) : TE := fun σ H Q => te σ H fun x H1 => tl σ H1 fun l H2 => th σ H2 fun u H3 => r x l u H3 Q
theorem pe_slice {r : V → Option Int → Option Int → Hp → VK → Prop} (hr : SlR X r) (he : PE X e te) (hl : PO X lo tl) (hu : PO X hi th) : PE X (.Subscript e (.Slice lo hi none p2) pos) (tSl r te tl th) := by
  intro pins s σ H Q I h
  refine Subscript_ (thn (he pins s σ H _ I h) fun v s1 ⟨x, H1, I1, r1, q1⟩ => ?_)
  refine wpAny_Slice (thn (hl pins s1 σ H1 _ I1 q1) fun vl s2 ⟨l, H2, I2, pl, q2⟩ => thn (hu pins s2 σ H2 _ I2 q2) fun vu s3 ⟨u, H3, I3, pu, q3⟩ => ?_)
  rw [evalPart_none]
  refine wpAny_pure ?_
  have I4 : Inv X pins σ H3 { s3 with heap := s3.heap.push { cls := .type "slice", data := .fields #[vl, vu, .none] } } := I3.kept (t' := s3.toks) fun b ob q => Heap.get?_push_of_some _ q
  obtain ⟨T, id, hT, ht, hg⟩ := hr pins { s3 with heap := s3.heap.push { cls := .type "slice", data := .fields #[vl, vu, .none] } } σ H3 x v vl vu l u s3.heap.objs.size Q I4 r1 (Heap.IsSliceOf.new ..) pl pu q3
  show wpAny (model X.prog X.w) X.A (subscriptTail e (.Slice lo hi none p2) v (.ref s3.heap.objs.size)) (EP X pins σ Q) X.xe { s3 with heap := s3.heap.push { cls := .type "slice", data := .fields #[vl, vu, .none] } }
  exact tail_any (ops := [.ref s3.heap.objs.size, v]) ht hT hg (by with_unfolding_all rfl)
noncomputable def cutV (xs : List V) (lo hi : Option Int) : List V := (xs.drop (HT.sIx xs.length 0 lo)).take (HT.sIx xs.length xs.length hi - HT.sIx xs.length 0 lo)
theorem cutV_length (xs : List V) (lo hi : Option Int) : (cutV xs lo hi).length ≤ xs.length := by
  unfold cutV
  rw [List.length_take, List.length_drop]
  omega
noncomputable def rCatT (K : PySem.W.Frag) : R2 := fun x y H Q => ∃ a b xs ys, x = .ref a ∧ y = .ref b ∧ SqT K H a xs ∧ SqT K H b ys ∧ xs ≠ [] ∧ xs.length + ys.length ≤ sizeLine ∧
  (ys = [] → Q (.ref a) H) ∧ (ys ≠ [] → ∀ p, H p = none → Q (.ref p) (upd H p (.tup (xs ++ ys))))
theorem Vals.nil_iff {xs : List V} {us : List Value} (r : Vals xs us) : us = [] ↔ xs = [] := by
  cases r with
  | nil => simp
  | cons _ _ => simp
theorem op_catT : OpR X (binaryOp .Add) (rCatT X.K) := by
  intro pins s σ H x y v u Q I rx ry h
  obtain ⟨a, b, xs, ys, rfl, rfl, ha, hb, hx, hz, q1, q2⟩ := h
  cases rx
  cases ry
  obtain ⟨its, r1, p1, _⟩ := I.tuple ha
  obtain ⟨its2, r2, p2, _⟩ := I.tuple hb
  refine HT.cat_tup p1 p2 (fun z => hx (r1.nil_iff.mp z)) (fun z => ⟨.ref a, H, I, rfl, q1 (r2.nil_iff.mp z)⟩) (fun z => ?_) (by rw [← r1.length, ← r2.length]; exact hz)
  refine ⟨.ref s.heap.objs.size, _, I.laid (t' := s.toks) (o := .tup (xs ++ ys)) (fun b ob q => Heap.get?_push_of_some _ q) (Nat.le_refl _) ?_, rfl, q2 (fun w => z (r2.nil_iff.mpr w)) _ (I.hok.fresh (Nat.le_refl _))⟩
  exact ⟨by rw [List.length_append]; exact hz, _, r1.append r2, IsTup.new _ _⟩
end
end L2
namespace L2
open PySem PySem.Spec PyProof.Rows
noncomputable def ixN (n : Nat) (i : Int) : Option Nat := if 0 ≤ i then (if i < n then some i.toNat else none) else if -(n : Int) ≤ i then some (i + n).toNat else none
noncomputable def atI {α : Type} (xs : List α) (i : Int) : Option α := (ixN xs.length i).bind fun j => xs[j]?
theorem ixN_seq {n : Nat} {i : Int} {j : Nat} (h : ixN n i = some j) : seqIndex? i n = some j ∧ j < n ∧ -(n : Int) ≤ i ∧ i < n := by
  unfold ixN at h
  by_cases h0 : 0 ≤ i
  · rw [if_pos h0] at h
    by_cases h1 : i < n
    · rw [if_pos h1] at h
      have e : i.toNat = j := Option.some.inj h
      exact ⟨by rw [seqIndex_of h0 h1, e], by omega, by omega, h1⟩
    · rw [if_neg h1] at h; cases h
  · rw [if_neg h0] at h
    by_cases h1 : -(n : Int) ≤ i
    · rw [if_pos h1] at h
      have e : (i + n).toNat = j := Option.some.inj h
      exact ⟨by rw [seqIndex_neg (by omega) h1, e], by omega, h1, by omega⟩
    · rw [if_neg h1] at h; cases h
theorem atI_get {α : Type} {xs : List α} {i : Int} {v : α} (h : atI xs i = some v) : ∃ j, seqIndex? i xs.length = some j ∧ xs[j]? = some v ∧ j < xs.length ∧ -(xs.length : Int) ≤ i ∧ i < xs.length := by
  unfold atI at h
  cases e : ixN xs.length i with
  | none => rw [e] at h; cases h
  | some j =>
    rw [e] at h
    obtain ⟨h1, h2, h3, h4⟩ := ixN_seq e
    exact ⟨j, h1, h, h2, h3, h4⟩
theorem atI_nat {α : Type} {xs : List α} {j : Nat} {v : α} (h : xs[j]? = some v) : atI xs (j : Int) = some v := by
  have hj : j < xs.length := (List.getElem?_eq_some_iff.mp h).1
  have e : ixN xs.length (j : Int) = some j := by
    unfold ixN
    rw [if_pos (by omega), if_pos (by omega)]; simp
  unfold atI; rw [e]; exact h
theorem atI_last {α : Type} (xs : List α) (v : α) : atI (xs ++ [v]) (-1) = some v := by
  have hl : (xs ++ [v]).length = xs.length + 1 := by simp
  have e : ixN (xs ++ [v]).length (-1) = some xs.length := by
    unfold ixN
    rw [hl, if_neg (by decide), if_pos (by omega)]
    congr 1
    omega
  unfold atI
  rw [e]
  show (xs ++ [v])[xs.length]? = some v
  simp
noncomputable def PlainIx (b : Expr) : Prop := ∀ o i, subscripted b false o i = operate [o, i] (getItem o i)
noncomputable def IxR (X : Cx) (r : R2) : Prop :=
  ∀ (value slice : Expr) (pins : List (Addr × Obj)) (s : Shared) (σ : St) (H : Hp) (x y : V) (v u : Value) (Q : VK), Inv X pins σ H s → RelV x v → RelV y u → r x y H Q →
    subscripted slice false v u = operate [v, u] (getItem v u) → wpAny (model X.prog X.w) X.A (subscriptTail value slice v u) (EP X pins σ Q) X.xe s
noncomputable def MtR (X : Cx) (id : String) (r : V → List V → Hp → VK → Prop) : Prop :=
  ∀ (pins : List (Addr × Obj)) (s : Shared) (σ : St) (H : Hp) (x : V) (xs : List V) (v : Value) (us : List Value) (Q : VK), Inv X pins σ H s → RelV x v → Vals xs us → r x xs H Q →
    wpAny (model X.prog X.w) X.A (call (.builtin id) (v :: us)) (EP X pins σ Q) X.xe s
section
variable {X : Cx} {a b : Expr} {ta tb : TE} {pos : Pos}
theorem pe_ix {r : R2} (hr : IxR X r) (ha : PE X a ta) (hb : PE X b tb) (hs : PlainIx b) : PE X (.Subscript a b pos) (tOp r ta tb) := by
  intro pins s σ H Q I h
  exact Subscript_ (binT ha hb I h fun v u s2 x y H2 I2 rx ry q => hr a b pins s2 σ H2 x y v u Q I2 rx ry q (hs _ _))
noncomputable def rIxL (K : PySem.W.Frag) : R2 := fun x y H Q => ∃ p xs i v, x = .ref p ∧ y = .int i ∧ SqL K H p xs ∧ atI xs i = some v ∧ Q v H
noncomputable def rIxT (K : PySem.W.Frag) : R2 := fun x y H Q => ∃ p xs i v, x = .ref p ∧ y = .int i ∧ SqT K H p xs ∧ atI xs i = some v ∧ Q v H
noncomputable def rIxS : R2 := fun x y H Q => ∃ z i c, x = .str z ∧ y = .int i ∧ z.length ≤ sizeLine ∧ atI z.cps.toList i = some c ∧ Q (.str ⟨#[c]⟩) H
theorem ix_list : IxR X (rIxL X.K) := by
  intro value slice pins s σ H x y v u Q I rx ry h hs
  obtain ⟨p, xs, i, z, rfl, rfl, hq, he, q⟩ := h
  cases rx
  obtain ⟨t, rfl⟩ := ry
  obtain ⟨its, r, pl, hz⟩ := I.list hq
  obtain ⟨j, h1, h2, h3, h4, h5⟩ := atI_get he
  obtain ⟨w, ew, rw'⟩ := r.get h2
  have hl := r.length
  have hn := line63
  have fin : EP X pins σ Q w s := ⟨z, H, I, rw', q⟩
  by_cases h0 : 0 ≤ i
  · have hj : i.toNat = j := by
      rw [seqIndex_of h0 h5] at h1
      exact Option.some.inj h1
    exact item_listR pl.isList h0 (by omega) (by rw [hj]; simpa using ew) fin hs
  · have hj : (i + (its.toArray.size : Int)).toNat = j := by
      rw [seqIndex_neg (by omega) h4] at h1
      rw [List.size_toArray, ← hl]
      exact Option.some.inj h1
    exact subscriptTail_builtinR (x := w) pl.isList.typeIs slot_list_getitem.lookup
      (wpAny_getItem_list_neg (Q := fun r s' => r = w ∧ EP X pins σ Q r s') pl.isList (by omega) (by rw [List.size_toArray] <;> omega) (by omega) (by rw [hj]; simpa using ew) ⟨rfl, fin⟩) hs
theorem ix_tup : IxR X (rIxT X.K) := by
  intro value slice pins s σ H x y v u Q I rx ry h hs
  obtain ⟨p, xs, i, z, rfl, rfl, hq, he, q⟩ := h
  cases rx
  obtain ⟨t, rfl⟩ := ry
  obtain ⟨its, r, pl, hz⟩ := I.tuple hq
  obtain ⟨j, h1, h2, h3, h4, h5⟩ := atI_get he
  obtain ⟨w, ew, rw'⟩ := r.get h2
  have hl := r.length
  have hn := line63
  have fin : EP X pins σ Q w s := ⟨z, H, I, rw', q⟩
  exact subscriptTail_builtinR (x := w) pl.typeIs slot_tuple_getitem.lookup
    (getItem_tuple (j := j) (Q := fun r s' => r = w ∧ EP X pins σ Q r s') pl (by omega) (by omega) (by rw [List.size_toArray, ← hl]; exact h1) (by simpa using ew) ⟨rfl, fin⟩) hs
theorem ix_str : IxR X rIxS := by
  intro value slice pins s σ H x y v u Q I rx ry h hs
  obtain ⟨z, i, c, rfl, rfl, hz, he, q⟩ := h
  obtain ⟨t, rfl⟩ := rx
  obtain ⟨t', rfl⟩ := ry
  obtain ⟨j, h1, h2, h3, h4, h5⟩ := atI_get he
  have hl : z.cps.toList.length = z.length := by simp [Str.length]
  rw [hl] at h1 h4 h5
  have hn := line63
  exact tail_any (typeIs_str s z t) slot_str_getitem.lookup (getItem_str (c := c) (by
    have e1 : decide (i < -(2 ^ 63 : Int)) = false := decide_eq_false (by omega)
    have e2 : decide (i ≥ 2 ^ 63) = false := decide_eq_false (by omega)
    rw [e1, e2, Bool.or_false]) (by rw [h1]; simpa using h2) ⟨.str ⟨#[c]⟩, H, I.tok _, ⟨_, rfl⟩, q⟩) hs
theorem mapSeq_set (its : List Value) (n j : Nat) (u : Value) : Obj.mapSeq (·.setIfInBounds j u) { cls := .type "list", data := .seq its.toArray n } = { cls := .type "list", data := .seq (its.set j u).toArray n } := by
  simp [Obj.mapSeq]
theorem Inv.lst {pins : List (Addr × Obj)} {σ : St} {H : Hp} {s : Shared} {p : Addr} {xs : List V} (I : Inv X pins σ H s) (h : H p = some (.lst xs)) :
    ∃ (its : List Value) (n : Nat), Vals xs its ∧ s.heap.get? p = some { cls := .type "list", data := .seq its.toArray n } ∧ xs.length ≤ sizeLine := by
  obtain ⟨z, its, n, r, e⟩ := I.hok p _ h
  exact ⟨its, n, r, e, z⟩
theorem Inv.lstUpd {pins : List (Addr × Obj)} {σ : St} {H : Hp} {s : Shared} {p : Addr} {xs ys : List V} {its its' : List Value} {n n' : Nat} {f : Obj → Obj} (I : Inv X pins σ H s) (h : H p = some (.lst xs))
    (ho : s.heap.get? p = some { cls := .type "list", data := .seq its.toArray n }) (hf : f { cls := .type "list", data := .seq its.toArray n } = { cls := .type "list", data := .seq its'.toArray n' }) (r : Vals ys its') (hz : ys.length ≤ sizeLine) (t : Nat) :
    Inv X pins σ (upd H p (.lst ys)) { s with heap := s.heap.update p f, toks := t } := by
  have e : (s.heap.update p f).get? p = some { cls := .type "list", data := .seq its'.toArray n' } := by
    rw [Heap.get?_update_self f ho (by rw [hf] <;> rfl), hf]
  refine I.write (x := p) (e := p) (by rw [h]; trivial) (.inl rfl) (fun b u hb q => (Heap.get?_update_other _ _ (Ne.symm hb)).trans q) ⟨_, e⟩ ?_
  exact ⟨hz, its', n', r, e⟩
noncomputable def rSetL : V → V → V → Hp → (Hp → Prop) → Prop := fun o i v H Q => ∃ p xs k j, o = .ref p ∧ i = .int k ∧ H p = some (.lst xs) ∧ ixN xs.length k = some j ∧ Q (upd H p (.lst (xs.set j v)))
theorem set_list : PSet X rSetL := by
  intro pins s σ H o i v ov iv u Q I ro ri rv h
  obtain ⟨p, xs, k, j, rfl, rfl, hp, hj, q⟩ := h
  cases ro
  obtain ⟨t, rfl⟩ := ri
  obtain ⟨its, n, r, ho, hz⟩ := I.lst hp
  obtain ⟨h1, h2, h3, h4⟩ := ixN_seq hj
  have hl := r.length
  have hn := line63
  have I' : Inv X pins σ (upd H p (.lst (xs.set j v))) { s with heap := s.heap.update p (Obj.mapSeq (·.setIfInBounds j u)) } :=
    I.lstUpd hp ho (mapSeq_set its n j u) (r.set rv j) (by rw [List.length_set]; exact hz) s.toks
  by_cases h0 : 0 ≤ k
  · have hk : k.toNat = j := by
      rw [seqIndex_of h0 h4] at h1
      exact Option.some.inj h1
    exact PySem.W.ki_setAt ho h0 (by omega) (by rw [List.size_toArray, ← hl]; exact h4) (by rw [hk]; exact ⟨_, I', q⟩)
  · have hk : (k + (its.toArray.size : Int)).toNat = j := by
      rw [seqIndex_neg (by omega) h3] at h1
      rw [List.size_toArray, ← hl]
      exact Option.some.inj h1
    exact PySem.W.ki_setBack ho (by omega) (by rw [List.size_toArray, ← hl]; exact h3) (by omega) (by rw [hk]; exact ⟨_, I', q⟩)
theorem slice_bounds (lo hi : Option Int) (n : Nat) : (sliceBounds lo hi none n).1 = ((HT.sIx n 0 lo : Nat) : Int) ∧ (sliceBounds lo hi none n).2.1 = ((HT.sIx n n hi : Nat) : Int) ∧ (sliceBounds lo hi none n).2.2 = 1 := by
  refine ⟨?_, ?_, rfl⟩
  · cases lo with
    | none => simp [sliceBounds, HT.sIx]
    | some i =>
      simp only [sliceBounds, HT.sIx, Option.getD_none, show (1 : Int) > 0 by decide, if_true]
      by_cases h : i < 0
      · simp only [h, if_true] <;> omega
      · simp only [h, if_false] <;> omega
  · cases hi with
    | none => simp [sliceBounds, HT.sIx]
    | some i =>
      simp only [sliceBounds, HT.sIx, Option.getD_none, show (1 : Int) > 0 by decide, if_true]
      by_cases h : i < 0
      · simp only [h, if_true] <;> omega
      · simp only [h, if_false] <;> omega
theorem slicePick_cut (its : List Value) (lo hi : Option Int) : slicePick its.toArray lo hi none = ((its.drop (HT.sIx its.length 0 lo)).take (HT.sIx its.length its.length hi - HT.sIx its.length 0 lo)).toArray := by
  obtain ⟨h1, h2, h3⟩ := slice_bounds lo hi its.toArray.size
  unfold slicePick
  rw [h1, h2, h3]
  simp only [sliceRange_one, pick_run, List.size_toArray] <;> rfl
noncomputable def rSlL (K : PySem.W.Frag) : V → Option Int → Option Int → Hp → VK → Prop := fun x lo hi H Q => ∃ a xs, x = .ref a ∧ SqL K H a xs ∧ ∀ p, H p = none → Q (.ref p) (upd H p (.lst (cutV xs lo hi)))
theorem sl_list : SlR X (rSlL X.K) := by
  intro pins s σ H x v vl vu lo hi sl Q I rx hs pl pu h
  obtain ⟨a, xs, rfl, hx, q⟩ := h
  cases rx
  obtain ⟨its, r, ht, hz⟩ := I.list hx
  have hlen := r.length
  refine ⟨"list", _, slot_list_getitem.lookup, ht.isList.typeIs, ?_⟩
  refine wpAny_getItem_list_slice ht.isList hs pl pu .none (by simp) ?_ (by rw [List.size_toArray] <;> omega)
  rw [slicePick_cut, ← hlen]
  refine ⟨.ref s.heap.objs.size, _, I.laid (t' := s.toks) (o := .lst (cutV xs lo hi)) (fun b ob q => Heap.get?_push_of_some _ q) (Nat.le_refl _) ?_, rfl, q _ (I.hok.fresh (Nat.le_refl _))⟩
  exact ⟨Nat.le_trans (cutV_length xs lo hi) hz, _, 0, (r.drop (HT.sIx xs.length 0 lo)).take (HT.sIx xs.length xs.length hi - HT.sIx xs.length 0 lo), Heap.get?_push_size _ rfl⟩
noncomputable def flatV : V → Bool
  | .non => true
  | .bl _ => true
  | .int _ => true
  | .str _ => true
  | _ => false
noncomputable def eqV : V → V → Bool
  | .non, .non => true
  | .bl a, .bl b => a == b
  | .bl a, .int b => (if a then 1 else 0) == b
  | .int a, .bl b => a == (if b then 1 else 0)
  | .int a, .int b => a == b
  | .str a, .str b => a == b
  | _, _ => false
theorem eqAt_V {A : Around} {s : Shared} {y x : V} {u v : Value} (ry : RelV y u) (rx : RelV x v) (fy : flatV y = true) (fx : flatV x = true) : SeqAt.EqAt A s u v (eqV y x) := by
  cases y with
  | non =>
    cases ry
    cases x with
    | non => cases rx; exact SeqAt.EqAt.same _
    | bl b => cases rx; exact SeqAt.EqAt.none_bool b
    | int b => obtain ⟨t, rfl⟩ := rx; exact SeqAt.EqAt.none_int b t
    | str b => obtain ⟨t, rfl⟩ := rx; exact SeqAt.EqAt.none_str b t
    | _ => exact absurd (show false = true from fx) Bool.false_ne_true
  | bl a =>
    cases ry
    cases x with
    | non => cases rx; exact SeqAt.EqAt.bool_none a
    | bl b => cases rx; exact SeqAt.EqAt.bool_bool a b
    | int b => obtain ⟨t, rfl⟩ := rx; exact SeqAt.EqAt.bool_int a b t
    | str b => obtain ⟨t, rfl⟩ := rx; exact SeqAt.EqAt.bool_str a b t
    | _ => exact absurd (show false = true from fx) Bool.false_ne_true
  | int a =>
    obtain ⟨t', rfl⟩ := ry
    cases x with
    | non => cases rx; exact SeqAt.EqAt.int_none a t'
    | bl b => cases rx; exact SeqAt.EqAt.int_bool a t' b
    | int b => obtain ⟨t, rfl⟩ := rx; exact SeqAt.EqAt.int_int a t' b t
    | str b => obtain ⟨t, rfl⟩ := rx; exact SeqAt.EqAt.int_str a t' b t
    | _ => exact absurd (show false = true from fx) Bool.false_ne_true
  | str a =>
    obtain ⟨t', rfl⟩ := ry
    cases x with
    | non => cases rx; exact SeqAt.EqAt.str_none a t'
    | bl b => cases rx; exact SeqAt.EqAt.str_bool a t' b
    | int b => obtain ⟨t, rfl⟩ := rx; exact SeqAt.EqAt.str_int a t' b t
    | str b => obtain ⟨t, rfl⟩ := rx; exact SeqAt.EqAt.str_str a t' b t
    | _ => exact absurd (show false = true from fx) Bool.false_ne_true
  | _ => exact absurd (show false = true from fy) Bool.false_ne_true
noncomputable def eqU (x : V) (u : Value) : Bool := match u with
  | .none => eqV .non x
  | .bool b => eqV (.bl b) x
  | .int i _ => eqV (.int i) x
  | .str z _ => eqV (.str z) x
  | _ => false
theorem eqU_of {x y : V} {u : Value} (r : RelV y u) (f : flatV y = true) : eqU x u = eqV y x := by
  cases y with
  | non => cases r; rfl
  | bl b => cases r; rfl
  | int i => obtain ⟨t, rfl⟩ := r; rfl
  | str z => obtain ⟨t, rfl⟩ := r; rfl
  | _ => exact absurd (show false = true from f) Bool.false_ne_true
theorem any_eqU {x : V} : ∀ {xs : List V} {us : List Value}, Vals xs us → xs.all flatV = true → us.any (eqU x) = xs.any fun y => eqV y x
  | _, _, .nil, _ => rfl
  | y :: xs, u :: us, .cons r t, f => by
    rw [List.all_cons, Bool.and_eq_true] at f
    rw [List.any_cons, List.any_cons, eqU_of r f.1, any_eqU t f.2]
theorem mem_eqAt {A : Around} {s : Shared} {x : V} {v : Value} (rx : RelV x v) (fx : flatV x = true) : ∀ {xs : List V} {us : List Value}, Vals xs us → xs.all flatV = true → ∀ u ∈ us, SeqAt.EqAt A s u v (eqU x u)
  | _, _, .nil, _ => fun u hu => by cases hu
  | y :: xs, u :: us, .cons r t, f => fun u' hu => by
    rw [List.all_cons, Bool.and_eq_true] at f
    rcases List.mem_cons.mp hu with rfl | hu
    · rw [eqU_of r f.1]; exact eqAt_V r rx f.1 fx
    · exact mem_eqAt rx fx t f.2 u' hu
noncomputable def inV (x : V) (xs : List V) : Bool := xs.any fun y => eqV y x
noncomputable def rIn (K : PySem.W.Frag) (neg : Bool) : R2 := fun x y H Q => ∃ p xs, y = .ref p ∧ (SqL K H p xs ∨ SqT K H p xs) ∧ flatV x = true ∧ xs.all flatV = true ∧ Q (.bl (if neg then !inV x xs else inV x xs)) H
theorem op_in_seq : OpR X (compareOp .In) (rIn X.K false) := by
  intro pins s σ H x y v u Q I rx ry h
  obtain ⟨p, xs, rfl, hq, fx, fs, q⟩ := h
  cases ry
  rcases hq with hq | hq
  · obtain ⟨its, r, pl, hz⟩ := I.list hq
    refine SeqAt.in_listAt (eqU x) pl.isList (fun w hw => mem_eqAt rx fx r fs w (by simpa using hw)) ⟨.bl _, H, I, rfl, ?_⟩
    rw [show its.toArray.any (eqU x) = its.any (eqU x) by simp, any_eqU r fs]
    exact q
  · obtain ⟨its, r, pl, hz⟩ := I.tuple hq
    refine SeqAt.in_tupleAt (eqU x) pl (fun w hw => mem_eqAt rx fx r fs w (by simpa using hw)) ⟨.bl _, H, I, rfl, ?_⟩
    rw [show its.toArray.any (eqU x) = its.any (eqU x) by simp, any_eqU r fs]
    exact q
theorem call_len_seq : CallR X (.builtin "len") (fun xs H Q => ∃ p ys, xs = [.ref p] ∧ (SqL X.K H p ys ∨ SqT X.K H p ys) ∧ Q (.int ys.length) H) := by
  intro pins s σ H xs us Q I r h
  obtain ⟨p, ys, rfl, hq, q⟩ := h
  obtain ⟨u, rfl, rx⟩ := vals1 r
  cases rx
  have hn := line63
  rcases hq with hq | hq
  · obtain ⟨its, r', pl, hz⟩ := I.list hq
    have hlen := r'.length
    exact Calls.call_len_list pl.isList (by simp only [List.size_toArray] <;> omega) ⟨.int ys.length, H, I.tok _, ⟨s.toks + 1, by rw [List.size_toArray, hlen]⟩, q⟩
  · obtain ⟨its, r', pl, hz⟩ := I.tuple hq
    have hlen := r'.length
    exact len_tuple pl (by simp only [List.size_toArray] <;> omega) ⟨.int ys.length, H, I.tok _, ⟨s.toks + 1, by rw [List.size_toArray, hlen]⟩, q⟩
theorem call_len_str : CallR X (.builtin "len") (fun xs H Q => ∃ z, xs = [.str z] ∧ z.length ≤ sizeLine ∧ Q (.int z.length) H) := by
  intro pins s σ H xs us Q I r h
  obtain ⟨z, rfl, hz, q⟩ := h
  obtain ⟨u, rfl, t, rfl⟩ := vals1 r
  have hn := line63
  exact len_str (by omega) ⟨.int z.length, H, I.tok _, ⟨_, rfl⟩, q⟩
theorem call_tuple_of : CallR X (.type "tuple") (fun xs H Q => ∃ p ys, xs = [.ref p] ∧ ((SqL X.K H p ys ∧ ∀ l, H l = none → Q (.ref l) (upd H l (.tup ys))) ∨ (SqT X.K H p ys ∧ Q (.ref p) H))) := by
  intro pins s σ H xs us Q I r h
  obtain ⟨p, ys, rfl, h⟩ := h
  obtain ⟨u, rfl, rx⟩ := vals1 r
  cases rx
  rcases h with ⟨hq, q⟩ | ⟨hq, q⟩
  · obtain ⟨its, r', pl, hz⟩ := I.list hq
    have hlen := r'.length
    refine call_tuple_list pl.isList (fun h' kp => ?_) (by simp only [List.size_toArray] <;> omega)
    have I1 : Inv X pins σ H { s with heap := h' } := I.kept (t' := s.toks) kp
    have I2 : Inv X pins σ (upd H h'.objs.size (.tup ys)) { s with heap := h'.push { cls := .type "tuple", data := .seq its.toArray } } :=
      I1.laid (t' := s.toks) (fun b o e => Heap.get?_push_of_some _ e) (Nat.le_refl _) (show ObjOk X.prog X.w _ _ _ (.tup ys) from ⟨hz, its, r', IsTup.new _ _⟩)
    exact ⟨.ref h'.objs.size, _, I2, rfl, q _ (I1.hok.fresh (Nat.le_refl _))⟩
  · obtain ⟨its, r', pl, hz⟩ := I.tuple hq
    exact call_tuple_same pl ⟨.ref p, H, I, rfl, q⟩
noncomputable def tyV (K : PySem.W.Frag) (T : String) (x : V) (H : Hp) : Prop := match x with
  | .str _ => T = "str"
  | .int _ => T = "int"
  | .ref p => (T = "list" ∧ ∃ xs, SqL K H p xs) ∨ (T = "tuple" ∧ ∃ o, K.lookup p = some o ∧ o.cls = .type "tuple" ∧ o.dict = none) ∨
      (T = "dict" ∧ ((∃ kvs, H p = some (.dK kvs)) ∨ ∃ kvs, H p = some (.dT kvs))) ∨ (T = "set" ∧ ∃ S n, H p = some (.set S n))
  | _ => False
theorem tyV_is {pins : List (Addr × Obj)} {σ : St} {H : Hp} {s : Shared} {T : String} {x : V} {v : Value} (I : Inv X pins σ H s) (r : RelV x v) (ty : tyV X.K T x H) :
    s.TypeIs v T ∧ ∀ a, v = .ref a → ∃ ob, s.heap.get? a = some ob ∧ ob.dict = none := by
  cases x with
  | str z =>
    obtain ⟨t, rfl⟩ := r
    cases (show T = "str" from ty)
    exact ⟨typeIs_str s z t, fun _ e => nomatch e⟩
  | int i =>
    obtain ⟨t, rfl⟩ := r
    cases (show T = "int" from ty)
    exact ⟨typeIs_int s i t, fun _ e => nomatch e⟩
  | ref p =>
    cases r
    rcases ty with ⟨rfl, xs, hq⟩ | ⟨rfl, o, hk, hc, hd⟩ | ⟨rfl, hk⟩ | ⟨rfl, S, n, hk⟩
    · obtain ⟨its, _, pl, _⟩ := I.list hq
      refine ⟨pl.isList.typeIs, fun a e => ?_⟩
      cases e
      obtain ⟨o, n, e, c, hd, _⟩ := pl
      exact ⟨o, e, hd⟩
    · refine ⟨⟨o, I.kIn p o hk, hc⟩, fun a e => ?_⟩
      cases e
      exact ⟨o, I.kIn _ o hk, hd⟩
    · have z : ∃ o, s.heap.get? p = some o ∧ o.ExactDict := by
        rcases hk with ⟨kvs, hk⟩ | ⟨kvs, hk⟩
        · obtain ⟨_, _, _, _, o, _, _, e, ex, _⟩ := I.hok p _ hk
          exact ⟨o, e, ex⟩
        · obtain ⟨_, _, _, _, o, _, _, e, ex, _⟩ := I.hok p _ hk
          exact ⟨o, e, ex⟩
      obtain ⟨o, e, ex⟩ := z
      refine ⟨⟨o, e, ex.1⟩, fun a e2 => ?_⟩
      cases e2
      exact ⟨o, e, ex.2.1⟩
    · obtain ⟨o, _, _, _, e, ex, _⟩ := I.hok p _ hk
      refine ⟨⟨o, e, ex.1⟩, fun a e2 => ?_⟩
      cases e2
      exact ⟨o, e, ex.2.1⟩
  | _ => exact False.elim ty
noncomputable def tBM (K : PySem.W.Frag) (T : String) (r : V → List V → Hp → VK → Prop) (to : TE) (t : TA) : TE := fun σ H Q => to σ H fun x H1 => tyV K T x H1 ∧ t σ H1 fun xs H2 => r x xs H2 Q
variable {o e : Expr} {es : List Expr} {to : TE} {t : TA} {name : Str} {apos cpos : Pos} {T id : String} {r : V → List V → Hp → VK → Prop}
theorem pe_bm (pa : PlainAttrs T) (slot : Slot T name id) (hty : typeOf (.builtin id) = pure (.type "method_descriptor")) (hm : MtR X id r) (ho : PE X o to) (ha : PA X (e :: es) t)
    (hbase : attributeBase o name X.env (eval o X.env) = eval o X.env := by rfl)
    (hfew : ((backTo cpos (starEach (e :: es) X.env)).all (fun x => !x.1) && (backToKw cpos (keywordEach [] X.env)).all (fun x => x.1.isSome)
      && decide ((e :: es).length + ([] : List Keyword).length + (if ([] : List Keyword).isEmpty then 0 else 1) < 30)) = true := by rfl)
    (hline : (apos.endLine == cpos.line) = true := by rfl) (hs : starEach (e :: es) X.env = (false, eval e X.env) :: starEach es X.env := by rfl) (hplain : (backTo cpos (starEach es X.env)).any (·.1) = false := by rfl) :
    PE X (.Call (.Attribute o name apos) (e :: es) [] cpos) (tBM X.K T r to t) := by
  intro pins s σ H Q I h
  refine wpAny_Call_method_late hbase hfew hline rfl (thn (ho pins s σ H _ I h) fun v s1 ⟨x, H1, I1, r1, ty, q1⟩ => ?_)
  obtain ⟨h1, h2⟩ := tyV_is I1 r1 ty
  refine ⟨T, id, pa, slot, hty, h1, h2, ?_⟩
  have hA := ha cpos pins s1 σ H1 _ I1 q1
  rw [hs] at hA ⊢
  refine Calls.callWith_builtin (by show (false || (backTo cpos (starEach es X.env)).any (·.1)) = false; rw [hplain] <;> rfl) (Calls.evalArgs_plain ?_)
  exact thn hA fun us s2 ⟨vs, H2, I2, r2, q2⟩ => hm pins s2 σ H2 x vs v us Q I2 r1 r2 q2
end
end L2
namespace L2
open PySem PySem.Spec PyProof.Rows
noncomputable def MtM (X : Cx) (id : String) (r : V → List V → Hp → VK → Prop) : Prop :=
  ∀ (pins : List (Addr × Obj)) (s : Shared) (σ : St) (H : Hp) (x : V) (xs : List V) (v : Value) (us : List Value) (Q : VK), Inv X pins σ H s → RelV x v → Vals xs us → r x xs H Q →
    wpAny (model X.prog X.w) X.A (call (.builtin id) (v :: us)) (EP X pins σ Q) X.xe s
theorem Vals.one : ∀ {x : V} {us : List Value}, Vals [x] us → ∃ u, us = [u] ∧ RelV x u
  | _, _, .cons r .nil => ⟨_, rfl, r⟩
section
variable {X : Cx} {pins : List (Addr × Obj)} {σ : St} {H : Hp} {s : Shared} {l b : Addr} {xs ys zs : List V}
theorem Inv.lset {its its' : List Value} {n : Nat} {f : Array Value → Array Value} {t' : Nat} (I : Inv X pins σ H s) (hH : H l = some (.lst xs))
    (e : s.heap.get? l = some { cls := .type "list", data := .seq its.toArray n }) (hf : f its.toArray = its'.toArray) (hv : Vals ys its') (hz : ys.length ≤ sizeLine) :
    Inv X pins σ (upd H l (.lst ys)) { s with heap := s.heap.update l (Obj.mapSeq f), toks := t' } := by
  have q := PySem.IsL.update e f
  rw [hf] at q
  refine I.write (x := l) (e := l) (by rw [hH]; exact trivial) (.inl rfl) (fun b' u hb hu => (Heap.get?_update_other s.heap (Obj.mapSeq f) (Ne.symm hb)).trans hu) ⟨_, q⟩ ?_
  exact ⟨hz, its', _, hv, q⟩
theorem Inv.lnew {its : List Value} {t' : Nat} (I : Inv X pins σ H s) (hv : Vals ys its) (hz : ys.length ≤ sizeLine) :
    Inv X pins σ (upd H s.heap.objs.size (.lst ys)) { s with heap := s.heap.push { cls := .type "list", data := .seq its.toArray }, toks := t' } :=
  I.laid (fun _ _ q => Heap.get?_push_of_some _ q) (Nat.le_refl _) ⟨hz, its, 0, hv, Heap.get?_push_size _ rfl⟩
theorem Inv.fresh (I : Inv X pins σ H s) : H s.heap.objs.size = none := I.hok.fresh (Nat.le_refl _)
theorem Inv.lstM (I : Inv X pins σ H s) (hH : H l = some (.lst xs)) : xs.length ≤ sizeLine ∧ ∃ (its : List Value) (n : Nat), Vals xs its ∧ xs.length = its.length ∧ s.heap.get? l = some { cls := .type "list", data := .seq its.toArray n } := by
  obtain ⟨z, its, n, r, e⟩ := I.hok l _ hH
  exact ⟨z, its, n, r, r.length, e⟩
end
section
variable {X : Cx}
noncomputable def rAppend : V → List V → Hp → VK → Prop := fun x vs H Q => ∃ l xs y, x = .ref l ∧ vs = [y] ∧ H l = some (.lst xs) ∧ xs.length < sizeLine ∧ Q .non (upd H l (.lst (xs ++ [y])))
theorem mt_append : MtM X "list.append" rAppend := by
  intro pins s σ H x vs v us Q I rx rv h
  obtain ⟨l, xs, y, rfl, rfl, hH, hz, q⟩ := h
  cases rx
  obtain ⟨u, rfl, ru⟩ := rv.one
  obtain ⟨z, its, n, r, hl, e⟩ := I.lstM hH
  refine call_meets F.slot_list_append ⟨_, e, rfl⟩ F.entry_list_append (F.args_list_append_2 _ _) (PySem.list_append l its.toArray n u (by rw [List.size_toArray]; omega)) ⟨e, ?_⟩
  refine ⟨.non, _, I.lset (its' := its ++ [u]) hH e (by simp) (r.append (.cons ru .nil)) ?_, rfl, q⟩
  rw [List.length_append, List.length_singleton]
  omega
noncomputable def rCat : R2 := fun x y H Q => ∃ l b xs zs, x = .ref l ∧ y = .ref b ∧ H l = some (.lst xs) ∧ H b = some (.lst zs) ∧ xs.length + zs.length ≤ sizeLine ∧ ∀ p, H p = none → Q (.ref p) (upd H p (.lst (xs ++ zs)))
theorem op_cat : OpR X (binaryOp .Add) rCat := by
  intro pins s σ H x y v u Q I rx ry h
  obtain ⟨l, b, xs, zs, rfl, rfl, hH, hB, hz, q⟩ := h
  cases rx
  cases ry
  obtain ⟨z, its, n, r, hl, e⟩ := I.lstM hH
  obtain ⟨z2, its2, n2, r2, hl2, e2⟩ := I.lstM hB
  refine PySem.P.add_list e e2 ?_ (by rw [List.size_toArray, List.size_toArray]; omega)
  have ea : its.toArray ++ its2.toArray = (its ++ its2).toArray := by simp
  rw [ea]
  exact ⟨.ref _, _, I.lnew (t' := s.toks) (r.append r2) (by rw [List.length_append]; omega), rfl, q _ I.fresh⟩
end
section
variable {prog : Program} {w : World} {A : Around} {E : Value → Shared → Prop} {s : Shared}
set_option maxRecDepth 100000 in
end
section
variable {X : Cx}
end
end L2
namespace Att
open PySem PySem.W PySem.Calls PyProof.Rows
theorem ints_of_wellAll {P : Params} {h : Heap} : ∀ (ns : List Int) (vs : List Value), WellAll P h vs (ns.map WData.int) → IntsAre vs ns := by
  intro ns
  induction ns with
  | nil =>
    intro vs w
    rw [List.map_nil] at w
    cases w
    exact .nil
  | cons n ns ih =>
    intro vs w
    rw [List.map_cons] at w
    cases w with
    | cons a b =>
      cases a
      exact .cons _ _ (ih _ b)
theorem script_of {l : OpenLaw} {n : Nat} (hn : l.most = some n) {P : Params} {h : Heap} {args : List WData} {vals : List Value}
    (hpre : l.row.toRowW.claim.pre args = true) (hwl : WellAll P h vals args) :
    ∃ a vs ns, vals = [Value.ref a] ∧ args = [WData.list (ns.map WData.int)] ∧ h.get? a = some { cls := .type "list", data := .seq vs.toArray } ∧ IntsAre vs ns ∧ ns.length ≤ n := by
  have hsh : WShape.hasAll [] args [.list .int] = true := (pre_splitW hpre).1
  have hc : l.pre.holds [] { args := args } = true := (pre_splitW hpre).2
  obtain ⟨d, r, rfl, h1, h2⟩ := hasAllW_cons hsh
  obtain rfl := hasAllW_nil h2
  obtain ⟨xs, rfl, h3⟩ := hasW_list h1
  obtain ⟨ns, rfl⟩ := items_int h3
  have hlen : ns.length ≤ n := by
    unfold OpenLaw.pre at hc
    have h4 : (WTm.not (.lt (.lit (.int (n : Int))) (.len (.arg 0)))).holds [] { args := [.list (ns.map .int)] } = true := by
      have h4 := (holds_andW hc).1
      rw [hn] at h4
      exact h4
    have h5 := condW_of h4 (w_not (w_lt w_lit (w_len_list (w_arg rfl))))
    rw [List.length_map] at h5
    refine Nat.le_of_not_lt fun q => ?_
    have q' : (n : Int) < ((ns.length : Nat) : Int) := by omega
    first
      | (rw [decide_eq_true q'] at h5; exact absurd h5 (by decide))
      | (simp at h5; omega)
  cases hwl with
  | cons w1 w2 =>
    cases w2
    cases w1 with
    | list ho hall => exact ⟨_, _, ns, rfl, rfl, ho, ints_of_wellAll ns _ hall, hlen⟩
theorem post_true (l : OpenLaw) (args : List WData) : l.row.toRowW.claim.post args (.bool true) args = true :=
  postW_of (r := l.row.toRowW) (X := (true == true))
    (show WShape.has [] (.bool true) .bool = true by first | rfl | decide | simp [WShape.has, WShape.arms, WShape.armsAll])
    (show (WTm.eq .res (.lit (.bool true))).value [] { args := args, res := some (.bool true), after := args } = some (.bool (true == true)) from w_eq_bool (w_res rfl) w_lit) rfl
theorem attach_call {l : OpenLaw} {n : Nat} {q : Program} {loose : List Str} {XP : (Str → Option Value) → Heap → Prop} {YP : World → Heap → Prop} {d : DefRec}
    (hn : l.most = some n) (hdf : d.params.defaults = [])
    (call : ∀ (w : World) (s₀ s₁ : Shared) (mg mb : Str → Option Value) (fa : Addr) (o : Obj) (pm cd doc : Value) (a : Addr) (vs : List Value) (ns : List Int),
      Ground q loose [] XP w s₀ mg mb s₁.heap → YP w s₁.heap →
      s₁.heap.get? fa = some o → o.data = .func (docDef d.name d.params d.body d.scope pm cd doc) → s₁.heap.CodeRec cd d.name → mg d.name = some (.ref fa) →
      s₁.heap.get? a = some { cls := .type "list", data := .seq vs.toArray } → IntsAre vs ns → ns.length ≤ n → s₁.gens = #[] →
      codeAny (model l.prog w) callerA (.call (.ref fa) ⟨[.ref a], []⟩) (fun r s' => r = .ok (.ret (.bool true)) ∧ OldK s₁.heap s'.heap ∧ s'.os = s₁.os ∧ AllBare s'.gens) s₁) :
    WalkO q loose XP YP l.row.toRowW d [] (fun f vs => PySem.call f vs) := by
  intro w s₀ s₁ mg mb G Y fa o pm cd doc dV kV ho hd hcd hD hmg hg args vals as hpre hlay hrd hwl hlo
  obtain rfl : dV = .none := Dflts.none hD hdf
  obtain rfl : kV = .none := Dflts.noKw hD
  obtain ⟨a, vs, ns, rfl, rfl, hobj, hints, hlen⟩ := script_of hn hpre hwl
  refine enter_call (codeAny_mono (call w s₀ s₁ mg mb fa o pm cd doc a vs ns G Y ho (fd_plain hd) hcd hmg hobj hints hlen hg) fun r s' hq => ?_)
  obtain ⟨rfl, h2, h3, h4⟩ := hq
  exact ⟨.inl ⟨.bool true, .bool true, [], rfl, fun _ => rfl, .bool true, post_true l _, fun _ => ⟨List.Pairwise.nil, fun _ hm => (nomatch hm)⟩⟩, h2, h3, h4⟩
section
variable {prog : Program} {w : World} {A : Around} {E : Value → Shared → Prop} {s : Shared} {K : Frag}
end
end Att
namespace L2
open PySem PySem.Spec PyProof.Rows
theorem vals_ints : ∀ {vs : List Value} {ns : List Int}, IntsAre vs ns → Vals (ns.map V.int) vs
  | _, _, .nil => .nil
  | _, _, .cons n t h => .cons ⟨t, rfl⟩ (vals_ints h)
noncomputable def Only (H : Hp) : Prop := ∀ b, H b = none ∨ ∃ o xs, H b = some (.frz o (.lst xs))
theorem law_call {P : Program} {w : World} {K : PySem.W.Frag} {mg mb : Str → Option Value} {CX : CXT} {k : Nat} {fa a : Addr} {fd : FuncData} {x : Str} {sp : Sp} {s₁ : Shared} {vs : List Value} {ns : List Int}
    (KX : K.In s₁.heap) (hns : s₁.heap.Ns mainGlobals mg) (hb : s₁.heap.Ns builtinsNs mb) (hbb : ∀ x : Str, x ≠ "__name__" → mb x = bootBuiltins x) (hlim : s₁.heap.NoLimit) (hg : s₁.gens = #[])
    (ha : s₁.heap.get? a = some { cls := .type "list", data := .seq vs.toArray }) (hi : IntsAre vs ns) (hl : ns.length ≤ sizeLine) (hr : Room k callerA)
    (F : ∀ base : Heap, K.In base → base.Ns mainGlobals mg → FnOk P w K mg base CX k fa fd [x] sp) (hbind : ∀ (s : Shared) (u : Value), BindsTo s fd ⟨[u], []⟩ [(x, u)])
    (hsp : ∀ H : Hp, Only H → SqL K H a (ns.map V.int) → sp [.ref a] H (fun v _ => v = .bl true) fun _ _ _ => False)
    (hCX : ∀ H e s', CX [] H s₁ (fun _ _ _ => False) e s' → False) :
    codeAny (model P w) callerA (.call (.ref fa) ⟨[.ref a], []⟩) (fun r s' => r = .ok (.ret (.bool true)) ∧ OldK s₁.heap s'.heap ∧ s'.os = s₁.os ∧ AllBare s'.gens) s₁ := by
  have rv := vals_ints hi
  have lenV := hi.length
  have core : ∀ H : Hp, Only H → SqL K H a (ns.map V.int) → HOk P w H s₁.heap → (∀ b, H b ≠ none → b = a) → (H a ≠ none → K.lookup a = none) →
      codeAny (model P w) callerA (.call (.ref fa) ⟨[.ref a], []⟩) (fun r s' => r = .ok (.ret (.bool true)) ∧ OldK s₁.heap s'.heap ∧ s'.os = s₁.os ∧ AllBare s'.gens) s₁ := by
    intro H hO hS hok hA hK
    have base_of : ∀ {b : Addr} {o : Obj}, s₁.heap.get? b = some o → H b = none → (hidT s₁.heap H).get? b = some o := fun e n => hidT_get e n
    have noA : ∀ {b : Addr} {o : Obj} {es : Array DictEntry} {ep : Nat}, s₁.heap.get? b = some o → o.data = .dict es ep → H b = none := fun {b o es ep} e d => by
      cases q : H b with
      | none => rfl
      | some u =>
        have e' : b = a := hA b (by rw [q]; simp)
        subst e'
        rw [ha] at e; cases e
        have d' : Data.seq vs.toArray _ = Data.dict es ep := d
        cases d'
    have nsK : ∀ {b : Addr} {m : Str → Option Value}, s₁.heap.Ns b m → (hidT s₁.heap H).Ns b m := fun {b m} ⟨o, es, ep, e, d, r⟩ => ⟨o, es, ep, base_of e (noA e d), d, r⟩
    have hKb : K.In (hidT s₁.heap H) := fun b o e => base_of (KX b o e) (by
      cases q : H b with
      | none => rfl
      | some u =>
        have e' : b = a := hA b (by rw [q]; simp)
        subst e'
        rw [hK (by rw [q]; simp)] at e; cases e)
    have hM : Mod K mg (hidT s₁.heap H) := ⟨hKb, nsK hns, ⟨mb, nsK hb, hbb⟩, let ⟨mc, h1, h2⟩ := hlim; ⟨mc, nsK h1, h2⟩⟩
    have e0 : Env0 P w K mg (hidT s₁.heap H) callerA [] s₁ H := ⟨rfl, hM, fun b o e => of_hidT e, Nat.le_of_eq (hidT_size _ _), trivial, fun b hb => absurd (show b ∈ ([] : List Addr) from hb) (by simp), hok, .of_eq hg⟩
    refine codeAny_mono ((F _ hKb (nsK hns)).run callerA [] s₁ H ⟨[.ref a], []⟩ [.ref a] [.ref a] _ _ hr e0 (hbind s₁ (.ref a)) (.cons rfl .nil) (hsp H hO hS)) fun r s' h => ?_
    cases r with
    | error e => exact (hCX H e s' h).elim
    | ok fl =>
      cases fl with
      | next => exact False.elim h
      | brk => exact False.elim h
      | cont => exact False.elim h
      | ret u =>
        obtain ⟨v, H', os, bare, un, hok', r', q⟩ := h
        have q' : v = .bl true := q
        subst q'
        obtain rfl : u = Value.bool true := r'
        refine ⟨rfl, OldK.of_keep fun b o e => ?_, os, bare⟩
        cases q : H b with
        | none => exact un.keep b o e q (by intro z; exact absurd (show b ∈ ([] : List Addr) from z) (by simp)) (by simp)
        | some u =>
          rcases hO b with z | ⟨ob, xs, z⟩
          · rw [q] at z; cases z
          · have z2 := un.frzs b ob _ z
            obtain ⟨e1, _⟩ := hok b _ z
            obtain ⟨e2, _⟩ := hok' b _ z2
            rw [e] at e1; cases e1
            exact e2
  cases hk : K.lookup a with
  | some o =>
    have e := KX a o hk
    rw [ha] at e
    cases e
    refine core (fun _ => none) (fun _ => .inl rfl) (.inr ⟨_, vs.toArray, _, hk, rfl, rfl, rfl, by rw [List.size_toArray, lenV]; exact hl, by simpa using rv⟩) (fun b u z => by have z' : (none : Option HO) = some u := z; cases z') (fun b z => absurd rfl z) fun z => absurd rfl z
  | none =>
    refine core (fun b => if b = a then some (.frz { cls := .type "list", data := .seq vs.toArray } (.lst (ns.map V.int))) else none) (fun b => ?_) (.inl (.inr ⟨{ cls := .type "list", data := .seq vs.toArray }, if_pos rfl⟩)) (fun b u z => ?_) (fun b z => ?_) fun _ => hk
    · by_cases hb : b = a
      · exact .inr ⟨_, _, if_pos hb⟩
      · exact .inl (if_neg hb)
    · by_cases hb : b = a
      · have z' := (if_pos hb).symm.trans z
        cases z'
        subst hb
        exact ⟨ha, by rw [List.length_map]; exact hl, vs, _, rv, ha⟩
      · have z' := (if_neg hb).symm.trans z
        cases z'
    · by_cases hb : b = a
      · exact hb
      · exact absurd (if_neg hb) z
end L2
namespace L2
open PySem PySem.Spec PyProof.Rows
noncomputable abbrev KOf {K : PySem.W.Frag} {h : Heap} (_ : K.In h) : PySem.W.Frag := K
theorem walk_of {l : PySem.W.OpenLaw} {n k : Nat} {q : Program} {loose : List Str} {XP : (Str → Option Value) → Heap → Prop} {YP : World → Heap → Prop} {d : DefRec} {K : Params → PySem.W.Frag} {CX : World → CXT} {sp : World → Sp} {x : Str}
    (hn : l.most = some n) (hn2 : n ≤ sizeLine) (hdf : d.params.defaults = []) (hr : Room k callerA)
    (hY : ∀ (w : World) (h : Heap), YP w h → (K w.params).In h)
    (F : ∀ (w : World) (mg : Str → Option Value) (fa : Addr) (h : Heap), (K w.params).In h → h.Ns mainGlobals mg → mg d.name = some (.ref fa) →
      ∃ fd : FuncData, (∀ (s : Shared) (u : Value), BindsTo s fd ⟨[u], []⟩ [(x, u)]) ∧
        ∀ base : Heap, (K w.params).In base → base.Ns mainGlobals mg → FnOk l.prog w (K w.params) mg base (CX w) k fa fd [x] (sp w))
    (hsp : ∀ (w : World) (H : Hp) (a : Addr) (ns : List Int), ns.length ≤ n → Only H → SqL (K w.params) H a (ns.map V.int) → sp w [.ref a] H (fun v _ => v = .bl true) fun _ _ _ => False)
    (hCX : ∀ (w : World) (H : Hp) (s : Shared) (e : Value) (s' : Shared), CX w [] H s (fun _ _ _ => False) e s' → False) :
    PySem.W.WalkO q loose XP YP l.row.toRowW d [] (fun f vs => PySem.call f vs) := by
  refine Att.attach_call hn hdf fun w s₀ s₁ mg mb fa o pm cd doc a vs ns G Y ho hd hcd hmg hobj hints hlen hg => ?_
  have KX := hY w _ Y
  obtain ⟨fd, hb, hF⟩ := F w mg fa _ KX G.T.g hmg
  exact law_call KX G.T.g G.T.b G.T.builtins G.T.nolimit hg hobj hints (Nat.le_trans hlen hn2) hr hF hb (fun H hO hS => hsp w H a ns hlen hO hS) fun H e s' => hCX w H s₁ e s'
end L2
namespace L2
open PySem PySem.Spec PyProof.Rows
noncomputable def inClass (s : Stmt) (j : Nat) : Stmt := match s with
  | .ClassDef _ _ _ body _ _ _ _ _ _ _ => body.getD j (.Pass ⟨0, 0, 0, 0⟩)
  | _ => .Pass ⟨0, 0, 0, 0⟩
noncomputable def defArgs (s : Stmt) : Arguments := match s with
  | .FunctionDef _ a _ _ _ _ _ _ _ _ => a
  | _ => { posonlyargs := [], args := [], vararg := none, kwonlyargs := [], kw_defaults := [], kwarg := none, defaults := [] }
noncomputable def defBody (s : Stmt) : List Stmt := match s with
  | .FunctionDef _ _ b _ _ _ _ _ _ _ => b
  | _ => []
noncomputable def defScope (s : Stmt) : Scope := match s with
  | .FunctionDef _ _ _ _ _ _ sc _ _ _ => sc
  | _ => { kind := .function, names := [], isGenerator := false, isCoroutine := false }
noncomputable abbrev CX0 : CXT := fun _ _ _ _ _ _ => False
noncomputable abbrev E0 : XK := fun _ _ _ => False
theorem pass0 {X : Cx} : Passes CX0 X E0 := fun _ _ _ _ _ _ _ h => h.elim
structure Fun (K : PySem.W.Frag) (x qual : Str) (st : Stmt) (f : Addr) (fd : FuncData) : Prop where
  ex : ∃ (oc : Value) (od : Option Addr) (kV doc pm : Value) (an : Option Addr) (cdv ct : Value) (osl : Array (Option Value)),
    fd = PySem.W.fnOf x qual (defArgs st) (defBody st) (defScope st) .none kV doc pm an cdv ct ∧ K.lookup f = some ⟨oc, od, .func fd, osl⟩ ∧ PySem.W.codeIn K cdv qual = true
  kp : PySem.W.keepIn K (.ref f) = true
section
variable {P : Program} {w : World} {K : PySem.W.Frag} {mg : Str → Option Value} {base : Heap}
theorem Fun.ok {x qual : Str} {st : Stmt} {f : Addr} {fd : FuncData} {N ps : List Str} {k : Nat} {sp : Sp} (F : Fun K x qual st f fd) (S : FnScope N ps (defScope st)) (len : ∀ vs H Q E, sp vs H Q E → vs.length = ps.length)
    (hbody : ∀ (cdv : Value) (A : Around) (outer : List Env) (s : Shared) (H : Hp) (vs : List V) (Q : VK) (E : XK), Room k (A.deeper (envOfC qual (defScope st) s.heap.objs.size f cdv)) → sp vs H Q E →
      ∃ t, PSs (cxOf CX0 P w K mg base N qual (defScope st) f cdv A outer s H E).nox (defBody st) t ∧ t { nx := fun _ H' => Q .non H', rt := Q } (start N vs) H) : FnOk P w K mg base CX0 (k + 1) f fd ps sp := by
  obtain ⟨oc, od, kV, doc, pm, an, cdv, ct, osl, rfl, lk, hcd⟩ := F.ex
  refine fn_of lk hcd S len fun A outer s H vs Q E hr hsp => ?_
  obtain ⟨t, h, q⟩ := hbody cdv A outer s H vs Q E hr hsp
  exact ⟨t, h.nox, q⟩
theorem Fun.binds {x qual : Str} {st : Stmt} {f : Addr} {fd : FuncData} {ps : List Str} (F : Fun K x qual st f fd)
    (h : ∀ (kV doc pm : Value) (an : Option Addr) (cdv ct : Value) (us : List Value), us.length = ps.length → bindArgs (PySem.W.fnOf x qual (defArgs st) (defBody st) (defScope st) .none kV doc pm an cdv ct) ⟨us, []⟩ = pure (ps.zip us)) : Binds K fd ps [] := by
  obtain ⟨oc, od, kV, doc, pm, an, cdv, ct, osl, rfl, lk, hcd⟩ := F.ex
  exact .all (h kV doc pm an cdv ct)
theorem fun_mk {x qual : Str} {st : Stmt} {f : Addr} {oc : Value} {od an : Option Addr} {osl : Array (Option Value)} {kV doc pm cdv ct : Value} (l : K.lookup f = some ⟨oc, od, .func (PySem.W.fnOf x qual (defArgs st) (defBody st) (defScope st) .none kV doc pm an cdv ct), osl⟩)
    (c : PySem.W.codeIn K cdv qual = true) (k : PySem.W.keepIn K (.ref f) = true) : Fun K x qual st f (PySem.W.fnOf x qual (defArgs st) (defBody st) (defScope st) .none kV doc pm an cdv ct) := ⟨⟨oc, od, kV, doc, pm, an, cdv, ct, osl, rfl, l, c⟩, k⟩
end
theorem hu_of {A : Around} {k : Nat} (hr : Room k A) : A.units + 1 < cLine := Nat.lt_of_le_of_lt (Nat.add_le_add_left (by decide : 1 ≤ 64) _) hr.units
theorem small1000 {n : Nat} (h : n ≤ 1000) : n < sizeLine := Nat.lt_of_le_of_lt h (by decide)
section
variable {X : Cx}
theorem pv (i : Nat) {x : Str} {pos : Pos} (hN : X.N[i]? = some x := by rfl) (hv : Vis X.env.scope x := by first | exact Or.inl rfl | exact Or.inr (Or.inl rfl) | exact Or.inr (Or.inr rfl)) (hd : (x == ("__debug__" : Str)) = false := by decide)
    (hcd : (x == ("__classdict__" : Str)) = false := by decide) : PE X (.Name x pos) (tVar i) := pe_var hN hv hd hcd
end
theorem iteF {A B : Prop} (h : B) : if false = true then A else B := by
  rw [if_neg Bool.false_ne_true]
  exact h
theorem iteT {A B : Prop} (h : A) : if true = true then A else B := by
  rw [if_pos rfl]
  exact h
theorem ite2 {c A B : Prop} [Decidable c] (h1 : c → A) (h2 : ¬ c → B) : if c then A else B := by
  by_cases h : c
  · rw [if_pos h]
    exact h1 h
  · rw [if_neg h]
    exact h2 h
theorem iteNS {c A B : Prop} [Decidable c] (hc : c) (h : B) : if (!decide c) = true then A else B := by
  rw [decide_eq_true hc]
  exact iteF h
noncomputable def Same (H H' : Hp) : Prop := ∀ b o, H b = some o → H' b = some o
theorem Same.refl (H : Hp) : Same H H := fun _ _ h => h
theorem Same.trans {H H1 H2 : Hp} (a : Same H H1) (b : Same H1 H2) : Same H H2 := fun c o h => b c o (a c o h)
theorem Same.free {H H' : Hp} (e : Same H H') {l : Addr} (h : H' l = Option.none) : H l = Option.none := by
  cases q : H l with
  | none => rfl
  | some o =>
    rw [e l o q] at h
    cases h
theorem Same.seq {K : PySem.W.Frag} {H H' : Hp} {a : Addr} {xs : List V} (e : Same H H') (h : SqL K H a xs) : SqL K H' a xs := by
  rcases h with (h | ⟨o, h⟩) | h
  · exact .inl (.inl (e _ _ h))
  · exact .inl (.inr ⟨o, e _ _ h⟩)
  · exact .inr h
end L2
set_option Elab.async false
set_option linter.all false
set_option maxRecDepth 100000
set_option maxHeartbeats 16000000
namespace L2
open PySem PySem.Spec PyProof.Rows
section
variable {X : Cx} {pins : List (Addr × Obj)} {σ : List (Option V)} {H : Hp} {s : Shared} {h' : Heap}
theorem Inv.turnedL {t' : Nat} {ch : List Addr} (I : Inv X pins σ H s) (k : ∀ b o, b ∉ ch → s.heap.get? b = some o → h'.get? b = some o) (hf : ∀ b ∈ ch, FpOk X pins H b) :
    Inv X pins σ H { s with heap := h', toks := t' } := by
  have nit : ∀ b u, H b = some u → b ∉ ch := fun b u e z => by rw [(hf b z).1] at e; cases e
  refine I.step (g' := s.gens) (d' := s.drawn) (ch := ch) (fun b hb => ?_) (fun b o _ _ hc e _ => k b o hc e) (fun b o _ _ hc e _ => ⟨o.slots, k b o hc e⟩) (fun _ _ _ _ n => n)
    (fun b o hc e => ⟨o, k b o hc e⟩) (fun _ _ e => e) (fun _ _ _ e => e) (fun b ps e => ⟨#[], by rw [e]; simp⟩) (fun m hm => ?_) (fun b u e => ?_) I.bare
  · obtain ⟨_, h1, _, h2, h3, h4⟩ := hf b hb
    exact ⟨h2, h1, h3, h4⟩
  · obtain ⟨o, es, ep, ho, r⟩ := hm
    exact ⟨o, es, ep, k _ o (fun z => (hf _ z).2.1 rfl) ho, r⟩
  · refine (I.hok b u e).stay (fun c v hc q => k c v ?_ q) (fun _ q => q) fun _ _ q => q
    rcases hc with z | z
    · rw [z]; exact nit b u e
    · exact nit c _ z
theorem Inv.track {T : Addr} {o : HO} (I : Inv X pins σ H s) (hf : FpOk X pins H T) (new : ObjOk X.prog X.w (upd H T o) s.heap T o) : Inv X pins σ (upd H T o) s := by
  obtain ⟨h0, h1, h5, h2, h3, h4⟩ := hf
  have nT : ∀ b u, H b = some u → b ≠ T := fun b u e z => by rw [z, h0] at e; cases e
  refine I.step (h' := s.heap) (g' := s.gens) (d' := s.drawn) (t' := s.toks) (ch := [T]) (fun b hb => ?_) (fun b o _ _ hc e _ => e) (fun b o _ _ hc e _ => ⟨o.slots, e⟩)
    (fun b o hc _ n => by rw [upd_ne (fun z => hc (by simp [z]))]; exact n)
    (fun b o hc e => ⟨o, e⟩) (fun b xs e => by rw [upd_ne (nT _ _ e)]; exact e) (fun b ob u e => by rw [upd_ne (nT _ _ e)]; exact e) (fun b ps e => ⟨#[], by rw [upd_ne (nT _ _ e), e]; simp⟩) (fun m hm => hm) (fun b u e => ?_) I.bare
  · have e : b = T := by simpa using hb
    subst e
    exact ⟨h2, h1, h3, h4⟩
  · by_cases hb : b = T
    · subst hb; rw [upd_same] at e; cases e; exact new
    · rw [upd_ne hb] at e
      exact (I.hok b u e).stay (fun c v _ q => q) (fun c q => by rw [upd_ne (nT _ _ q)]; exact q) fun c xs q => by rw [upd_ne (nT _ _ q)]; exact q
end
section
variable {X : Cx}
theorem call_isinst : CallR X (.builtin "isinstance") (fun xs H Q => ∃ x t T b, xs = [x, .ty T] ∧ TyOf X.K H x t ∧ PySem.W.kitOne X.K t (.type T) = some b ∧ Q (.bl b) H) := by
  intro pins s σ H xs us Q I r h
  obtain ⟨x, t, T, b, rfl, ty, e, q⟩ := h
  obtain ⟨u, w', rfl, rx, ry⟩ := vals2 r
  cases (show w' = Value.type T from ry)
  exact isinst_ok I rx ty e fun tk => ⟨.bl b, H, I.tok _, rfl, q⟩
noncomputable def rCatA (K : PySem.W.Frag) : R2 := fun x y H Q => ∃ a b xs ys, x = .ref a ∧ y = .ref b ∧ SqT K H a xs ∧ SqT K H b ys ∧ xs.length + ys.length ≤ sizeLine ∧
  (xs = [] → Q (.ref b) H) ∧ (xs ≠ [] → ys = [] → Q (.ref a) H) ∧ (xs ≠ [] → ys ≠ [] → ∀ p, H p = none → Q (.ref p) (upd H p (.tup (xs ++ ys))))
theorem op_catA : OpR X (binaryOp .Add) (rCatA X.K) := by
  intro pins s σ H x y v u Q I rx ry h
  obtain ⟨a, b, xs, ys, rfl, rfl, ha, hb, hz, q0, q1, q2⟩ := h
  cases rx
  cases ry
  by_cases hx : xs = []
  · obtain ⟨its, r1, p1, _⟩ := I.tuple ha
    obtain ⟨its2, r2, p2, _⟩ := I.tuple hb
    obtain ⟨⟨cls, dd, data, sl⟩, ho, hc, n, hd⟩ := id p1
    obtain ⟨⟨cls2, dd2, data2, sl2⟩, ho2, hc2, n2, hd2⟩ := id p2
    simp only at hc hd hc2 hd2
    subst hc hd hc2 hd2
    have hv : its = [] := r1.nil_iff.mpr hx
    exact concat_meets ⟨_, ho, rfl⟩ ⟨_, ho2, rfl⟩ noFill_tuple_add seq_tuple_add PySem.F.slot_tuple_add PySem.F.entry_tuple_add (PySem.F.args_tuple_add_2 _ _)
      (tuple_addW0 a b its.toArray its2.toArray n n2 dd dd2 sl sl2 (by simp [hv])) ⟨ho, ho2, ⟨.ref b, H, I, rfl, q0 hx⟩⟩
  · exact op_catT pins s σ H (.ref a) (.ref b) (.ref a) (.ref b) Q I rfl rfl ⟨a, b, xs, ys, rfl, rfl, ha, hb, hx, hz, q1 hx, q2 hx⟩
theorem eqV_refl : ∀ {x : V}, flatV x = true → eqV x x = true
  | .non, _ => by rfl
  | .bl b, _ => by simp [eqV]
  | .int i, _ => by simp [eqV]
  | .str z, _ => by simp [eqV]
  | .byt _, h => by first | exact absurd (show false = true from h) Bool.false_ne_true | simp [eqV]
  | .flt _, h => by first | exact absurd (show false = true from h) Bool.false_ne_true | simp [eqV]
  | .ref _, h => by first | exact absurd (show false = true from h) Bool.false_ne_true | simp [eqV]
  | .ty _, h => by first | exact absurd (show false = true from h) Bool.false_ne_true | simp [eqV]
theorem same_items {A : Around} {s : Shared} {xs : List V} {its its2 : List Value} (r1 : Vals xs its) (r2 : Vals xs its2) (hf : xs.all flatV = true) :
    ∀ j (h1 : j < its.toArray.size) (h2 : j < its2.toArray.size), SeqAt.EqAt A s its.toArray[j] its2.toArray[j] true := by
  intro j h1 h2
  have hl := r1.length
  have hj : j < xs.length := by simpa [hl] using h1
  have hx : xs[j]? = some xs[j] := by simp [hj]
  obtain ⟨u, hu, ru⟩ := r1.get hx
  obtain ⟨u2, hu2, ru2⟩ := r2.get hx
  have fx : flatV xs[j] = true := List.all_eq_true.mp hf _ (List.getElem_mem hj)
  have e1 : its.toArray[j] = u := by
    have : its[j]? = some its.toArray[j] := by simp at h1; simp [h1]
    rw [hu] at this; exact (Option.some.inj this).symm
  have e2 : its2.toArray[j] = u2 := by
    have : its2[j]? = some its2.toArray[j] := by simp at h2; simp [h2]
    rw [hu2] at this; exact (Option.some.inj this).symm
  rw [e1, e2]
  have := eqAt_V (A := A) (s := s) ru ru2 fx fx
  rw [eqV_refl fx] at this
  exact this
theorem op_eqL_same (hu : X.A.units < cLine) : OpR X (compareOp .Eq) (fun x y H Q => ∃ a b xs, x = .ref a ∧ y = .ref b ∧ SqL X.K H a xs ∧ SqL X.K H b xs ∧ xs.all flatV = true ∧ Q (.bl true) H) := by
  intro pins s σ H x y v u Q I rx ry h
  obtain ⟨a, b, xs, rfl, rfl, ha, hb, hf, q⟩ := h
  cases rx
  cases ry
  obtain ⟨its, r1, p1, _⟩ := I.list ha
  obtain ⟨its2, r2, p2, _⟩ := I.list hb
  have hl1 := r1.length
  have hl2 := r2.length
  refine SeqAt.eq_listAt (e := fun _ => true) p1.isList p2.isList (by simp; omega) hu (same_items r1 r2 hf) ?_
  have e : ((List.range its.toArray.size).all (fun _ => true)) = true := by simp
  rw [e]
  exact ⟨.bl true, H, I, rfl, q⟩
end
end L2
namespace ET
open PySem PySem.Spec
open PySem.AutoSeq1 (wpAny_loadPart')
section
variable {prog : Program} {w : World} {A : Around} {E : Value → Shared → Prop} {s : Shared}
end
end ET
namespace L2
open PySem PySem.Spec PyProof.Rows
section
variable {X : Cx} {elts : List Expr} {k : Nat} {tpos : Pos}
end
end L2
set_option Elab.async false
set_option linter.all false
set_option maxRecDepth 100000
set_option maxHeartbeats 16000000
namespace L2
open PySem PySem.Spec PyProof.Rows
structure Cl (P : Program) (w : World) (K : PySem.W.Frag) (mg : Str → Option Value) (base : Heap) (k : Nat) (x : Str) (ps : List Str) (sp : Sp) : Prop where
  ex : ∃ f fd, FnOk P w K mg base CX0 k f fd ps sp ∧ mg x = some (.ref f) ∧ PySem.W.keepIn K (.ref f) = true ∧ Binds K fd ps []
theorem pe_fn {X : Cx} {j k : Nat} {x : Str} {ps : List Str} {sp : Sp} {e : Expr} {es : List Expr} {t : TA} {p pos : Pos} (C : Cl X.prog X.w X.K X.mg X.base j x ps sp) (hr : Room k X.A) (hg : Gl X x) (ha : PA X (e :: es) t) (hjk : j ≤ k := by decide)
    (hdb : (x == ("__debug__" : Str)) = false := by decide) (he : starEach (e :: es) X.env = (false, eval e X.env) :: starEach es X.env := by rfl) (hpl : (backTo pos (starEach es X.env)).any (·.1) = false := by rfl) :
    PE X (.Call (.Name x p) (e :: es) [] pos) (tCall sp [] E0 t) := by
  obtain ⟨f, fd, F, hm, hk, hb⟩ := C.ex
  exact pe_call F (hr.mono hjk) hg hm hk hb .nil pass0 ha hdb he hpl
noncomputable def HasDef (K : PySem.W.Frag) (mg : Str → Option Value) (x : Str) (st : Stmt) : Prop := ∃ f fd, Fun K x x st f fd ∧ mg x = some (.ref f)
theorem hasDef_mk {K : PySem.W.Frag} {mg : Str → Option Value} {h : Heap} {x : Str} {st : Stmt} {f : Addr} {oc : Value} {od an : Option Addr} {osl : Array (Option Value)} {kV doc pm cdv ct : Value} (X : K.In h) (G : h.Ns mainGlobals mg)
    (a : PySem.W.nsIn K mainGlobals x = some (some (.ref f))) (l : K.lookup f = some ⟨oc, od, .func (PySem.W.fnOf x x (defArgs st) (defBody st) (defScope st) .none kV doc pm an cdv ct), osl⟩)
    (c : PySem.W.codeIn K cdv x = true) (k : PySem.W.keepIn K (.ref f) = true) : HasDef K mg x st :=
  ⟨f, _, fun_mk l c k, PySem.W.mg_of X G a⟩
theorem Cl.of {P : Program} {w : World} {K : PySem.W.Frag} {mg : Str → Option Value} {base : Heap} {x : Str} {st : Stmt} {N ps : List Str} {k : Nat} {sp : Sp} (T : HasDef K mg x st) (S : FnScope N ps (defScope st)) (len : ∀ vs H Q E, sp vs H Q E → vs.length = ps.length)
    (hb : ∀ (kV doc pm : Value) (an : Option Addr) (cdv ct : Value) (us : List Value), us.length = ps.length → bindArgs (PySem.W.fnOf x x (defArgs st) (defBody st) (defScope st) .none kV doc pm an cdv ct) ⟨us, []⟩ = pure (ps.zip us))
    (hbody : ∀ (f : Addr) (cdv : Value) (A : Around) (outer : List Env) (s : Shared) (H : Hp) (vs : List V) (Q : VK) (E : XK), Room k (A.deeper (envOfC x (defScope st) s.heap.objs.size f cdv)) → sp vs H Q E →
      ∃ t, PSs (cxOf CX0 P w K mg base N x (defScope st) f cdv A outer s H E).nox (defBody st) t ∧ t { nx := fun _ H' => Q .non H', rt := Q } (start N vs) H) : Cl P w K mg base (k + 1) x ps sp := by
  obtain ⟨f, fd, F, m⟩ := T
  exact ⟨f, fd, F.ok S len (fun cdv A outer s H vs Q E => hbody f cdv A outer s H vs Q E), m, F.kp, F.binds hb⟩
section
variable {H H1 H2 : Hp} {l p : Addr} {o : HO} {xs ys : List V}
theorem Same.put (s : Same H H1) (h : H l = none) : Same H (upd H1 l o) := fun b u q => by
  rw [upd_ne (ne_of_none q h)]; exact s b u q
theorem Same.new (s : Same H H1) (h : H1 p = none) : Same H (upd H1 p o) := s.put (s.free h)
theorem upd_keep {u : HO} (h : H l = some u) (hp : H p = none) : upd H p o l = some u := by
  rw [upd_ne (ne_of_none h hp)]; exact h
end
theorem atI_getD {α : Type} (xs : List α) (d : α) {i : Int} (h0 : 0 ≤ i) (h1 : i < (xs.length : Int)) : atI xs i = some (xs.getD i.toNat d) := by
  have e : i = ((i.toNat : Nat) : Int) := by omega
  have hl : i.toNat < xs.length := by omega
  have hx : xs[i.toNat]? = some (xs.getD i.toNat d) := by
    rw [List.getD_eq_getElem?_getD]
    simp [hl]
  have := atI_nat hx
  rw [← e] at this
  exact this
theorem atI_mem {α : Type} (xs : List α) {i : Int} (h0 : 0 ≤ i) (h1 : i < (xs.length : Int)) : ∃ v, v ∈ xs ∧ atI xs i = some v := by
  have e : i = ((i.toNat : Nat) : Int) := by omega
  have hl : i.toNat < xs.length := by omega
  have hx : xs[i.toNat]? = some xs[i.toNat] := by simp [hl]
  refine ⟨xs[i.toNat], List.getElem_mem hl, ?_⟩
  have := atI_nat hx
  rw [← e] at this
  exact this
theorem atI_menu (ys : List Str) {i : Int} (h0 : 0 ≤ i) (h1 : i < (ys.length : Int)) : ∃ y, y ∈ ys ∧ atI (ys.map V.str) i = some (.str y) := by
  obtain ⟨v, hv, e⟩ := atI_mem (ys.map V.str) h0 (by simpa using h1)
  obtain ⟨y, hy, rfl⟩ := List.mem_map.mp hv
  exact ⟨y, hy, e⟩
theorem atI_map {α : Type} (f : α → V) (xs : List α) (d : α) {i : Int} (h0 : 0 ≤ i) (h1 : i < (xs.length : Int)) : atI (xs.map f) i = some (f (xs.getD i.toNat d)) := by
  have := atI_getD (xs.map f) (f d) h0 (by simpa using h1)
  rw [this, List.getD_eq_getElem?_getD, List.getElem?_map, List.getD_eq_getElem?_getD]
  have hl : i.toNat < xs.length := by omega
  simp [hl]
theorem iteSE {x : Str} {A B : Prop} (h : A) : if decide (V.str x = V.str x) = true then A else B := by
  rw [if_pos (decide_eq_true rfl)]; exact h
theorem iteSN {x y : Str} {A B : Prop} (e : ¬ x = y) (h : B) : if decide (V.str x = V.str y) = true then A else B := by
  rw [if_neg (by rw [decide_eq_false (fun q => e (V.str.inj q))]; exact Bool.false_ne_true)]; exact h
theorem iteDP {p : Prop} [Decidable p] {A B : Prop} (hp : p) (h : A) : if decide p = true then A else B := by
  rw [if_pos (decide_eq_true hp)]; exact h
theorem iteDN {p : Prop} [Decidable p] {A B : Prop} (hp : ¬ p) (h : B) : if decide p = true then A else B := by
  rw [if_neg (by rw [decide_eq_false hp]; exact Bool.false_ne_true)]; exact h
theorem kit_same (K : PySem.W.Frag) (T : String) : PySem.W.kitOne K (.type T) (.type T) = some true := by
  unfold PySem.W.kitOne
  rw [if_pos (by simp)]
theorem kit_int_bool (K : PySem.W.Frag) : PySem.W.kitOne K (.type "int") (.type "bool") = some false := by kernel_rfl
noncomputable def isLet (c : Nat) : Bool := decide (97 ≤ c) && decide (c ≤ 122)
noncomputable def isFig (c : Nat) : Bool := decide (48 ≤ c) && decide (c ≤ 57)
noncomputable def isSg (c : Nat) : Bool := isLet c || isFig c
noncomputable def isNm : List Nat → Bool
  | [] => false
  | c :: r => isLet c && r.all isSg && decide (r.length ≤ 7)
noncomputable def NameOk (x : Str) : Prop := isNm x.cps.toList = true
noncomputable instance (x : Str) : Decidable (NameOk x) := inferInstanceAs (Decidable (_ = true))
theorem NameOk.len {x : Str} (h : NameOk x) : 1 ≤ x.length ∧ x.length ≤ 8 := by
  unfold NameOk at h
  obtain ⟨⟨l⟩⟩ := x
  cases l with
  | nil => exact absurd (show false = true from h) Bool.false_ne_true
  | cons c r =>
    have h' : (isLet c && r.all isSg && decide (r.length ≤ 7)) = true := h
    simp only [Bool.and_eq_true, decide_eq_true_eq] at h'
    show 1 ≤ (Array.mk (c :: r)).size ∧ (Array.mk (c :: r)).size ≤ 8
    simp only [List.size_toArray, List.length_cons]
    omega
theorem nameOk_one {c : Nat} (h : isLet c = true) : NameOk ⟨#[c]⟩ := by
  show (isLet c && ([] : List Nat).all isSg && decide (([] : List Nat).length ≤ 7)) = true
  simp [h]
theorem nameOk_snoc {x : Str} {c : Nat} (h : NameOk x) (hc : isSg c = true) (hl : x.length ≤ 7) : NameOk (x ++ ⟨#[c]⟩) ∧ (x ++ (⟨#[c]⟩ : Str)).length = x.length + 1 := by
  obtain ⟨⟨l⟩⟩ := x
  have e : ((⟨⟨l⟩⟩ : Str) ++ (⟨#[c]⟩ : Str)) = ⟨⟨l ++ [c]⟩⟩ := by
    show (⟨(⟨l⟩ : Array Nat) ++ #[c]⟩ : Str) = ⟨⟨l ++ [c]⟩⟩
    congr 1
    simp
  rw [e]
  have hl' : l.length ≤ 7 := by simpa [Str.length] using hl
  constructor
  · cases l with
    | nil => exact absurd (show false = true from h) Bool.false_ne_true
    | cons d r =>
      have h' : (isLet d && r.all isSg && decide (r.length ≤ 7)) = true := h
      show (isLet d && (r ++ [c]).all isSg && decide ((r ++ [c]).length ≤ 7)) = true
      simp only [Bool.and_eq_true, decide_eq_true_eq, List.all_append, List.length_append, List.length_cons, List.length_nil] at h' hl' ⊢
      refine ⟨⟨h'.1.1, h'.1.2, ?_⟩, by omega⟩
      simp [hc]
  · simp [Str.length]
inductive Th where
  | num (n : Int)
  | nam (x : Str)
noncomputable def ThOk : Th → Prop
  | .num n => 0 ≤ n ∧ n < 10 ^ 60
  | .nam x => NameOk x
theorem take_succ_get {α : Type} {l : List α} {i : Nat} {x : α} (h : l[i]? = some x) : l.take (i + 1) = l.take i ++ [x] := by
  rw [List.take_succ, h]; rfl
end L2
set_option Elab.async false
set_option linter.all false
set_option maxRecDepth 100000
set_option maxHeartbeats 16000000
namespace L2
open PySem PySem.Spec PyProof.Rows
theorem strsAre_of {ys : List Str} : ∀ {us : List Value}, Vals (ys.map V.str) us → StrsAre us ys := by
  induction ys with
  | nil => intro us r; cases r; exact .nil
  | cons y r ih =>
    intro us h
    cases h with
    | cons h1 h2 =>
      obtain ⟨t, rfl⟩ := h1
      exact .cons y t (ih h2)
theorem vals_strs : ∀ (l : List (Str × Tok)), Vals ((l.map (·.1)).map V.str) (strValues l)
  | [] => .nil
  | (x, t) :: r => .cons ⟨t, rfl⟩ (vals_strs r)
section
variable {X : Cx}
theorem mt_join : MtR X "str.join" (fun x vs H Q => ∃ sep p ys, x = .str sep ∧ vs = [.ref p] ∧ (SqT X.K H p (ys.map V.str) ∨ SqL X.K H p (ys.map V.str)) ∧ sep.length ≤ 16 ∧ (ys.map (·.length)).sum + ys.length ≤ 1048576 ∧ Q (.str (Str.join sep ys)) H) := by
  intro pins s σ H x xs v us Q I rx rs h
  obtain ⟨sep, p, ys, rfl, rfl, hq, hs, hw, q⟩ := h
  obtain ⟨t, rfl⟩ := rx
  obtain ⟨u, rfl, ru⟩ := vals1 rs
  cases ru
  rcases hq with hq | hq
  · obtain ⟨its, r', pl, hz⟩ := I.tuple hq
    exact join_tupleW pl (strsAre_of r') hs hw fun t' k => ⟨.str (Txt.join sep ys), H, I.tok _, ⟨_, rfl⟩, by rw [show Txt.join sep ys = Str.join sep ys from StrLaws.glued_eq_join sep ys]; exact q⟩
  · obtain ⟨its, r', pl, hz⟩ := I.list hq
    exact join_listW pl.isList (strsAre_of r') hs hw fun t' k => ⟨.str (Txt.join sep ys), H, I.tok _, ⟨_, rfl⟩, by rw [show Txt.join sep ys = Str.join sep ys from StrLaws.glued_eq_join sep ys]; exact q⟩
open Builtin Builtin.Str in
theorem split1D {prog : Program} {w : World} {A : Around} {E : Value → Shared → Prop} {s : Shared} {x : Str} {t : Tok} {Q : Value → Shared → Prop} {y : Str} {u : Tok} (hy : (y.length == 0) = false)
    (hq : ∀ (l : List (Str × Tok)) (n k : Nat), l.map (·.1) = Txt.split x y → Q (.ref s.heap.objs.size) { s with heap := s.heap.push { cls := .type "list", data := .seq (strValues l).toArray n }, toks := k })
    (hsz : x.length ≤ sizeLine) (hsz2 : (partsBetween x (occurrences x y 0 x.length (x.length + 1)) y.length).length ≤ sizeLine) :
    wpAny (model prog w) A (call (.builtin "str.split") [.str x t, .str y u]) Q E s := by
  cases h1 : (decide (x.length < y.length) || decide (strKind x < strKind y))
  · cases hf : (occurrences x y 0 x.length (x.length + 1)).isEmpty
    · refine call_meets F.slot_str_split (typeIs_str _ _ _) F.entry_str_split (F.args_str_split_2 _ _) (meets_str_split_sep x y t u h1 hy hf hsz hsz2) ?_
      show wants Q E _ { s with toks := _, heap := s.heap.push { cls := .type "list", data := .seq (strsFrom s.toks (partsBetween x (occurrences x y 0 x.length (x.length + 1)) y.length)).toArray } }
      rw [strsFrom_eq]
      exact hq (numbered s.toks _) _ _ ((numbered_texts _ _).trans ((if_neg (ne_true_of_eq_false h1)).trans (if_neg (ne_true_of_eq_false hf))).symm)
    · exact call_meets F.slot_str_split (typeIs_str _ _ _) F.entry_str_split (F.args_str_split_2 _ _) (meets_str_split_not_found x y t u h1 hy hf)
        (hq [(x, t)] _ _ ((if_neg (ne_true_of_eq_false h1)).trans (if_pos hf)).symm)
  · exact call_meets F.slot_str_split (typeIs_str _ _ _) F.entry_str_split (F.args_str_split_2 _ _) (meets_str_split_cannot_occur x y t u h1)
      (hq [(x, t)] _ _ (if_pos h1).symm)
open Builtin Builtin.Str in
theorem parts_le (x y : Str) : (partsBetween x (occurrences x y 0 x.length (x.length + 1)) y.length).length ≤ x.length + 2 := by
  rw [len_partsBetween]
  have := StrLaws.occ_length_le x y 0 x.length (x.length + 1)
  omega
theorem mt_split : MtR X "str.split" (fun x vs H Q => ∃ z y, x = .str z ∧ vs = [.str y] ∧ (y.length == 0) = false ∧ z.length ≤ 100000 ∧ ∀ l, H l = none → Q (.ref l) (upd H l (.lst ((Txt.split z y).map V.str)))) := by
  intro pins s σ H x xs v us Q I rx rs h
  obtain ⟨z, y, rfl, rfl, hy, hz, q⟩ := h
  obtain ⟨t, rfl⟩ := rx
  obtain ⟨u, rfl, ru⟩ := vals1 rs
  obtain ⟨t', rfl⟩ := ru
  have hs : sizeLine = 16777216 := sizeLine_eq
  have hp := parts_le z y
  have hn : H s.heap.objs.size = none := I.hok.fresh (Nat.le_refl _)
  refine split1D hy (fun l n k e => ?_) (by omega) (by omega)
  refine ⟨.ref s.heap.objs.size, _, I.laid (fun b o e => Heap.get?_push_of_some _ e) (Nat.le_refl _) ?_, rfl, q _ hn⟩
  have hl := split_le z y
  refine ⟨by rw [List.length_map]; omega, strValues l, n, ?_, Heap.get?_push_size _ rfl⟩
  rw [← e]
  exact vals_strs l
end
theorem cut_inj {c : Nat} : ∀ {a b u v : List Nat}, c ∉ a → c ∉ b → a ++ c :: u = b ++ c :: v → a = b ∧ u = v
  | [], [], u, v, _, _, h => by simp at h; exact ⟨rfl, h⟩
  | [], d :: b, u, v, _, hb, h => by
    simp at h
    exact absurd (by rw [h.1]; exact List.mem_cons_self) hb
  | x :: a, [], u, v, ha, _, h => by
    simp at h
    exact absurd (by rw [h.1]; exact List.mem_cons_self) ha
  | x :: a, d :: b, u, v, ha, hb, h => by
    simp at h
    obtain ⟨e1, e2⟩ := cut_inj (a := a) (b := b) (fun z => ha (List.mem_cons_of_mem _ z)) (fun z => hb (List.mem_cons_of_mem _ z)) h.2
    exact ⟨by rw [h.1, e1], e2⟩
theorem str_ext {x y : Str} (h : x.cps.toList = y.cps.toList) : x = y := by
  obtain ⟨⟨a⟩⟩ := x
  obtain ⟨⟨b⟩⟩ := y
  have h' : a = b := h
  rw [h']
theorem glue_list (x : Str) (c : Nat) (r : Str) : (x ++ (⟨#[c]⟩ : Str) ++ r).cps.toList = x.cps.toList ++ c :: r.cps.toList := by
  show (x.cps ++ #[c] ++ r.cps).toList = _
  simp
theorem join_inj {c : Nat} : ∀ {as bs : List Str}, as ≠ [] → bs ≠ [] → (∀ a ∈ as, c ∉ a.cps.toList) → (∀ b ∈ bs, c ∉ b.cps.toList) → Str.join ⟨#[c]⟩ as = Str.join ⟨#[c]⟩ bs → as = bs
  | [], _, h, _, _, _, _ => absurd rfl h
  | _, [], _, h, _, _, _ => absurd rfl h
  | [a], [b], _, _, _, _, h => by
    have h' : a = b := h
    rw [h']
  | [a], b :: b2 :: r, _, _, ha, _, h => by
    have h' : a = b ++ (⟨#[c]⟩ : Str) ++ Str.join ⟨#[c]⟩ (b2 :: r) := h
    have := ha a (List.mem_singleton.mpr rfl)
    rw [h', glue_list] at this
    exact absurd (by simp) this
  | a :: a2 :: r, [b], _, _, _, hb, h => by
    have h' : a ++ (⟨#[c]⟩ : Str) ++ Str.join ⟨#[c]⟩ (a2 :: r) = b := h
    have := hb b (List.mem_singleton.mpr rfl)
    rw [← h', glue_list] at this
    exact absurd (by simp) this
  | a :: a2 :: r, b :: b2 :: q, _, _, ha, hb, h => by
    have h' : a ++ (⟨#[c]⟩ : Str) ++ Str.join ⟨#[c]⟩ (a2 :: r) = b ++ (⟨#[c]⟩ : Str) ++ Str.join ⟨#[c]⟩ (b2 :: q) := h
    have h2 := congrArg (fun z : Str => z.cps.toList) h'
    simp only [glue_list] at h2
    obtain ⟨e1, e2⟩ := cut_inj (ha a List.mem_cons_self) (hb b List.mem_cons_self) h2
    have e3 := join_inj (as := a2 :: r) (bs := b2 :: q) (by simp) (by simp) (fun z hz => ha z (List.mem_cons_of_mem _ hz)) (fun z hz => hb z (List.mem_cons_of_mem _ hz)) (str_ext e2)
    rw [str_ext e1, e3]
theorem split_join {c : Nat} {ws : List Str} (h : ws ≠ []) (hf : ∀ a ∈ ws, c ∉ a.cps.toList) : Txt.split (Str.join ⟨#[c]⟩ ws) ⟨#[c]⟩ = ws := by
  have hp := split_pos (Str.join ⟨#[c]⟩ ws) ⟨#[c]⟩
  refine join_inj (by intro z; rw [z] at hp; simp at hp) h (StrLaws.split_free _ c) hf ?_
  exact StrLaws.join_split _ _
structure WordOk (x : Str) : Prop where
  nb : 32 ∉ x.cps.toList
  len : x.length ≤ 61
noncomputable instance (x : Str) : Decidable (WordOk x) := decidable_of_iff (32 ∉ x.cps.toList ∧ x.length ≤ 61) ⟨fun h => ⟨h.1, h.2⟩, fun h => ⟨h.nb, h.len⟩⟩
theorem isSg_ne {c : Nat} (h : isSg c = true) : c ≠ 32 := by
  rintro rfl
  exact absurd h (by decide)
theorem NameOk.signs {x : Str} (h : NameOk x) : ∀ c ∈ x.cps.toList, isSg c = true := by
  unfold NameOk at h
  intro c hc
  cases e : x.cps.toList with
  | nil => rw [e] at hc; simp at hc
  | cons d r =>
    rw [e] at h hc
    have h' : (isLet d && r.all isSg && decide (r.length ≤ 7)) = true := h
    simp only [Bool.and_eq_true, decide_eq_true_eq, List.all_eq_true] at h'
    rcases List.mem_cons.mp hc with z | z
    · rw [z]; unfold isSg; rw [h'.1.1]; rfl
    · exact h'.1.2 c z
theorem NameOk.word {x : Str} (h : NameOk x) : WordOk x := ⟨fun z => isSg_ne (h.signs 32 z) rfl, by have := h.len; omega⟩
noncomputable def thS : Th → Str
  | .num n => Str.ofString (toString n)
  | .nam x => x
theorem digit_range (m : Nat) : ∀ c ∈ (Nat.toDigits 10 m).map Char.toNat, 48 ≤ c ∧ c ≤ 57 := by
  intro c hc
  obtain ⟨d, hd, rfl⟩ := List.mem_map.mp hc
  have := Nat.isDigit_of_mem_toDigits (by decide) (by decide) hd
  have h2 : d.isDigit = true := this
  simp only [Char.isDigit, Bool.and_eq_true, decide_eq_true_eq] at h2
  exact ⟨h2.1, h2.2⟩
theorem num_text {n : Int} (h0 : 0 ≤ n) (h1 : n < 10 ^ 60) : (Str.ofString (toString n)).cps.toList = (Nat.toDigits 10 n.toNat).map Char.toNat ∧ (Nat.toDigits 10 n.toNat).length ≤ 60 := by
  have e : n = ((n.toNat : Nat) : Int) := by omega
  constructor
  · have h := text_ofNat n.toNat
    rw [show Int.ofNat n.toNat = n from e.symm] at h
    rw [h]
  · exact digits10_le (by decide) (by omega)
section
variable {X : Cx}
end
end L2
set_option Elab.async false
set_option linter.all false
set_option maxRecDepth 100000
set_option maxHeartbeats 16000000
namespace L2
open PySem PySem.Spec PyProof.Rows
noncomputable def closL (cells : List (Str × Addr)) : List (Str × NameKind) → List (Str × Addr) → List (Str × Addr)
  | [], cs => cs
  | (n, k) :: r, cs => closL cells r (if k == .free then (n, (cells.lookup n).getD 0) :: cs else cs)
theorem closL_pure {cells : List (Str × Addr)} {env : Env} (he : env.cells = cells) : ∀ (l : List (Str × NameKind)) (cs : List (Str × Addr)), (∀ y ∈ l, y.2 = .free → ∃ c, cells.lookup y.1 = some c) →
    (forIn l cs fun p cs => (do if p.2 == .free then (do let a ← cellOf env p.1; pure (ForInStep.yield ((p.1, a) :: cs))) else pure (ForInStep.yield cs) : Sem (ForInStep (List (Str × Addr))))) = pure (closL cells l cs) := by
  intro l
  induction l with
  | nil => intro cs _; rfl
  | cons p r ih =>
    intro cs h
    obtain ⟨n, k⟩ := p
    rw [List.forIn_cons]
    have hr : ∀ y ∈ r, y.2 = .free → ∃ c, cells.lookup y.1 = some c := fun y hy => h y (List.mem_cons_of_mem _ hy)
    by_cases hk : k = .free
    · subst hk
      obtain ⟨c, hc⟩ := h (n, .free) List.mem_cons_self rfl
      have hc' : env.cells.lookup n = some c := by rw [he]; exact hc
      have e : cellOf env n = pure c := by unfold cellOf; rw [hc']
      simp only [beq_self_eq_true, if_true, e, pure_bind]
      rw [ih _ hr]
      unfold closL
      rw [if_pos (by simp), show (cells.lookup n).getD 0 = c by rw [show cells.lookup n = some c from hc]; rfl]
      conv => rhs; unfold closL
    · have hb : (k == NameKind.free) = false := by simpa using hk
      simp only [hb, Bool.false_eq_true, if_false, pure_bind]
      rw [ih _ hr]
      conv => rhs; unfold closL
      rw [if_neg (by rw [hb]; exact Bool.false_ne_true)]
theorem closL_lookup {cells : List (Str × Addr)} {x : Str} {c : Addr} : ∀ (l : List (Str × NameKind)) (cs : List (Str × Addr)), (∀ y ∈ l, y.2 = .free → ∃ c, cells.lookup y.1 = some c) → (closL cells l cs).lookup x = some c → cells.lookup x = some c ∨ cs.lookup x = some c
  | [], cs, _, h => .inr h
  | (n, k) :: r, cs, hy, h => by
    unfold closL at h
    rcases closL_lookup r _ (fun y q => hy y (List.mem_cons_of_mem _ q)) h with h | h
    · exact .inl h
    · by_cases hk : k = .free
      · subst hk
        obtain ⟨c', hc⟩ := hy (n, .free) List.mem_cons_self rfl
        have hc : cells.lookup n = some c' := hc
        rw [if_pos (by simp), List.lookup_cons] at h
        split at h
        · rename_i e
          have e' : x = n := by simpa using e
          subst e'
          rw [hc] at h
          cases h
          exact .inl hc
        · exact .inr h
      · rw [if_neg (by simpa using hk)] at h
        exact .inr h
theorem closL_keep {cells : List (Str × Addr)} {x : Str} : ∀ (l : List (Str × NameKind)) (cs : List (Str × Addr)), (∃ c, cs.lookup x = some c) → ∃ c, (closL cells l cs).lookup x = some c
  | [], _, h => h
  | (n, k) :: r, cs, h => by
    unfold closL
    refine closL_keep r _ ?_
    split
    · rw [List.lookup_cons]
      split
      · exact ⟨_, rfl⟩
      · exact h
    · exact h
theorem closL_has {cells : List (Str × Addr)} {x : Str} : ∀ (l : List (Str × NameKind)) (cs : List (Str × Addr)), (x, NameKind.free) ∈ l → ∃ c, (closL cells l cs).lookup x = some c
  | (n, k) :: r, cs, h => by
    unfold closL
    rcases List.mem_cons.mp h with e | h
    · cases e
      refine closL_keep r _ ?_
      rw [if_pos (by simp), List.lookup_cons]
      simp
    · exact closL_has r _ h
theorem closure_pure {sc : Scope} {env : Env} (h : ∀ y ∈ sc.names, y.2 = .free → ∃ c, env.cells.lookup y.1 = some c) : closureFor sc env = pure (closL env.cells sc.names []) := by
  have := closL_pure (env := env) rfl sc.names [] h
  unfold closureFor
  simp only [bind_pure]
  exact this
theorem relabel_free {env : Env} {x : Str} : ∀ {names : List (Str × NameKind)}, names.lookup x = some .free →
    (names.map fun (n, k) => if (k == NameKind.free && env.scope.kind == .function && env.kindOf n == some .cell) then (n, NameKind.cell) else (n, k)).lookup x = some .cell ∨
    (names.map fun (n, k) => if (k == NameKind.free && env.scope.kind == .function && env.kindOf n == some .cell) then (n, NameKind.cell) else (n, k)).lookup x = some .free
  | [], h => by simp at h
  | (n, k) :: r, h => by
    have ih := @relabel_free env x r
    simp only [List.map_cons]
    by_cases hc : (k == NameKind.free && env.scope.kind == .function && env.kindOf n == some .cell) = true
    · rw [if_pos hc]
      simp only [List.lookup_cons] at h ⊢
      cases hx : x == n with
      | true => exact .inl rfl
      | false => simp only [hx] at h ⊢; exact ih h
    · rw [if_neg hc]
      simp only [List.lookup_cons] at h ⊢
      cases hx : x == n with
      | true => simp only [hx] at h ⊢; exact .inr h
      | false => simp only [hx] at h ⊢; exact ih h
theorem relabel_back {env : Env} {x : Str} : ∀ {names : List (Str × NameKind)},
    (names.map fun (n, k) => if (k == NameKind.free && env.scope.kind == .function && env.kindOf n == some .cell) then (n, NameKind.cell) else (n, k)).lookup x = some .cell ∨
    (names.map fun (n, k) => if (k == NameKind.free && env.scope.kind == .function && env.kindOf n == some .cell) then (n, NameKind.cell) else (n, k)).lookup x = some .free →
    (x, NameKind.free) ∈ names ∨ (x, NameKind.cell) ∈ names
  | [], h => by simp at h
  | (n, k) :: r, h => by
    have ih := @relabel_back env x r
    simp only [List.map_cons] at h
    have tl : (x, NameKind.free) ∈ r ∨ (x, NameKind.cell) ∈ r → (x, NameKind.free) ∈ (n, k) :: r ∨ (x, NameKind.cell) ∈ (n, k) :: r := fun q => q.imp (List.mem_cons_of_mem _) (List.mem_cons_of_mem _)
    by_cases hc : (k == NameKind.free && env.scope.kind == .function && env.kindOf n == some .cell) = true
    · rw [if_pos hc] at h
      have hk : k = .free := by
        simp only [Bool.and_eq_true] at hc
        simpa using hc.1.1
      simp only [List.lookup_cons] at h
      cases hx : x == n with
      | true =>
        have e : x = n := by simpa using hx
        subst e hk
        exact .inl List.mem_cons_self
      | false => simp only [hx] at h; exact tl (ih h)
    · rw [if_neg hc] at h
      simp only [List.lookup_cons] at h
      cases hx : x == n with
      | true =>
        have e : x = n := by simpa using hx
        subst e
        simp only [hx] at h
        rcases h with h | h
        · cases h; exact .inr List.mem_cons_self
        · cases h; exact .inl List.mem_cons_self
      | false => simp only [hx] at h; exact tl (ih h)
structure CompScope (osc : Scope) (N : List Str) (sc : Scope) (M : List Str) (ρ : List (Option Nat)) : Prop where
  kind : sc.kind = .function
  nocell : ∀ y ∈ sc.names, y.2 ≠ .cell
  own : ∀ y ∈ sc.names, y.2 = .local → sc.names.lookup y.1 = some .local
  fre : ∀ y ∈ sc.names, y.2 = .free → osc.names.lookup y.1 = some .cell ∨ osc.names.lookup y.1 = some .free
  len : ρ.length = M.length
  ren : ∀ p ∈ ρ.zip M, (match p.1 with | none => true | some i => decide (N[i]? = some p.2 ∧ sc.names.lookup p.2 = some .free)) = true
  nd : M.Nodup
noncomputable def subS (ρ : List (Option Nat)) (σ : St) : St := ρ.map fun o => match o with | none => none | some i => (σ[i]?).join
noncomputable def cxComp (X : Cx) (sc : Scope) (cl : List (Str × Addr)) (C : Addr) (M : List Str) (s : Shared) (H : Hp) (fp : List Addr) (xe : Value → Shared → Prop) : Cx where
  prog := X.prog
  w := X.w
  K := X.K
  mg := X.mg
  base := X.base
  A := X.A
  N := M
  s₀ := s
  H₀ := H
  env := compEnvC sc cl C X.env
  outer := X.stack
  stack := X.stack
  ex := fp
  fn := fun _ => false
  calm := X.calm
  pn := []
  xe := xe
theorem comp_loop {P : Program} {w : World} {A : Around} {R : Result → Shared → Prop} {s : Shared} {elt tg iter : Expr} {ifs : List Expr} {sc : Scope} {pos : Pos} {it acc : Value} {env : Env} (J : Nat → Shared → Prop)
    (turn : ∀ n s, J n s → wpAny (model P w) A (pyNext it) (fun r s1 => match r with
      | none => R (.ok .next) s1
      | some v => wpAny (model P w) A (letOwnedTupleGo tg it v) (fun _ s2 => wpAny (model P w) A (assign tg env v) (fun _ s3 =>
          wpAny (model P w) A (forIn ifs true fun c r => if r = true then do let ok ← isTrue c env (eval c env); pure (ForInStep.yield ok) else pure (ForInStep.yield r)) (fun ok s4 =>
            if ok = true then wpAny (model P w) A (eval elt env) (fun x s5 => wpAny (model P w) A (call (.builtin "list.append") [acc, x]) (fun _ s6 => ∃ m, m < n ∧ J m s6) (notedBy (model P w) A env fun e s' => R (.error e) s') s5)
              (notedBy (model P w) A env fun e s' => R (.error e) s') s4
            else ∃ m, m < n ∧ J m s4) (notedBy (model P w) A env fun e s' => R (.error e) s') s3) (notedBy (model P w) A env fun e s' => R (.error e) s') s2) (notedBy (model P w) A env fun e s' => R (.error e) s') s1)
      (notedBy (model P w) A env fun e s' => R (.error e) s') s)
    (n : Nat) (h : J n s) : codeAny (model P w) A (.compLoop (.ListComp elt [⟨tg, iter, ifs, 0⟩] sc pos) 0 it acc env) R s := by
  refine codeAny_loop rfl J (fun n s hJ => ?_) n h
  show wpAny (model P w) A ((compTurn (.ListComp elt [⟨tg, iter, ifs, 0⟩] sc pos) 0 it acc env).onRaise fun x => do noteFrame x env; theTreesLotGoes x) _ _ s
  refine wpAny_noted ?_
  rw [compTurn_list]
  refine wpAny_bind (wpAny_standAt (wpAny_bind (thn (turn n s hJ) fun r s1 h1 => ?_)))
  cases r with
  | none => exact wpAny_pure h1
  | some v =>
    refine wpAny_bind (thn h1 fun _ s2 h2 => wpAny_bind (thn h2 fun _ s3 h3 => wpAny_bind (thn h3 fun ok s4 h4 => ?_)))
    cases ok with
    | false => exact wpAny_pure ⟨rfl, h4⟩
    | true => exact wpAny_bind (wpAny_bind (thn h4 fun x s5 h5 => wpAny_bind (thn h5 fun _ s6 h6 => wpAny_pure (wpAny_pure ⟨rfl, h6⟩))))
noncomputable def PTs (X : Cx) (ifs : List Expr) (t : TT) : Prop :=
  ∀ (pins : List (Addr × Obj)) (s : Shared) (σ : St) (H : Hp) (Q : Bool → Hp → Prop), Inv X pins σ H s → t σ H Q →
    wpAny (model X.prog X.w) X.A (forIn ifs true fun c r => if r = true then do let ok ← isTrue c X.env (eval c X.env); pure (ForInStep.yield ok) else pure (ForInStep.yield r)) (TP X pins σ Q) X.xe s
noncomputable def tNoTest : TT := fun _ H Q => Q true H
theorem nt {σ : St} {H : Hp} {A B : Hp → Prop} (h : A H) : tNoTest σ H (fun b H5 => if b = true then A H5 else B H5) := by
  show if true = true then A H else B H
  exact iteT h
theorem ntG {i : Nat} {v : V} {σ : St} {H : Hp} {A B : St → Hp → Prop} (h : A (σ.set i (some v)) H) : gName i v σ H (fun σ4 H4 => tNoTest σ4 H4 fun b H5 => if b = true then A σ4 H5 else B σ4 H5) := by
  show if true = true then A (σ.set i (some v)) H else B (σ.set i (some v)) H
  exact iteT h
theorem pts_nil {X : Cx} : PTs X [] tNoTest := fun _ _ _ H _ I h => wpAny_tests_nil ⟨H, I, h⟩
noncomputable def tComp (wi : TI) (ρ : List (Option Nat)) (g : TG) (tt : TT) (te : TE) : TE := fun σ H Q => wi σ H fun J H1 => ∀ D, H1 D = none → ∃ W : Nat → Nat → St → Hp → Prop, (∃ m, W 0 m (subS ρ σ) (upd H1 D (.lst []))) ∧ ∀ i m σ2 H2, W i m σ2 H2 →
  (J.stop i H2 ∧ Q (.ref D) H2) ∨ (J.go i H2 ∧ ∃ N : St → Hp → Prop, (∀ σ' H', N σ' H' → ∃ m', m' < m ∧ W (i + 1) m' σ' H') ∧ ∀ x H3, J.yld i H2 x H3 → g x σ2 H3 fun σ4 H4 => tt σ4 H4 fun b H5 =>
    if b = true then te σ4 H5 fun y H6 => ∃ ys, H6 D = some (.lst ys) ∧ ys.length < sizeLine ∧ N σ4 (upd H6 D (.lst (ys ++ [y])))
    else N σ4 H5)
theorem comp_by {J : It} {g : TG} {tt : TT} {te : TE} {Q : Hp → Prop} {σ : St} {H : Hp} {D : Addr} (n : Nat) (Pv : Nat → St → Hp → Prop) (h0 : Pv 0 σ (upd H D (.lst [])))
    (hs : ∀ i σ2 H2, i < n → Pv i σ2 H2 → J.go i H2 ∧ ∀ x H3, J.yld i H2 x H3 → g x σ2 H3 fun σ4 H4 => tt σ4 H4 fun b H5 =>
      if b = true then te σ4 H5 fun y H6 => ∃ ys, H6 D = some (.lst ys) ∧ ys.length < sizeLine ∧ Pv (i + 1) σ4 (upd H6 D (.lst (ys ++ [y]))) else Pv (i + 1) σ4 H5)
    (hd : ∀ σ2 H2, Pv n σ2 H2 → J.stop n H2 ∧ Q H2) :
    ∃ W : Nat → Nat → St → Hp → Prop, (∃ m, W 0 m σ (upd H D (.lst []))) ∧ ∀ i m σ2 H2, W i m σ2 H2 →
      (J.stop i H2 ∧ Q H2) ∨ (J.go i H2 ∧ ∃ N : St → Hp → Prop, (∀ σ' H', N σ' H' → ∃ m', m' < m ∧ W (i + 1) m' σ' H') ∧ ∀ x H3, J.yld i H2 x H3 → g x σ2 H3 fun σ4 H4 => tt σ4 H4 fun b H5 =>
        if b = true then te σ4 H5 fun y H6 => ∃ ys, H6 D = some (.lst ys) ∧ ys.length < sizeLine ∧ N σ4 (upd H6 D (.lst (ys ++ [y]))) else N σ4 H5) := by
  refine ⟨fun i m σ H => m = n - i ∧ i ≤ n ∧ Pv i σ H, ⟨n, by simp, Nat.zero_le _, h0⟩, ?_⟩
  rintro i m σ2 H2 ⟨rfl, hi, p⟩
  by_cases hlt : i < n
  · obtain ⟨h1, h2⟩ := hs i σ2 H2 hlt p
    exact .inr ⟨h1, Pv (i + 1), fun σ' H' p' => ⟨n - (i + 1), by omega, rfl, hlt, p'⟩, h2⟩
  · have e : i = n := by omega
    subst e
    exact .inl (hd σ2 H2 p)
section
variable {X : Cx} {tg elt iter : Expr} {ifs : List Expr} {sc : Scope} {pos : Pos} {M : List Str} {ρ : List (Option Nat)} {wi : TI} {g : TG} {tt : TT} {te : TE}
theorem comp_block (osc : Scope) (hosc : X.env.scope = osc) (N : List Str) (hN : X.N = N) (S : CompScope osc N sc M ρ) (hc : X.calm = true)
    (hg : ∀ cl C s H fp xe, PG (cxComp X sc cl C M s H fp xe) tg g) (ht : ∀ cl C s H fp xe, PTs (cxComp X sc cl C M s H fp xe) ifs tt) (he : ∀ cl C s H fp xe, PE (cxComp X sc cl C M s H fp xe) elt te)
    {pins : List (Addr × Obj)} {σ : St} {H : Hp} {s : Shared} {itv : Value} {Q : VK} {RR : Value → Addr → Result → Shared → Prop} (I : Inv X pins σ H s)
    (h2 : PIE X pins σ tg (fun J H1 => ∀ D, H1 D = none → ∃ W : Nat → Nat → St → Hp → Prop, (∃ m, W 0 m (subS ρ σ) (upd H1 D (.lst []))) ∧ ∀ i m σ2 H2, W i m σ2 H2 →
      (J.stop i H2 ∧ Q (.ref D) H2) ∨ (J.go i H2 ∧ ∃ N : St → Hp → Prop, (∀ σ' H', N σ' H' → ∃ m', m' < m ∧ W (i + 1) m' σ' H') ∧ ∀ x H3, J.yld i H2 x H3 → g x σ2 H3 fun σ4 H4 => tt σ4 H4 fun b H5 =>
        if b = true then te σ4 H5 fun y H6 => ∃ ys, H6 D = some (.lst ys) ∧ ys.length < sizeLine ∧ N σ4 (upd H6 D (.lst (ys ++ [y])))
        else N σ4 H5)) itv s)
    (hR : ∀ (D C : Addr) (H' : Hp) (s' : Shared) (mC : Str → Option Value), Inv X pins σ H' s' → s'.heap.Ns C mC → FpOk X pins H' C → Q (.ref D) H' → RR (.ref D) C (.ok .next) s') :
    wpAny (model X.prog X.w) X.A (newList []) (fun acc s3 => wpAny (model X.prog X.w) X.A (newFunctionEnv sc X.env.globals (closL X.env.cells sc.names []) [] X.env.qual none .none (some X.env)) (fun cenv s4 =>
      codeAny (model X.prog X.w) X.A (.compStart (.ListComp elt [⟨tg, iter, ifs, 0⟩] sc pos) 0 itv acc { cenv with scope := relabel sc X.env }) (RR acc cenv.locals) s4) X.xe s3) X.xe s := by
  subst hosc hN
  obtain ⟨it, fp, tn, J, H2, rfl, I2, T, st2, f2, q2⟩ := h2
  have hcells : ∀ y ∈ sc.names, y.2 = .free → ∃ c, X.env.cells.lookup y.1 = some c := fun y hy hf => I2.ok.has y.1 (S.fre y hy hf)
  have hclx : ∀ {x c}, (closL X.env.cells sc.names []).lookup x = some c → X.env.cells.lookup x = some c := fun {x c} e => (closL_lookup _ _ hcells e).elim id fun z => by simp at z
  generalize hcl : closL X.env.cells sc.names [] = cl at hclx ⊢
  refine wpAny_newObj_type (wpAny_newFunctionEnv S.nocell (by intro y hy; simp at hy) (fun h1 hns hsb => ?_) S.kind)
  dsimp only at hns hsb ⊢
  generalize hG : s.heap.push { cls := .type "list", dict := none, data := .seq ([] : List Value).toArray } = G at hns hsb ⊢
  have hC : G.objs.size = s.heap.objs.size + 1 := by rw [← hG, Heap.size_push]
  have old : ∀ b o, s.heap.get? b = some o → h1.get? b = some o := fun b o e =>
    hsb.extBut b o (Nat.ne_of_lt (by rw [hC]; exact Nat.lt_succ_of_lt (Heap.lt_size e))) (Heap.get?_push_of_some _ (hG ▸ Heap.get?_push_of_some _ e))
  have hD1 : h1.get? s.heap.objs.size = some { cls := .type "list", dict := none, data := .seq ([] : List Value).toArray } :=
    hsb.extBut _ _ (by rw [hC]; exact Nat.ne_of_lt (Nat.lt_succ_self _)) (Heap.get?_push_of_some _ (hG ▸ Heap.get?_push_size _ rfl))
  have hDn : H2 s.heap.objs.size = none := I2.hok.fresh (Nat.le_refl _)
  obtain ⟨W, ⟨m0, w0⟩, turn⟩ := q2 s.heap.objs.size hDn
  have hCle : s.heap.objs.size ≤ G.objs.size := by rw [hC]; exact Nat.le_succ _
  have hCD : G.objs.size ≠ s.heap.objs.size := by rw [hC]; exact Nat.succ_ne_self _
  generalize hxe : notedBy (model X.prog X.w) X.A (compEnvC sc cl G.objs.size X.env) (fun e s' => RR (.ref s.heap.objs.size) G.objs.size (.error e) s') = xe
  have fpC : ∀ b ∈ fp, b ≠ G.objs.size := fun b hb => by
    obtain ⟨o, e, _⟩ := T.obj 0 _ st2 b hb
    have := Heap.lt_size e
    exact Nat.ne_of_lt (Nat.lt_of_lt_of_le this hCle)
  have fpS : ∀ b ∈ fp, b ∉ frs X.stack := fun b hb z => by
    obtain ⟨f0, f1, f3, _⟩ := f2 b hb
    rcases List.mem_cons.mp (I2.stkSub b z) with e | e
    · exact f1 e
    · exact f3 e
  have hok : (cxComp X sc cl G.objs.size M s H2 fp xe).Ok := by
    refine ⟨I2.ok.mod, S.kind, I2.ok.glob, I2.ok.blt, hCle, fun x y c e1 e2 => I2.ok.inj x y c (hclx e1) (hclx e2), fun x hx => ?_, (fun x c e _ => absurd (show false = true from e) Bool.false_ne_true), I2.ok.hd, I2.ok.frames, .inl rfl, fun b hb => ⟨fpC b hb, fun x c e => (f2 b hb).2.2.2.2.1 x c (hclx e)⟩,
      I2.bs, Nat.le_trans I2.ok.bsz I2.sz, fun b o e hb => ?_, fpS, I2.stack, I2.stkFree⟩
    · rcases relabel_back (names := sc.names) (env := X.env) hx with q | q
      · rw [← hcl]; exact closL_has _ _ q
      · exact absurd rfl (S.nocell _ q)
    · rcases (f2 b hb).2.2.2.1 with z | z
      · exact I2.ok.noex b o e z
      · exact absurd (Nat.lt_of_lt_of_le (Heap.lt_size e) (Nat.le_trans I2.ok.bsz z)) (Nat.lt_irrefl _)
  have I4 : Inv (cxComp X sc cl G.objs.size M s H2 fp xe) [] (subS ρ σ) (upd H2 s.heap.objs.size (.lst [])) { s with heap := h1, toks := s.toks + ([] : List (Str × Value)).length } := by
    refine ⟨hok, rfl, I2.bare, Un.laid old (Nat.le_refl _) hDn, ⟨_, hns, fun j x v e1 e2 _ => ?_⟩, fun x c e => ?_, ?_, fun x c e => ?_, fun p hp => absurd (show p ∈ ([] : List (Addr × Obj)) from hp) (by simp), I2.hok.laid old (Nat.le_refl _) ⟨by show 0 ≤ sizeLine; decide, [], 0, .nil, hD1⟩, ?_⟩
    · unfold subS at e2
      rw [List.getElem?_map] at e2
      cases q : ρ[j]? with
      | none => rw [q] at e2; cases e2
      | some o =>
        rw [q] at e2
        cases o with
        | none => cases e2
        | some i =>
          have e2' : (σ[i]?).join = some v := Option.some.inj e2
          have e3 : σ[i]? = some (some v) := by
            cases z : σ[i]? with
            | none => rw [z] at e2'; cases e2'
            | some y => rw [z] at e2'; cases y with
              | none => cases e2'
              | some y => cases e2'; rfl
          have hz : (ρ.zip M)[j]? = some (some i, x) := List.getElem?_zip_eq_some.mpr ⟨q, e1⟩
          have hr := S.ren (some i, x) (List.mem_of_getElem? hz)
          obtain ⟨r1, r2⟩ := of_decide_eq_true hr
          obtain ⟨m, hn, hl⟩ := I2.loc
          have hfr := S.fre _ (PySem.mem_of_lookup r2) rfl
          obtain ⟨u, ru, lk⟩ := hl i x v r1 e3 (hfr.elim (fun z => .inr (.inl z)) fun z => .inr (.inr z))
          refine ⟨u, ru, ?_⟩
          rcases lk with ⟨k, _⟩ | ⟨_, c, hcc, cell⟩
          · have k' : X.env.scope.names.lookup x = some .local := k
            rcases hfr with z | z
            · rw [k'] at z; cases z
            · rw [k'] at z; cases z
          · obtain ⟨c', hc'⟩ := closL_has (cells := X.env.cells) sc.names [] (PySem.mem_of_lookup r2)
            rw [hcl] at hc'
            have := hclx hc'
            rw [hcc] at this
            cases this
            obtain ⟨oc, ho, hd⟩ := cell
            exact .inr ⟨relabel_free r2, _, hc', oc, old _ _ ho, hd⟩
    · obtain ⟨v, oc, ho, hd⟩ := I2.cell x c (hclx e)
      exact ⟨v, oc, old _ _ ho, hd⟩
    · show upd H2 s.heap.objs.size (.lst []) G.objs.size = none
      rw [upd_ne hCD]
      exact I2.hok.fresh hCle
    · show upd H2 s.heap.objs.size (.lst []) c = none
      obtain ⟨v, oc, ho, hd⟩ := I2.cell x c (hclx e)
      rw [upd_ne (Nat.ne_of_lt (Heap.lt_size ho))]
      exact I2.freeC x c (hclx e)
    · show (subS ρ σ).length = M.length
      unfold subS
      rw [List.length_map, S.len]
  have st4 : tn 0 h1 := T.keep 0 _ _ st2 fun b _ o e => old b o e
  have fr4 : ∀ b ∈ fp, upd H2 s.heap.objs.size (.lst []) b = none := fun b hb => by
    obtain ⟨o, e, _⟩ := T.obj 0 _ st2 b hb
    rw [upd_ne (Nat.ne_of_lt (Heap.lt_size e))]
    exact (f2 b hb).1
  have stat : ∀ {H' : Hp}, (∀ b ∈ fp, H' b = none) → ∀ b ∈ fp, FpOk (cxComp X sc cl G.objs.size M s H2 fp xe) [] H' b := fun hn b hb =>
    ⟨hn b hb, fpC b hb, fpS b hb, .inl hb, fun x c e => (f2 b hb).2.2.2.2.1 x c (hclx e), fun p hp => absurd (show p ∈ ([] : List (Addr × Obj)) from hp) (by simp)⟩
  have loop : codeAny (model X.prog X.w) X.A (.compLoop (.ListComp elt [⟨tg, iter, ifs, 0⟩] sc pos) 0 (.ref it) (.ref s.heap.objs.size) (compEnvC sc cl G.objs.size X.env)) (RR (.ref s.heap.objs.size) G.objs.size)
      { s with heap := h1, toks := s.toks + ([] : List (Str × Value)).length } := by
    refine comp_loop (fun n s' => ∃ i σ' H', Inv (cxComp X sc cl G.objs.size M s H2 fp xe) [] σ' H' s' ∧ tn i s'.heap ∧ (∀ b ∈ fp, H' b = none) ∧ W i n σ' H') ?_ m0 ⟨0, _, _, I4, st4, fr4, w0⟩
    rw [hxe]
    rintro n s3 ⟨i, σ3, H3, I3, st3, fr3, w3⟩
    rcases turn i n σ3 H3 w3 with ⟨stop, qn⟩ | ⟨go, N, hN, step⟩
    · refine thn (T.done (cxComp X sc cl G.objs.size M s H2 fp xe) rfl rfl rfl hc i [] s3 σ3 H3 xe I3 (stat fr3) st3 stop) fun r s4 ⟨hr, I5⟩ => ?_
      subst hr
      obtain ⟨mC, nC, _⟩ := I5.loc
      have I6 : Inv X pins σ H3 s4 := I2.call' I5.os I5.base I5.hok I5.bare fun b hb => ⟨(f2 b hb).2.2.2.1, (f2 b hb).2.1, (f2 b hb).2.2.2.2.1, (f2 b hb).2.2.2.2.2⟩
      exact hR _ _ H3 s4 mC I6 nC (I2.fpOk hCle I5.free) qn
    · refine thn (T.item (cxComp X sc cl G.objs.size M s H2 fp xe) rfl rfl rfl hc i [] s3 σ3 H3 xe I3 (stat fr3) st3 go) fun r s4 ⟨u, hr, h4⟩ => ?_
      subst hr
      refine thn h4 fun _ s5 ⟨x, H5, I5, r5, y5, st5, fr5⟩ => ?_
      have I5' := I5.pinned (stat fr5) (T.obj _ _ st5)
      refine thn (hg cl G.objs.size s H2 fp xe _ s5 σ3 H5 x u _ I5' r5 (step x H5 y5)) fun _ s6 ⟨σ6, H6, I6, q6⟩ => ?_
      have fin : ∀ {s7 : Shared} {σ7 : St} {H7 : Hp}, Inv (cxComp X sc cl G.objs.size M s H2 fp xe) ([] ++ pinsAt fp s5.heap) σ7 H7 s7 → (∃ m', m' < n ∧ W (i + 1) m' σ7 H7) →
          ∃ m, m < n ∧ ∃ i σ' H', Inv (cxComp X sc cl G.objs.size M s H2 fp xe) [] σ' H' s7 ∧ tn i s7.heap ∧ (∀ b ∈ fp, H' b = none) ∧ W i m σ' H' := fun {s7 σ7 H7} I7 ⟨m', hm, w7⟩ => by
        refine ⟨m', hm, i + 1, σ7, H7, I7.unpinned, T.keep _ _ _ st5 fun b hb o e => (I7.pin (b, o) (List.mem_append_right _ (List.mem_append_right _ (mem_pinsAt hb e)))).1, fun b hb => ?_, w7⟩
        obtain ⟨o, e, d⟩ := T.obj _ _ st5 b hb
        exact (I7.pin (b, o) (List.mem_append_right _ (List.mem_append_right _ (mem_pinsAt hb e)))).2.1
      refine thn (ht cl G.objs.size s H2 fp xe _ s6 σ6 H6 _ I6 q6) fun ok s7 ⟨H7, I7, q7⟩ => ?_
      cases ok with
      | false =>
        rw [if_neg Bool.false_ne_true] at q7 ⊢
        exact fin I7 (hN _ _ q7)
      | true =>
        rw [if_pos rfl] at q7 ⊢
        refine thn (he cl G.objs.size s H2 fp xe _ s7 σ6 H7 _ I7 q7) fun y s8 ⟨yv, H8, I8, r8, ys, hys, hlt, q8⟩ => ?_
        obtain ⟨z, its, k, rv, hl, e⟩ := I8.lstM hys
        refine call_meets F.slot_list_append ⟨_, e, rfl⟩ F.entry_list_append (F.args_list_append_2 _ _) (PySem.list_append _ its.toArray k y (by rw [List.size_toArray]; omega)) ⟨e, ?_⟩
        exact fin (I8.lset (its' := its ++ [y]) hys e (by simp) (rv.append (.cons r8 .nil)) (by rw [List.length_append, List.length_singleton]; omega)) (hN _ _ q8)
  exact codeAny_compStart_list loop (T.self X.A 0 _ _ _ st4 loop)
theorem pe_comp (osc : Scope) (N : List Str) (S : CompScope osc N sc M ρ) (hi : PI X tg iter wi) (hg : ∀ cl C s H fp xe, PG (cxComp X sc cl C M s H fp xe) tg g) (ht : ∀ cl C s H fp xe, PTs (cxComp X sc cl C M s H fp xe) ifs tt)
    (he : ∀ cl C s H fp xe, PE (cxComp X sc cl C M s H fp xe) elt te) (hosc : X.env.scope = osc := by rfl) (hN : X.N = N := by rfl) (hc : X.calm = true := by rfl) (hs : ∀ x, foldedSetIterable iter X.env x = pure x := by intro _; rfl) :
    PE X (.ListComp elt [⟨tg, iter, ifs, 0⟩] sc pos) (tComp wi ρ g tt te) := by
  intro pins s σ H Q I h
  have hcells : ∀ y ∈ sc.names, y.2 = .free → ∃ c, X.env.cells.lookup y.1 = some c := fun y hy hf => I.ok.has y.1 (by show X.env.scope.names.lookup y.1 = _ ∨ X.env.scope.names.lookup y.1 = _; rw [hosc]; exact S.fre y hy hf)
  rw [eval_ListComp]
  refine wpAny_comprehension_free (M := model X.prog X.w) (A := X.A) (E := X.xe) (e := .ListComp elt [⟨tg, iter, ifs, 0⟩] sc pos) rfl hs (closure_pure hcells) S.kind S.own (thn (hi pins s σ H _ I h) fun v s1 h1 => thn h1 fun itv s2 h2 => ?_)
  obtain ⟨_, _, _, _, _, _, I2, _⟩ := id h2
  refine comp_block (RR := fun acc C => compPost (model X.prog X.w) X.A X.xe none (EP X pins σ Q) acc C) osc hosc N hN S hc hg ht he I2 h2 fun D C H' s' mC I' nC fC q => ?_
  refine ⟨mC, nC, fun h' sb => ?_⟩
  obtain ⟨f0, f1, _, f3, f4, f5⟩ := fC
  exact ⟨.ref D, H', I'.turned (t' := s'.toks) (fun b o hb e => (sb.2 b hb).trans e) f0 f1 f3 f4 f5, rfl, q⟩
end
end L2
set_option Elab.async false
set_option linter.all false
set_option maxRecDepth 100000
set_option maxHeartbeats 16000000
namespace L2
open PySem PySem.Spec PyProof.Rows
noncomputable def Its (x : Str) : It := ⟨fun i _ => i < x.cps.size, fun i H v H' => H' = H ∧ ∃ c, x.cps.toList[i]? = some c ∧ v = .str ⟨#[c]⟩, fun i _ => x.cps.size ≤ i⟩
theorem turn_str {P : Program} {w : World} {K : PySem.W.Frag} {tg : Expr} (x : Str) (t : Tok) (it : Addr) (ty : String) (hty : ty = "str_ascii_iterator" ∨ ty = "str_iterator") : Turn P w K tg (Its x) [it] it (fun i h => h.IsStrIter it ty x t i) where
  mem := by simp
  obj := fun i h st b hb => by
    have e : b = it := by simpa using hb
    subst e
    obtain ⟨o, e, c, d⟩ := st
    exact ⟨o, e, fun v z => by rw [d] at z; cases z⟩
  keep := fun i h h' st k => by
    obtain ⟨o, e, c, d⟩ := st
    exact ⟨o, k it (by simp) o e, c, d⟩
  item := by
    intro X hP hw hK hc i pins s σ H E I hf st hg
    subst hP hw hK
    obtain ⟨f0, f1, f2, f3, f4, f5⟩ := hf it (by simp)
    have hg' : i < x.cps.size := hg
    have hn : ["enumerate", "zip", "dict_itemiterator", "dict_reverseitemiterator", "odict_iterator", "itertools.zip_longest", "itertools.pairwise"].contains ty = false := by rcases hty with e | e <;> subst e <;> decide
    have fin : ∀ (v : Value) (h' : Heap) (tk : Nat), SignAt x i v → h'.IsStrIter it ty x t (i + 1) → (∀ b o, b ∉ [it] → s.heap.get? b = some o → h'.get? b = some o) → ∃ u, some v = some u ∧
        wpAny (model X.prog X.w) X.A (letOwnedTupleGo tg (.ref it) u) (fun _ s2 => ∃ y H', Inv X pins σ H' s2 ∧ RelV y u ∧ (Its x).yld i H y H' ∧ s2.heap.IsStrIter it ty x t (i + 1) ∧ ∀ b ∈ [it], H' b = none) E { s with heap := h', toks := tk } := fun v h' tk hv st' kk => by
      obtain ⟨c, u, hc', rfl⟩ := hv
      have I1 : Inv X pins σ H { s with heap := h', toks := tk } := I.turned (fun b o hb e => kk b o (by simpa using hb) e) f0 f1 f3 f4 f5
      obtain ⟨o, e, c', d⟩ := id st'
      exact ⟨_, rfl, go_of (s := { s with heap := h', toks := tk }) e c' d hn ⟨.str ⟨#[c]⟩, H, I1, ⟨u, rfl⟩, ⟨rfl, c, by rw [← hc']; simp, rfl⟩, st', fun b hb => (hf b hb).1⟩⟩
    rcases hty with e | e
    · subst e
      exact (Walks.strAscii (prog := X.prog) (w := X.w) (I.ok.hd hc) it x t).item i s _ _ hg' st fun v h' tk hv st' kk => fin v h' tk hv st' kk
    · subst e
      exact (Walks.strWide (prog := X.prog) (w := X.w) (I.ok.hd hc) it x t).item i s _ _ hg' st fun v h' tk hv st' kk => fin v h' tk hv st' kk
  done := by
    intro X hP hw hK hc i pins s σ H E I hf st hg
    subst hP hw hK
    obtain ⟨f0, f1, f2, f3, f4, f5⟩ := hf it (by simp)
    have hg' : x.cps.size ≤ i := hg
    rcases hty with e | e
    · subst e
      exact wpAny_pyNext_ascii_end (I.ok.hd hc) st (by simpa using hg') fun h' eb => ⟨rfl, I.turned (t' := s.toks) (fun b o hb e => eb b o hb e) f0 f1 f3 f4 f5⟩
    · subst e
      exact wpAny_pyNext_wide_end (I.ok.hd hc) st (by simpa using hg') fun h' eb => ⟨rfl, I.turned (t' := s.toks) (fun b o hb e => eb b o hb e) f0 f1 f3 f4 f5⟩
  self := fun _ _ _ _ _ st h => by
    rcases hty with e | e
    · subst e; exact wpAny_pyIter_striter_ascii st h
    · subst e; exact wpAny_pyIter_striter_wide st h
noncomputable def Itr3 (lo c : Int) (n : Nat) : It := ⟨fun i _ => i < n, fun i H x H' => H' = H ∧ x = .int (lo + i * c), fun i _ => n ≤ i⟩
theorem turn_range3 {P : Program} {w : World} {K : PySem.W.Frag} {tg : Expr} (it : Addr) (lo c : Int) (n : Nat) : Turn P w K tg (Itr3 lo c n) [it] it (fun i h => IsRangeIter h it (lo + (i : Nat) * c) ((n : Int) - (i : Nat)) c) where
  mem := by simp
  obj := fun i h st b hb => by
    have e : b = it := by simpa using hb
    subst e
    exact ⟨_, st, fun v z => by
      have z' : Data.fields _ = Data.cell v := z
      cases z'⟩
  keep := fun i h h' st k => k it (by simp) _ st
  item := by
    intro X hP hw hK hc i pins s σ H E I hf st hg
    subst hP hw hK
    obtain ⟨f0, f1, f2, f3, f4, f5⟩ := hf it (by simp)
    refine (Walks.range (prog := X.prog) (w := X.w) (I.ok.hd hc) it lo c n).item i s _ _ hg st fun v h' tk hv st' kk => ?_
    obtain ⟨t, rfl⟩ := hv
    have I1 : Inv X pins σ H { s with heap := h', toks := tk } := I.turned (fun b o hb e => kk b o (by simpa using hb) e) f0 f1 f3 f4 f5
    exact ⟨_, rfl, go_of (s := { s with heap := h', toks := tk }) (n := "range_iterator") st' rfl rfl (by decide) ⟨.int (lo + i * c), H, I1, ⟨t, rfl⟩, ⟨rfl, rfl⟩, st', fun b hb => (hf b hb).1⟩⟩
  done := by
    intro X hP hw hK hc i pins s σ H E I hf st hg
    subst hP hw hK
    obtain ⟨f0, f1, f2, f3, f4, f5⟩ := hf it (by simp)
    exact wpAny_pyNext_range_end (I.ok.hd hc) st (by have : n ≤ i := hg; omega) fun h' eb => ⟨rfl, I.turned (t' := s.toks) (fun b o hb e => eb b o hb e) f0 f1 f3 f4 f5⟩
  self := fun _ _ _ _ _ st h => wpAny_pyIter_rangeiter st h
section
variable {X : Cx} {tg : Expr}
noncomputable def iStr (tl : TE) : TI := fun σ H R => tl σ H fun v H1 => ∃ x, v = .str x ∧ R (Its x) H1
theorem pi_str {l : Expr} {tl : TE} (hl : PE X l tl) : PI X tg l (iStr tl) := by
  intro pins s σ H R I h
  refine thn (hl pins s σ H _ I h) fun v s1 ⟨y, H1, I1, r1, q1⟩ => ?_
  obtain ⟨x, e, q⟩ := q1
  subst e
  obtain ⟨t, rfl⟩ := r1
  have fp1 : ∀ b ∈ [s1.heap.objs.size], FpOk X pins H1 b := fun b hb => by
    have e : b = s1.heap.objs.size := by simpa using hb
    subst e
    exact I1.fpOk (Nat.le_refl _) (I1.hok.fresh (Nat.le_refl _))
  cases ha : x.cps.all (· < 128)
  · exact wpAny_pyIter_wide ha ⟨s1.heap.objs.size, [s1.heap.objs.size], _, _, H1, rfl, I1.kept (t' := s1.toks) fun b o e => Heap.get?_push_of_some _ e, turn_str x t _ _ (.inr rfl), ⟨_, Heap.get?_push_size _ rfl, rfl, rfl⟩, fp1, q⟩
  · exact wpAny_pyIter_ascii ha ⟨s1.heap.objs.size, [s1.heap.objs.size], _, _, H1, rfl, I1.kept (t' := s1.toks) fun b o e => Heap.get?_push_of_some _ e, turn_str x t _ _ (.inl rfl), ⟨_, Heap.get?_push_size _ rfl, rfl, rfl⟩, fp1, q⟩
noncomputable def iRng3 (ta : TA) : TI := fun σ H R => ta σ H fun vs H1 => ∃ i j c : Int, vs = [.int i, .int j, .int c] ∧ (-(2 ^ 60) ≤ i ∧ i < 2 ^ 60 ∧ -(2 ^ 60) ≤ j ∧ j < 2 ^ 60 ∧ 0 < c ∧ c < 1000) ∧ R (Itr3 i c (Builtin.Range.rangeSize i j c).toNat) H1
theorem pi_range3 {a b c : Expr} {ta : TA} {p pos : Pos} (hg : Gl X "range") (hm : X.mg "range" = none) (ha : PA X [a, b, c] ta) (hs : starEach [a, b, c] X.env = [(false, eval a X.env), (false, eval b X.env), (false, eval c X.env)] := by rfl)
    (hs2 : starEach [b, c] X.env = [(false, eval b X.env), (false, eval c X.env)] := by rfl) :
    PI X tg (.Call (.Name "range" p) [a, b, c] [] pos) (iRng3 ta) := by
  intro pins s σ H R I h
  refine Call_ (ld_blt I hg hm boot_range (PyProof.Rows.callWith_type1 (thn (ha pos pins s σ H _ I h) fun us s1 ⟨vs, H1, I1, r1, q1⟩ => ?_) (by rw [hs, hs2]) (by rw [hs2]; rfl)))
  obtain ⟨i, j, k, e, ⟨q1, q2, q3, q4, q5, q6⟩, q⟩ := q1
  subst e
  cases r1 with
  | cons r rr =>
  cases rr with
  | cons r' rr =>
  cases rr with
  | cons r'' rr =>
  cases rr
  obtain ⟨t, rfl⟩ := r
  obtain ⟨t', rfl⟩ := r'
  obtain ⟨t'', rfl⟩ := r''
  have hd0 : (0 : Int) ≤ (j - i - 1) / k ∨ ¬ i < j := by
    by_cases hij : i < j
    · exact .inl (Int.ediv_nonneg (by omega) (by omega))
    · exact .inr hij
  have hd1 : (j - i - 1) / k ≤ j - i - 1 ∨ ¬ i < j := by
    by_cases hij : i < j
    · exact .inl (Int.ediv_le_self _ (by omega))
    · exact .inr hij
  have hsz : 0 ≤ Builtin.Range.rangeSize i j k ∧ Builtin.Range.rangeSize i j k ≤ 2 ^ 61 := by
    unfold Builtin.Range.rangeSize
    rw [if_pos (by omega)]
    split
    · constructor <;> omega
    · constructor <;> omega
  refine call_range_3 (by omega) ?_ (.inl (PyProof.noPylong_small (by omega)))
  refine wpAny_pyIter_range (IsRange.new ..) ?_ ?_
  · unfold Builtin.Range.small
    simp only [Builtin.Range.rangeFitsLong, Bool.and_eq_true, Bool.or_eq_true, decide_eq_true_eq, beq_iff_eq, show k > 0 from q5, if_true]
    omega
  have I2 : Inv X pins σ H1 { s1 with heap := s1.heap.push { cls := .type "range", data := .fields #[.int i t, .int j t', .int k t''] }, toks := s1.toks } := I1.kept fun b o e => Heap.get?_push_of_some _ e
  refine ⟨(s1.heap.push { cls := .type "range", data := .fields #[.int i t, .int j t', .int k t''] }).objs.size, [(s1.heap.push { cls := .type "range", data := .fields #[.int i t, .int j t', .int k t''] }).objs.size], _, _, H1, rfl,
    I2.kept (t' := s1.toks) fun b o e => Heap.get?_push_of_some _ e, turn_range3 _ i k (Builtin.Range.rangeSize i j k).toNat, ?_, fun b hb => ?_, q⟩
  · have e1 : i + ((0 : Nat) : Int) * k = i := by simp
    have e2 : (((Builtin.Range.rangeSize i j k).toNat : Nat) : Int) - ((0 : Nat) : Int) = Builtin.Range.rangeSize i j k := by omega
    show IsRangeIter _ _ (i + ((0 : Nat) : Int) * k) ((((Builtin.Range.rangeSize i j k).toNat : Nat) : Int) - ((0 : Nat) : Int)) k
    rw [e1, e2]
    exact Heap.get?_push_size _ rfl
  · have e : b = (s1.heap.push { cls := .type "range", data := .fields #[.int i t, .int j t', .int k t''] }).objs.size := by simpa using hb
    subst e
    exact I2.fpOk (Nat.le_refl _) (I2.hok.fresh (Nat.le_refl _))
theorem boolsAre_of {bs : List Bool} : ∀ {us : List Value}, Vals (bs.map V.bl) us → us = bs.map Value.bool := by
  induction bs with
  | nil => intro us r; cases r; rfl
  | cons b r ih =>
    intro us h
    cases h with
    | cons h1 h2 => cases h1; rw [ih h2]; rfl
theorem call_all (hc : X.calm = true) : CallR X (.builtin "all") (fun xs H Q => ∃ (p : Addr) (bs : List Bool), xs = [.ref p] ∧ SqL X.K H p (bs.map V.bl) ∧ Q (.bl (bs.all id)) H) := by
  intro pins s σ H xs us Q I r h
  obtain ⟨p, bs, rfl, hq, q⟩ := h
  obtain ⟨u, rfl, ru⟩ := vals1 r
  cases ru
  obtain ⟨its, r', pl, hz⟩ := I.list hq
  obtain rfl := boolsAre_of r'
  have hlt : p < s.heap.objs.size := by obtain ⟨_, _, e, _⟩ := pl; exact Heap.lt_size e
  refine call_all_walk (wpAny_pyIter_list pl.isList ?_)
  refine ⟨s.heap.objs.size, [s.heap.objs.size, p], [s.heap.objs.size], (bs.map Value.bool).toArray.size, _, _, fun i => (bs[i]?).getD true, rfl, Walks.list (A := X.A.in1) (I.ok.hd hc) _ p (Nat.ne_of_lt hlt) (bs.map Value.bool).toArray,
    ⟨⟨_, Heap.get?_push_size _ rfl, rfl, rfl⟩, pl.isList.push _⟩, fun i v s' Q' E' hP hQ => ?_, fun h' tk hk => ?_⟩
  · have hP' : (bs.map Value.bool)[i]? = some v := by simpa using hP
    rw [List.getElem?_map] at hP'
    obtain ⟨b, e, rfl⟩ := Option.map_eq_some_iff.mp hP'
    simp only [e, Option.getD_some] at hQ
    exact wpAny_truthy_bool hQ
  · have e : ((List.range (bs.map Value.bool).toArray.size).all fun i => (bs[i]?).getD true) = bs.all id := by
      rw [List.size_toArray, List.length_map]; exact LSm.range_all bs
    rw [e]
    exact ⟨.bl _, H, I.kept (LSm.kept_iter hk), rfl, q⟩
theorem call_int_text : CallR X (.type "int") (fun xs H Q => ∃ (x : Str) (n : Int), xs = [.str x] ∧ intText? x = some n ∧ x.length ≤ 640 ∧ Q (.int n) H) := by
  intro pins s σ H xs us Q I r h
  obtain ⟨x, n, rfl, hx, hl, q⟩ := h
  obtain ⟨u, rfl, t, rfl⟩ := vals1 r
  exact PySem.W.KIN.call_text hx hl ⟨.int n, H, I.tok _, ⟨_, rfl⟩, q⟩
theorem sl_listK {K : PySem.W.Frag} (h : X.K = K) : SlR X (rSlL K) := h ▸ sl_list
theorem call_tuple_ofK {K : PySem.W.Frag} (h : X.K = K) : CallR X (.type "tuple") (fun xs H Q => ∃ p ys, xs = [.ref p] ∧ ((SqL K H p ys ∧ ∀ l, H l = none → Q (.ref l) (upd H l (.tup ys))) ∨ (SqT K H p ys ∧ Q (.ref p) H))) := h ▸ call_tuple_of
theorem pg_tupK {K : PySem.W.Frag} {pos : Pos} {es : List Expr} {k : Nat} {t : TGs} {n : Nat} (hK : X.K = K) (hc : X.calm = true) (h : PGs X es t) (hn : (assignEach es X.env).length = n := by rfl) (hst : (assignEach es X.env).findIdx? (·.1) = none := by rfl) : PG X (.Tuple es k pos) (gTup K n t) := hK ▸ pg_tup hc h hn hst
end
end L2
set_option Elab.async false
set_option linter.all false
set_option maxRecDepth 100000
set_option maxHeartbeats 16000000
namespace L2
open PySem PySem.Spec PyProof.Rows
theorem join_app (sep : Str) (vs : List Str) (hv : vs ≠ []) : ∀ us : List Str, us ≠ [] → Str.join sep (us ++ vs) = Str.join sep us ++ sep ++ Str.join sep vs
  | [], h => absurd rfl h
  | [x], _ => by
    cases vs with
    | nil => exact absurd rfl hv
    | cons v r => rfl
  | x :: y :: r, _ => by
    have ih := join_app sep vs hv (y :: r) (by simp)
    show x ++ sep ++ Str.join sep (y :: r ++ vs) = x ++ sep ++ Str.join sep (y :: r) ++ sep ++ Str.join sep vs
    rw [ih]
    apply str_ext
    show (x.cps ++ sep.cps ++ ((Str.join sep (y :: r)).cps ++ sep.cps ++ (Str.join sep vs).cps)).toList = (x.cps ++ sep.cps ++ (Str.join sep (y :: r)).cps ++ sep.cps ++ (Str.join sep vs).cps).toList
    simp
theorem let_mem (c : Nat) : decide (c ∈ ("abcdefghijklmnopqrstuvwxyz" : Str).cps.toList) = isLet c := by
  have e : ("abcdefghijklmnopqrstuvwxyz" : Str).cps.toList = [97, 98, 99, 100, 101, 102, 103, 104, 105, 106, 107, 108, 109, 110, 111, 112, 113, 114, 115, 116, 117, 118, 119, 120, 121, 122] := by decide +kernel
  rw [e]
  unfold isLet
  rw [Bool.eq_iff_iff]
  simp only [decide_eq_true_eq, Bool.and_eq_true, List.mem_cons, List.not_mem_nil, or_false]
  omega
theorem fig_mem (c : Nat) : decide (c ∈ ("0123456789" : Str).cps.toList) = isFig c := by
  have e : ("0123456789" : Str).cps.toList = [48, 49, 50, 51, 52, 53, 54, 55, 56, 57] := by decide +kernel
  rw [e]
  unfold isFig
  rw [Bool.eq_iff_iff]
  simp only [decide_eq_true_eq, Bool.and_eq_true, List.mem_cons, List.not_mem_nil, or_false]
  omega
theorem in_let (c : Nat) : (!(Builtin.Str.occurrences ("abcdefghijklmnopqrstuvwxyz" : Str) ⟨#[c]⟩ 0 ("abcdefghijklmnopqrstuvwxyz" : Str).length 1).isEmpty) = isLet c := by
  rw [StrLaws.found_one]; exact let_mem c
theorem in_fig (c : Nat) : (!(Builtin.Str.occurrences ("0123456789" : Str) ⟨#[c]⟩ 0 ("0123456789" : Str).length 1).isEmpty) = isFig c := by
  rw [StrLaws.found_one]; exact fig_mem c
noncomputable def isNumL (l : List Nat) : Bool := decide (1 ≤ l.length) && decide (l.length ≤ 60) && !(decide (l.head? = some 48) && !decide (l = [48])) && l.all isFig
theorem digits_head : ∀ (m : Nat) (c : Char) (r : List Char), Nat.toDigits 10 m = c :: r → c = '0' → r = [] := by
  intro m
  induction m using Nat.strongRecOn with
  | _ m ih =>
    intro c r h hc
    by_cases hm : m < 10
    · rw [Nat.toDigits_of_lt_base hm] at h
      cases h
      rfl
    · rw [Nat.toDigits_of_base_le (by decide) (by omega)] at h
      cases e : Nat.toDigits 10 (m / 10) with
      | nil =>
        have := PySem.W.KIN.val_back (m / 10)
        rw [e] at this
        simp [NumText.digitsVal] at this
        omega
      | cons d q =>
        rw [e] at h
        have h' : d :: (q ++ [(m % 10).digitChar]) = c :: r := h
        cases h'
        have hq := ih (m / 10) (by omega) c q e hc
        have hv := PySem.W.KIN.val_back (m / 10)
        rw [e, hq, hc] at hv
        have : (0 : Nat) = m / 10 := by simpa [NumText.digitsVal] using hv
        omega
theorem num_isNum {n : Int} (h : ThOk (.num n)) : isNumL (thS (.num n)).cps.toList = true := by
  obtain ⟨e, hl⟩ := num_text h.1 h.2
  have e' : (thS (.num n)).cps.toList = (Nat.toDigits 10 n.toNat).map Char.toNat := e
  rw [e']
  have hpos : Nat.toDigits 10 n.toNat ≠ [] := by
    intro z
    by_cases hm : n.toNat < 10
    · rw [Nat.toDigits_of_lt_base hm] at z; simp at z
    · rw [Nat.toDigits_of_base_le (by decide) (by omega)] at z; simp at z
  have hpos' : 1 ≤ (Nat.toDigits 10 n.toNat).length := by
    cases q : Nat.toDigits 10 n.toNat with
    | nil => exact absurd q hpos
    | cons a b => simp
  unfold isNumL
  simp only [Bool.and_eq_true, decide_eq_true_eq, List.length_map, List.all_eq_true, Bool.not_eq_true', Bool.and_eq_false_iff, decide_eq_false_iff_not]
  refine ⟨⟨⟨hpos', hl⟩, ?_⟩, fun c hc => ?_⟩
  · by_cases hz : ((Nat.toDigits 10 n.toNat).map Char.toNat).head? = some 48
    · refine .inr ?_
      cases q : Nat.toDigits 10 n.toNat with
      | nil => exact absurd q hpos
      | cons a b =>
        rw [q] at hz
        have ha : a.toNat = 48 := by simpa using hz
        have ha' : a = '0' := Char.toNat_inj.mp (by rw [ha]; decide)
        rw [digits_head _ _ _ q ha', ha']
        simp
    · exact .inl hz
  · have := digit_range _ c hc
    unfold isFig
    simp; omega
theorem num_reads {n : Int} (h : ThOk (.num n)) : intText? (thS (.num n)) = some n ∧ (thS (.num n)).length ≤ 640 := by
  obtain ⟨e, hl⟩ := num_text h.1 h.2
  have e' : (thS (.num n)).cps.toList = (Nat.toDigits 10 n.toNat).map Char.toNat := e
  have hlen : (thS (.num n)).length = (thS (.num n)).cps.toList.length := by simp [Str.length]
  have hlen' : (thS (.num n)).length ≤ 60 := by rw [hlen, e', List.length_map]; exact hl
  have hne : (thS (.num n)).cps.toList ≠ [] := by
    have := num_isNum h
    intro z
    rw [z] at this
    exact absurd this (by decide)
  have hd : NumText.AllDigits (thS (.num n)).cps.toList := fun c hc => by
    rw [e'] at hc
    exact digit_range _ c hc
  have h3 := PySem.intText_digits hd hne (by omega)
  rw [e', PySem.W.KIN.val_back] at h3
  exact ⟨by rw [h3]; congr 1; have := h.1; omega, by omega⟩
end L2
set_option Elab.async false
set_option linter.all false
set_option maxRecDepth 100000
set_option maxHeartbeats 16000000
namespace XC
open PySem
noncomputable abbrev frsOf (l : List Env) : List Addr := l.filterMap (·.frame)
noncomputable def Tr (h : Heap) (e : Addr) (cls : Value) (dd : Option Addr) (T : Addr) (fl : Value) : Prop :=
  ∃ oe vs oT ts, h.get? e = some oe ∧ oe.cls = cls ∧ oe.dict = dd ∧ oe.data = .fields vs ∧ vs[1]? = some (.ref T) ∧ T ≠ e ∧ h.get? T = some oT ∧ oT.data = .fields ts ∧ ts[3]? = some fl ∧ vs[2]? = some .none
structure Gone (l : List Env) (e : Addr) (ts : List Addr) (h h' : Heap) : Prop where
  keep : ∀ b o, h.get? b = some o → b ≠ e → b ∉ ts → b ∉ frsOf l → h'.get? b = some o
  slot : ∀ b o, h.get? b = some o → b ∈ frsOf l → ∃ sl, h'.get? b = some { o with slots := sl }
section
variable {M : Model} {A : Around} {E : Value → Shared → Prop} {s : Shared}
theorem frames_free {h base : Heap} {l : List Env} (g : h.FunFrames base l) : ∀ b ∈ frsOf l, base.get? b = none ∧ ∃ o, h.get? b = some o ∧ ∀ vs, o.data ≠ .fields vs := fun b hb => by
  obtain ⟨h1, o, h2, h3⟩ := g.mem hb
  exact ⟨h1, o, h2, h3⟩
theorem dict_map {o : Obj} {f : Array Value → Array Value} {vs : Array Value} (hd : o.data = .fields vs) : (o.mapFields f).dict = o.dict := by
  obtain ⟨c, d, dt, sl⟩ := o
  subst hd
  rfl
theorem entry_ok {base : Heap} {env : Env} {outer : List Env} {L e : Addr} {oe : Obj} {vs : Array Value} {head : Value} {had : Bool} {Q : Unit → Shared → Prop}
    (hfr : A.frames = some (env :: outer)) (hl : s.heap.FunFrames base (env :: outer)) (hf : env.frame = some L) (he : s.heap.get? e = some oe) (hd : oe.data = .fields vs) (hz : 1 < vs.size) (hc : vs[2]? = some .none)
    (h : ∀ h' T, Gone (env :: outer) e [] s.heap h' → s.heap.get? T = none → Tr h' e oe.cls oe.dict T (rawInt L) → Q () { s with heap := h' }) :
    wpAny M A (do let a ← frameOf env; let p ← entryPlaceOf L had; let b ← EntryCells.newEntry head a .none (rawInt L) .none p; setField (.ref e) 1 b) Q E s := by
  have ne : e ∉ frsOf (env :: outer) := fun z => by
    obtain ⟨_, o, q, n⟩ := frames_free hl e z
    rw [he] at q
    cases q
    exact n vs hd
  refine wpAny_bind (wpAny_frameOf_fun hfr hl hf fun g S => wpAny_bind (wpAny_entryPlaceOf fun p hp => ?_))
  unfold EntryCells.newEntry newFields
  refine wpAny_bind (wpAny_newObj_type ?_ (hp.sizeOk5 _ _ _ _ _))
  generalize ht : ([head, Value.ref L, Value.none, rawInt L, Value.none] ++ (if p.isEmpty then List.replicate 6 Value.none else p)).toArray = tv
  have h3 : tv[3]? = some (rawInt L) := by rw [← ht]; simp
  have g1 : g.get? e = some oe := (S.2.1 e ne).trans he
  have te : g.objs.size ≠ e := Nat.ne_of_gt (Heap.lt_size g1)
  have d2 := Obj.data_mapFields hd (·.setIfInBounds 1 (Value.ref g.objs.size))
  have g2 := Heap.get?_push_of_some { cls := .type "traceback", dict := none, data := .fields tv } g1
  refine wpAny_setField g2 hd hz (h _ g.objs.size ⟨fun b o q z _ w => ?_, fun b o q w => ?_⟩ (Heap.get?_none_of_le (by rw [S.1]; exact Nat.le_refl _)) ?_)
  · rw [Heap.get?_update_other _ _ (Ne.symm z)]
    exact Heap.get?_push_of_some _ ((S.2.1 b w).trans q)
  · obtain ⟨sl, q2⟩ := S.2.2 b o q
    have z : b ≠ e := fun z => ne (z ▸ w)
    exact ⟨sl, by rw [Heap.get?_update_other _ _ (Ne.symm z)]; exact Heap.get?_push_of_some _ q2⟩
  · refine ⟨_, _, { cls := .type "traceback", dict := none, data := .fields tv }, tv, Heap.get?_update_self _ g2 (Obj.isFreed_of_fields d2), Obj.cls_mapFields _ _, dict_map hd, d2, ?_, te, ?_, rfl, h3, by rw [Array.getElem?_setIfInBounds_ne (by decide)]; exact hc⟩
    · rw [Array.getElem?_setIfInBounds_self, if_pos hz]
    · rw [Heap.get?_update_other _ _ (Ne.symm te)]
      exact Heap.get?_push_size _ rfl
theorem note_first {base : Heap} {env : Env} {outer : List Env} {L e : Addr} {oe : Obj} {vs : Array Value} {Q : Unit → Shared → Prop}
    (hfr : A.frames = some (env :: outer)) (hl : s.heap.FunFrames base (env :: outer)) (hf : env.frame = some L) (he : s.heap.get? e = some oe) (hd : oe.data = .fields vs) (h1 : vs[1]? = some .none) (hc : vs[2]? = some .none)
    (h : ∀ h' T, Gone (env :: outer) e [] s.heap h' → s.heap.get? T = none → Tr h' e oe.cls oe.dict T (rawInt L) → Q () { s with heap := h' }) : wpAny M A (noteFrame (.ref e) env) Q E s := by
  unfold noteFrame
  simp only [hf]
  refine wpAny_bind (wpAny_field he hd h1 ?_)
  rw [if_neg (by decide)]
  exact entry_ok hfr hl hf he hd (Array.getElem?_eq_some_iff.mp h1).1 hc h
theorem flight_at {h : Heap} {e T : Addr} {cls fl x : Value} {dd : Option Addr} (ht : Tr h e cls dd T fl) :
    (∀ b o, b ≠ T → h.get? b = some o → (h.update T (Obj.mapFields (·.setIfInBounds 3 x))).get? b = some o) ∧ Tr (h.update T (Obj.mapFields (·.setIfInBounds 3 x))) e cls dd T x := by
  obtain ⟨oe, vs, oT, ts, h1, h2, h2', h3, h4, h5, h6, h7, h8, h9⟩ := ht
  have hz : 3 < ts.size := (Array.getElem?_eq_some_iff.mp h8).1
  have d2 := Obj.data_mapFields h7 (·.setIfInBounds 3 x)
  refine ⟨fun b o z q => by rw [Heap.get?_update_other _ _ (Ne.symm z)]; exact q, oe, vs, _, _, ?_, h2, h2', h3, h4, h5, Heap.get?_update_self _ h6 (Obj.isFreed_of_fields d2), d2, ?_, h9⟩
  · rw [Heap.get?_update_other _ _ h5]
    exact h1
  · rw [Array.getElem?_setIfInBounds_self, if_pos hz]
theorem note_next {base : Heap} {env : Env} {outer : List Env} {L e T : Addr} {cls : Value} {dd : Option Addr} {Q : Unit → Shared → Prop}
    (hfr : A.frames = some (env :: outer)) (hl : s.heap.FunFrames base (env :: outer)) (hf : env.frame = some L) (ht : Tr s.heap e cls dd T .none)
    (h : ∀ h' T', Gone (env :: outer) e [T] s.heap h' → s.heap.get? T' = none → Tr h' e cls dd T' (rawInt L) → Q () { s with heap := h' }) : wpAny M A (noteFrame (.ref e) env) Q E s := by
  obtain ⟨k1, oe, vs, oT, ts, a1, a2, a2', a3, a4, a5, a6, a7, a8, a9⟩ := flight_at (x := .none) ht
  obtain ⟨oe0, vs0, oT0, ts0, h1, h2, h2', h3, h4, h5, h6, h7, h8, h9⟩ := ht
  unfold noteFrame
  simp only [hf]
  refine wpAny_bind (wpAny_field h1 h3 h4 ?_)
  rw [if_pos (show (Value.ref T != Value.none) = true from by simp)]
  refine wpAny_bind (wpAny_field h6 h7 h8 ?_)
  rw [if_neg (show ¬ ((Value.none == rawInt L) = true) from by simp [rawInt])]
  have nT : T ∉ frsOf (env :: outer) := fun z => by
    obtain ⟨_, o, q, n⟩ := frames_free hl T z
    rw [h6] at q
    cases q
    exact n ts0 h7
  have nt : ∀ b o, s.heap.get? b = some o → (∀ vs, o.data ≠ .fields vs) → b ≠ T := fun b o q n z => by
    rw [z, h6] at q
    cases q
    exact n ts0 h7
  refine wpAny_bind (wpAny_setField h6 h7 (Array.getElem?_eq_some_iff.mp h8).1 ?_)
  refine entry_ok hfr (hl.of_keeps fun b o q n => ⟨o, k1 b o (nt b o q n) q, rfl⟩) hf a1 a3 (Array.getElem?_eq_some_iff.mp a4).1 a9 fun h' T' G n t => ?_
  refine h h' T' ⟨fun b o q z w u => G.keep b o (k1 b o (fun z => w (by rw [z]; exact List.mem_singleton_self _)) q) z (by simp) u, fun b o q w => G.slot b o (k1 b o (fun z => nT (z ▸ w)) q) w⟩ ?_ (by rw [← a2, ← a2']; exact t)
  cases q : s.heap.get? T' with
  | none => rfl
  | some o =>
    by_cases z : T' = T
    · rw [z, a6] at n
      cases n
    · rw [show (s.heap.update T (Obj.mapFields (·.setIfInBounds 3 Value.none))).get? T' = some o from k1 T' o z q] at n
      cases n
theorem note_same {env : Env} {L e T : Addr} {cls : Value} {dd : Option Addr} {Q : Unit → Shared → Prop} (hf : env.frame = some L) (ht : Tr s.heap e cls dd T (rawInt L)) (h : Q () s) :
    wpAny M A (noteFrame (.ref e) env) Q E s := by
  obtain ⟨oe, vs, oT, ts, h1, h2, h2', h3, h4, h5, h6, h7, h8, h9⟩ := ht
  unfold noteFrame
  simp only [hf]
  refine wpAny_bind (wpAny_field h1 h3 h4 ?_)
  rw [if_pos (show (Value.ref T != Value.none) = true from by simp)]
  refine wpAny_bind (wpAny_field h6 h7 h8 ?_)
  rw [if_pos (show (rawInt L == rawInt L) = true from by simp)]
  exact wpAny_pure h
theorem fly_off {e T : Addr} {cls fl : Value} {dd : Option Addr} {Q : Unit → Shared → Prop} (ht : Tr s.heap e cls dd T fl)
    (h : ∀ h', (∀ b o, b ≠ T → s.heap.get? b = some o → h'.get? b = some o) → Tr h' e cls dd T .none → Q () { s with heap := h' }) : wpAny M A (setFlight (.ref e) none) Q E s := by
  obtain ⟨k, t⟩ := flight_at (x := .none) ht
  obtain ⟨oe, vs, oT, ts, h1, h2, h2', h3, h4, h5, h6, h7, h8, h9⟩ := ht
  unfold setFlight
  refine wpAny_bind (wpAny_field h1 h3 h4 ?_)
  rw [if_pos (show (Value.ref T != Value.none) = true from by simp)]
  exact wpAny_setField h6 h7 (Array.getElem?_eq_some_iff.mp h8).1 (h _ k t)
theorem Gone.off {l : List Env} {e T : Addr} {ts : List Addr} {h h1 h2 : Heap} (G : Gone l e ts h h1) (k : ∀ b o, b ≠ T → h1.get? b = some o → h2.get? b = some o) (hT : h.get? T = none ∨ T ∈ ts) (nT : T ∉ frsOf l) : Gone l e ts h h2 := by
  refine ⟨fun b o q z w u => k b o (fun y => ?_) (G.keep b o q z w u), fun b o q w => ?_⟩
  · rcases hT with y2 | y2
    · rw [y, y2] at q; cases q
    · exact w (y ▸ y2)
  · obtain ⟨sl, q2⟩ := G.slot b o q w
    exact ⟨sl, k b _ (fun y => nT (y ▸ w)) q2⟩
theorem Tr.notIn {h base : Heap} {l : List Env} {e T : Addr} {cls fl : Value} {dd : Option Addr} (ht : Tr h e cls dd T fl) (g : h.FunFrames base l) : T ∉ frsOf l := fun z => by
  obtain ⟨oe, vs, oT, ts, h1, h2, h2', h3, h4, h5, h6, h7, h8, h9⟩ := ht
  obtain ⟨_, o, q, n⟩ := frames_free g T z
  rw [h6] at q
  cases q
  exact n ts h7
theorem new_notIn {h base : Heap} {l : List Env} {T : Addr} (n : h.get? T = none) (g : h.FunFrames base l) : T ∉ frsOf l := fun z => by
  obtain ⟨_, o, q, _⟩ := frames_free g T z
  rw [n] at q
  cases q
theorem leave_first {base : Heap} {env : Env} {outer : List Env} {L e : Addr} {oe : Obj} {vs : Array Value} {Q : Unit → Shared → Prop}
    (hfr : A.frames = some (env :: outer)) (hl : s.heap.FunFrames base (env :: outer)) (hf : env.frame = some L) (he : s.heap.get? e = some oe) (hd : oe.data = .fields vs) (h1 : vs[1]? = some .none) (hc : vs[2]? = some .none)
    (h : ∀ h' T, Gone (env :: outer) e [] s.heap h' → s.heap.get? T = none → Tr h' e oe.cls oe.dict T .none → Q () { s with heap := h' }) : wpAny M A (leaving env (.ref e)) Q E s := by
  unfold leaving
  exact wpAny_bind (note_first hfr hl hf he hd h1 hc fun h' T G n t => fly_off t fun h2 k t2 => h h2 T (G.off k (.inl n) (new_notIn n hl)) n t2)
theorem leave_next {base : Heap} {env : Env} {outer : List Env} {L e T : Addr} {cls : Value} {dd : Option Addr} {Q : Unit → Shared → Prop}
    (hfr : A.frames = some (env :: outer)) (hl : s.heap.FunFrames base (env :: outer)) (hf : env.frame = some L) (ht : Tr s.heap e cls dd T .none)
    (h : ∀ h' T', Gone (env :: outer) e [T] s.heap h' → s.heap.get? T' = none → Tr h' e cls dd T' .none → Q () { s with heap := h' }) : wpAny M A (leaving env (.ref e)) Q E s := by
  unfold leaving
  exact wpAny_bind (note_next hfr hl hf ht fun h' T' G n t => fly_off t fun h2 k t2 => h h2 T' (G.off k (.inl n) (new_notIn n hl)) n t2)
end
end XC
set_option Elab.async false
set_option linter.all false
set_option maxRecDepth 100000
set_option maxHeartbeats 16000000
namespace L2
open PySem PySem.Spec PyProof.Rows XC
noncomputable def CXe (P : Program) (w : World) : CXT := fun outer H s E v s' => ∃ (a T : Addr) (cls : Value) (dd : Option Addr) (H' : Hp), v = .ref a ∧ s'.os = s.os ∧ AllBare s'.gens ∧ Un (frs outer) [] H H' s.heap s'.heap ∧ HOk P w H' s'.heap ∧ s.heap.get? a = none ∧ H' a = none ∧ Tr s'.heap a cls dd T .none ∧ s.heap.get? T = none ∧ H' T = none ∧ E cls dd H'
theorem HOk.gone {P : Program} {w : World} {h h' : Heap} {l : List Env} {e : Addr} {ts : List Addr} {H : Hp} (ok : HOk P w H h) (G : Gone l e ts h h') (he : H e = none) (hts : ∀ b ∈ ts, H b = none) (hf : ∀ b ∈ frs l, H b = none) : HOk P w H h' := fun b o q =>
  (ok b o q).stay (fun c u hc r => by
    have hH : H c ≠ none := by
      rcases hc with z | z
      · rw [z, q]; simp
      · rw [z]; simp
    exact G.keep c u r (fun z => hH (by rw [z]; exact he)) (fun z => hH (hts c z)) (fun z => hH (hf c z))) (fun _ q => q) fun _ _ q => q
theorem Un.gone {h0 h h' : Heap} {env : Env} {outer : List Env} {e : Addr} {ts : List Addr} {H0 H : Hp} (u : Un (frs outer) [] H0 H h0 h) (G : Gone (env :: outer) e ts h h') (he : h0.get? e = none) (hts : ∀ b ∈ ts, h0.get? b = none) (hF : ∀ L, env.frame = some L → h0.get? L = none) (hu : ∀ b ∈ frs outer, H0 b = none) : Un (frs outer) [] H0 H h0 h' := by
  have hfr : ∀ b o, h0.get? b = some o → b ∉ frs outer → b ∉ frsOf (env :: outer) := fun b o hb hn hm => by
    have hm : b ∈ (env :: outer).filterMap (·.frame) := hm
    rw [List.filterMap_cons] at hm
    cases ef : env.frame with
    | none => rw [ef] at hm; exact hn hm
    | some L =>
      rw [ef] at hm
      rcases List.mem_cons.mp hm with z | z
      · rw [z, hF L ef] at hb; cases hb
      · exact hn z
  have hin : ∀ b, b ∈ frs outer → b ∈ frsOf (env :: outer) := fun b hb => by
    show b ∈ (env :: outer).filterMap (·.frame)
    rw [List.filterMap_cons]
    cases env.frame with
    | none => exact hb
    | some L => exact List.mem_cons_of_mem _ hb
  have hne : ∀ b o, h0.get? b = some o → b ≠ e := fun b o hb z => by rw [z, he] at hb; cases hb
  have hnt : ∀ b o, h0.get? b = some o → b ∉ ts := fun b o hb z => by rw [hts b z] at hb; cases hb
  refine ⟨fun b o q n hf hx => G.keep b o (u.keep b o q n hf hx) (hne b o q) (hnt b o q) (hfr b o q hf), fun b o q n hf hx => ?_, u.free, fun b o q hx => ?_, u.tups, u.frzs, u.tbls⟩
  · obtain ⟨sl, h1⟩ := u.slot b o q n hf hx
    obtain ⟨sl', h2⟩ := G.slot b _ h1 (hin b hf)
    exact ⟨sl', h2⟩
  · by_cases hf : b ∈ frs outer
    · obtain ⟨sl, h1⟩ := u.slot b o q (hu b hf) hf hx
      obtain ⟨sl', h2⟩ := G.slot b _ h1 (hin b hf)
      exact ⟨_, h2⟩
    · obtain ⟨o', h1⟩ := u.there b o q hx
      exact ⟨o', G.keep b o' h1 (hne b o q) (hnt b o q) (hfr b o q hf)⟩
theorem ObjOk.there {P : Program} {w : World} {H : Hp} {h : Heap} {a : Addr} {o : HO} (x : ObjOk P w H h a o) : ∃ u, h.get? a = some u := by
  cases o with
  | lst xs => obtain ⟨_, _, _, _, e⟩ := x; exact ⟨_, e⟩
  | tup xs => obtain ⟨_, _, _, o, e, _⟩ := x; exact ⟨_, e⟩
  | dK kvs => obtain ⟨_, _, _, _, o, _, _, e, _⟩ := x; exact ⟨_, e⟩
  | dT kvs => obtain ⟨_, _, _, _, o, _, _, e, _⟩ := x; exact ⟨_, e⟩
  | set S n => obtain ⟨o, _, _, _, e, _⟩ := x; exact ⟨_, e⟩
  | ins C dx fs => obtain ⟨_, _, _, e, _⟩ := x; exact ⟨_, e⟩
  | own y => obtain ⟨_, e⟩ := x; exact ⟨_, e⟩
  | xd fs => obtain ⟨_, ⟨_, _, _, e, _⟩, _⟩ := x; exact ⟨_, e⟩
  | rng lo hi => obtain ⟨_, _, _, e⟩ := x; exact ⟨_, e⟩
  | frz ob u => obtain ⟨e, _⟩ := x; exact ⟨_, e⟩
  | tbl ps => exact ⟨_, x⟩
  | met f y => exact ⟨_, x⟩
  | ext φ => obtain ⟨_, ⟨_, e⟩, _⟩ := x; exact ⟨_, e⟩
theorem HOk.un_at {P : Program} {w : World} {h : Heap} {H : Hp} {a : Addr} (ok : HOk P w H h) (n : h.get? a = none) : H a = none := by
  cases q : H a with
  | none => rfl
  | some o => obtain ⟨u, e⟩ := (ok a o q).there; rw [n] at e; cases e
section
variable {P : Program} {w : World} {K : PySem.W.Frag} {mg : Str → Option Value} {base : Heap} {N : List Str} {qual : Str} {scope : Scope} {f : Addr} {cd : Value} {A : Around} {outer : List Env} {s : Shared} {H : Hp} {E : XK} {pins : List (Addr × Obj)} {σ : St} {H' : Hp} {s' : Shared}
theorem loc_new : ∀ L, (envOfC qual scope s.heap.objs.size f cd).frame = some L → s.heap.get? L = none := fun L e => by
  have e2 : L = s.heap.objs.size := (Option.some.inj e).symm
  rw [e2]
  cases q : s.heap.get? s.heap.objs.size with
  | none => rfl
  | some o => exact absurd (Heap.lt_size q) (Nat.lt_irrefl _)
theorem Inv.up {X : Cx} {s1 : Shared} {H1 : Hp} (I : Inv X pins σ H1 s1) (hx : X.ex = []) {b : Addr} (n : s1.heap.get? b = none) : X.s₀.heap.get? b = none := by
  cases q : X.s₀.heap.get? b with
  | none => rfl
  | some o =>
    obtain ⟨o', z⟩ := I.base.there b o q (by rw [hx]; intro z; cases z)
    rw [n] at z
    cases z
theorem fly_first (I : Inv (cxOf (CXe P w) P w K mg base N qual scope f cd A outer s H E) pins σ H' s') {a : Addr} {oe : Obj} {vs : Array Value} (he : s'.heap.get? a = some oe) (hd : oe.data = .fields vs) (h1 : vs[1]? = some .none) (hc : vs[2]? = some .none) (new : s.heap.get? a = none) (fr : H' a = none) (hE : E oe.cls oe.dict H') :
    (cxOf (CXe P w) P w K mg base N qual scope f cd A outer s H E).xe (.ref a) s' := by
  refine leave_first (base := base) (L := s.heap.objs.size) I.ok.frames I.stack rfl he hd h1 hc fun h' T G hT ht => ?_
  exact ⟨a, T, oe.cls, oe.dict, H', rfl, I.os, I.bare, Un.gone I.base G new (fun b z => by cases z) loc_new I.ok.frf, HOk.gone I.hok G fr (fun b z => by cases z) I.stkFree, new, fr, ht, I.up rfl hT, HOk.un_at I.hok hT, hE⟩
theorem fly_next (I : Inv (cxOf (CXe P w) P w K mg base N qual scope f cd A outer s H E) pins σ H' s') {a T : Addr} {cls : Value} {dd : Option Addr} (ht : Tr s'.heap a cls dd T .none) (new : s.heap.get? a = none) (newT : s.heap.get? T = none) (fr : H' a = none) (frT : H' T = none) (hE : E cls dd H') :
    (cxOf (CXe P w) P w K mg base N qual scope f cd A outer s H E).xe (.ref a) s' := by
  refine leave_next (base := base) (L := s.heap.objs.size) I.ok.frames I.stack rfl ht fun h' T' G hT' ht' => ?_
  exact ⟨a, T', cls, dd, H', rfl, I.os, I.bare, Un.gone I.base G new (fun b z => by rw [List.mem_singleton.mp z]; exact newT) loc_new I.ok.frf, HOk.gone I.hok G fr (fun b z => by rw [List.mem_singleton.mp z]; exact frT) I.stkFree, new, fr, ht', I.up rfl hT', HOk.un_at I.hok hT', hE⟩
theorem passE : Passes (CXe P w) (cxOf (CXe P w) P w K mg base N qual scope f cd A outer s H E) E := fun pins σ H1 s1 v s2 I h => by
  obtain ⟨a, T, cls, dd, H2, rfl, os, bare, un, hok, new, fr, ht, newT, frT, hE⟩ := h
  have I2 := Inv.call' (ch := []) I os un hok bare (fun b z => by cases z)
  exact fly_next I2 ht (I.up rfl new) (I.up rfl newT) fr frT hE
theorem passOwn : PassesOwn (model P w) (cxOf (CXe P w) P w K mg base N qual scope f cd A outer s H E).A (cxOf (CXe P w) P w K mg base N qual scope f cd A outer s H E).env (cxOf (CXe P w) P w K mg base N qual scope f cd A outer s H E).xe := PassesOwn.leaving
end
structure ClE (P : Program) (w : World) (K : PySem.W.Frag) (mg : Str → Option Value) (base : Heap) (k : Nat) (x : Str) (ps : List Str) (sp : Sp) : Prop where
  ex : ∃ f fd, FnOk P w K mg base (CXe P w) k f fd ps sp ∧ mg x = some (.ref f) ∧ PySem.W.keepIn K (.ref f) = true ∧ Binds K fd ps []
theorem pe_fnE {X : Cx} {j k : Nat} {x : Str} {ps : List Str} {sp : Sp} {E : XK} {e : Expr} {es : List Expr} {t : TA} {p pos : Pos} (C : ClE X.prog X.w X.K X.mg X.base j x ps sp) (hx : Passes (CXe X.prog X.w) X E) (hr : Room k X.A) (hg : Gl X x) (ha : PA X (e :: es) t) (hjk : j ≤ k := by decide)
    (hdb : (x == ("__debug__" : Str)) = false := by decide) (he : starEach (e :: es) X.env = (false, eval e X.env) :: starEach es X.env := by rfl) (hpl : (backTo pos (starEach es X.env)).any (·.1) = false := by rfl) :
    PE X (.Call (.Name x p) (e :: es) [] pos) (tCall sp [] E t) := by
  obtain ⟨f, fd, F, hm, hk, hb⟩ := C.ex
  exact pe_call F (hr.mono hjk) hg hm hk hb .nil hx ha hdb he hpl
theorem ClE.of {P : Program} {w : World} {K : PySem.W.Frag} {mg : Str → Option Value} {base : Heap} {x : Str} {st : Stmt} {N ps : List Str} {k : Nat} {sp : Sp} (T : HasDef K mg x st) (S : FnScope N ps (defScope st)) (len : ∀ vs H Q E, sp vs H Q E → vs.length = ps.length)
    (hb : ∀ (kV doc pm : Value) (an : Option Addr) (cdv ct : Value) (us : List Value), us.length = ps.length → bindArgs (PySem.W.fnOf x x (defArgs st) (defBody st) (defScope st) .none kV doc pm an cdv ct) ⟨us, []⟩ = pure (ps.zip us))
    (hbody : ∀ (f : Addr) (cdv : Value) (A : Around) (outer : List Env) (s : Shared) (H : Hp) (vs : List V) (Q : VK) (E : XK), Room k (A.deeper (envOfC x (defScope st) s.heap.objs.size f cdv)) → sp vs H Q E →
      ∃ t, PSs (cxOf (CXe P w) P w K mg base N x (defScope st) f cdv A outer s H E) (defBody st) t ∧ t { nx := fun _ H' => Q .non H', rt := Q } (start N vs) H) : ClE P w K mg base (k + 1) x ps sp := by
  obtain ⟨f, fd, F, m⟩ := T
  obtain ⟨oc, od, kV, doc, pm, an, cdv, ct, osl, rfl, lk, hcd⟩ := F.ex
  exact ⟨f, _, fn_of lk hcd S len fun A outer s H vs Q E hr hsp => hbody f cdv A outer s H vs Q E hr hsp, m, F.kp, F.binds hb⟩
end L2
set_option Elab.async false
set_option linter.all false
set_option maxRecDepth 100000
set_option maxHeartbeats 16000000
namespace L2
open PySem PySem.Spec PyProof.Rows XC
structure Fr1 (X : Cx) (pins : List (Addr × Obj)) (b : Addr) : Prop where
  s0 : X.s₀.heap.get? b = none
  loc : b ≠ X.env.locals
  cel : ∀ x c, X.env.cells.lookup x = some c → c ≠ b
  pin : ∀ p ∈ X.pn ++ pins, p.1 ≠ b
section
variable {X : Cx} {pins : List (Addr × Obj)} {σ : St} {H H' : Hp} {s : Shared} {h' : Heap} {a : Addr} {ts : List Addr}
theorem Inv.fr1 (I : Inv X pins σ H s) (hx : X.ex = []) {b : Addr} (n : s.heap.get? b = none) : Fr1 X pins b := by
  refine ⟨I.up hx n, fun z => ?_, fun x c e z => ?_, fun p hp z => ?_⟩
  · obtain ⟨m, ⟨o, _, _, ho, _⟩, _⟩ := I.loc
    rw [← z, n] at ho
    cases ho
  · obtain ⟨v, o, ho, _⟩ := I.cell x c e
    rw [z, n] at ho
    cases ho
  · have q := (I.pin p hp).1
    rw [z, n] at q
    cases q
theorem Inv.flown {t' : Nat} (I : Inv X pins σ H s) (hx : X.ex = []) (hs : X.stack = X.env :: X.outer) (hf : X.env.frame = some X.env.locals) (G : Gone X.stack a ts s.heap h') (ha : Fr1 X pins a) (ht : ∀ b ∈ ts, Fr1 X pins b) (na : H a = none)
    (hH : H' = H ∨ ∃ o, H' = upd H a o) (hok : HOk X.prog X.w H' h') : Inv X pins σ H' { s with heap := h', toks := t' } := by
  have fre : frsOf X.stack = X.env.locals :: X.fs := by
    rw [hs]
    show (X.env :: X.outer).filterMap (·.frame) = _
    rw [List.filterMap_cons, hf]
    rfl
  have stay : ∀ b, b ≠ a → H' b = H b := fun b z => by
    rcases hH with e | ⟨o, e⟩
    · rw [e]
    · rw [e, upd_ne z]
  have stayT : ∀ b o, H b = some o → H' b = some o := fun b o q => by rw [stay b (ne_of_none q na)]; exact q
  have any : ∀ b o, s.heap.get? b = some o → b ≠ a → b ∉ ts → ∃ sl, h'.get? b = some { o with slots := sl } := fun b o q z w => by
    by_cases hb : b ∈ frsOf X.stack
    · exact G.slot b o q hb
    · exact ⟨o.slots, G.keep b o q z w hb⟩
  have old : ∀ b o, X.s₀.heap.get? b = some o → b ≠ a ∧ b ∉ ts := fun b o q => ⟨(fun z => by rw [z, ha.s0] at q; cases q), (fun z => by rw [(ht b z).s0] at q; cases q)⟩
  have cellK : ∀ x c, X.env.cells.lookup x = some c → ∀ v, s.heap.IsCell c v → h'.IsCell c v := fun x c e v ⟨o, ho, hd⟩ => by
    obtain ⟨sl, q⟩ := any c o ho (ha.cel x c e) fun z => (ht c z).cel x c e rfl
    exact ⟨_, q, hd⟩
  refine ⟨I.ok, I.os, I.bare, ⟨fun b o e n hb hx => ?_, fun b o e n hb hx => ?_, fun b o e n hx => ?_, fun b o e hx => ?_, fun b xs e => stayT b _ (I.base.tups b xs e), fun b o xs e => stayT b _ (I.base.frzs b o xs e), fun b ps e => ?_⟩, ?_, fun x c e => ?_, ?_, fun x c e => ?_, fun p hp => ?_, hok, I.len⟩
  · refine G.keep b o (I.base.keep b o e n hb hx) (old b o e).1 (old b o e).2 fun z => ?_
    rw [fre] at z
    rcases List.mem_cons.mp z with z | z
    · exact absurd (Nat.lt_of_lt_of_le (Heap.lt_size e) I.ok.above) (by rw [z]; exact Nat.lt_irrefl _)
    · exact hb z
  · obtain ⟨sl, e1⟩ := I.base.slot b o e n hb hx
    obtain ⟨sl', e2⟩ := G.slot b _ e1 (by rw [fre]; exact List.mem_cons_of_mem _ hb)
    exact ⟨sl', e2⟩
  · rw [stay b (old b o e).1]
    exact I.base.free b o e n hx
  · obtain ⟨o1, e1⟩ := I.base.there b o e hx
    obtain ⟨sl, e2⟩ := any b o1 e1 (old b o e).1 (old b o e).2
    exact ⟨_, e2⟩
  · obtain ⟨more, e1⟩ := I.base.tbls b ps e
    exact ⟨more, stayT b _ e1⟩
  · obtain ⟨m, ⟨o, es, ep, ho, r⟩, hl⟩ := I.loc
    obtain ⟨sl, q⟩ := any _ o ho (fun z => ha.loc z.symm) (fun z => (ht _ z).loc rfl)
    refine ⟨m, ⟨_, es, ep, q, r⟩, fun i x v e1 e2 e3 => ?_⟩
    obtain ⟨u, r1, l⟩ := hl i x v e1 e2 e3
    refine ⟨u, r1, ?_⟩
    rcases l with l | ⟨k, c, e, z⟩
    · exact .inl l
    · exact .inr ⟨k, c, e, cellK x c e _ z⟩
  · obtain ⟨v, z⟩ := I.cell x c e
    exact ⟨v, cellK x c e v z⟩
  · rw [stay _ (fun z => ha.loc z.symm)]
    exact I.free
  · rw [stay c (ha.cel x c e)]
    exact I.freeC x c e
  · obtain ⟨e, n, ne, nf, d⟩ := I.pin p hp
    refine ⟨G.keep p.1 p.2 e (ha.pin p hp) (fun z => (ht _ z).pin p hp rfl) (fun z => ?_), by rw [stay _ (ha.pin p hp)]; exact n, ne, nf, d⟩
    rw [fre] at z
    rcases List.mem_cons.mp z with z | z
    · exact ne z
    · exact nf z
theorem HOk.take {P : Program} {w : World} {h : Heap} {o : HO} (ok : HOk P w H h) (na : H a = none) (new : ObjOk P w (upd H a o) h a o) : HOk P w (upd H a o) h := fun b u e => by
  by_cases hb : b = a
  · subst hb
    rw [upd_same] at e
    cases e
    exact new
  · rw [upd_ne hb] at e
    exact (ok b u e).stay (fun _ _ _ q => q) (fun c q => by rw [upd_ne (ne_of_none q na)]; exact q) fun c xs q => by rw [upd_ne (ne_of_none q na)]; exact q
theorem forget_ok {M : Model} {A : Around} {E : Value → Shared → Prop} {i : Nat} {n : Str} {pos : Pos} {Q : Unit → Shared → Prop} (I : Inv X pins σ H s) (hN : X.N.Nodup) (hi : X.N[i]? = some n) (hk : X.env.kindOf n = some .local)
    (h : ∀ s', Inv X pins (σ.set i none) H s' → Q () s') : wpAny M A (do bindName X.env n .none; unbindBehindTheSuite X.env n pos) Q E s := by
  obtain ⟨m, hn, hl⟩ := id I.loc
  obtain ⟨oL, _, _, hoL, _⟩ := id hn
  have hiσ : i < σ.length := by rw [I.len]; exact (List.getElem?_eq_some_iff.mp hi).1
  refine wpAny_nameGoes_keeps hk hn (by rw [I.ok.kind]; rfl) fun h' v hn' hs => h _ ⟨I.ok, I.os, I.bare, ⟨fun b o e n hb hx => ?_, fun b o e n hb hx => ?_, I.base.free, fun b o e hx => ?_, I.base.tups, I.base.frzs, I.base.tbls⟩, ⟨_, hn', fun j y v' e1 e2 e3 => ?_⟩, fun y c e => ?_, I.free, I.freeC, fun p hp => ?_, fun b ob e => ?_, by rw [List.length_set]; exact I.len⟩
  · exact (hs.2 b (Nat.ne_of_lt (Nat.lt_of_lt_of_le (Heap.lt_size e) I.ok.above))).trans (I.base.keep b o e n hb hx)
  · obtain ⟨sl, e1⟩ := I.base.slot b o e n hb hx
    exact ⟨sl, (hs.2 b (Nat.ne_of_lt (Nat.lt_of_lt_of_le (Heap.lt_size e) I.ok.above))).trans e1⟩
  · obtain ⟨o', e1⟩ := I.base.there b o e hx
    exact ⟨o', (hs.2 b (Nat.ne_of_lt (Nat.lt_of_lt_of_le (Heap.lt_size e) I.ok.above))).trans e1⟩
  · by_cases hj : j = i
    · rw [hj, List.getElem?_set_self hiσ] at e2
      cases e2
    · rw [List.getElem?_set_ne (Ne.symm hj)] at e2
      obtain ⟨u', r', q⟩ := hl j y v' e1 e2 e3
      refine ⟨u', r', ?_⟩
      rcases q with ⟨k, e⟩ | ⟨k, c, e, z⟩
      · refine .inl ⟨k, ?_⟩
        have : y ≠ n := fun e => hj (nodup_ix hN e1 (e ▸ hi))
        simp [this, e]
      · exact .inr ⟨k, c, e, z.sameBut hs (I.cne y c e)⟩
  · obtain ⟨w', z⟩ := I.cell y c e
    exact ⟨w', z.sameBut hs (I.cne y c e)⟩
  · obtain ⟨e, n, ne, nf, d⟩ := I.pin p hp
    exact ⟨(hs.2 p.1 ne).trans e, n, ne, nf, d⟩
  · refine (I.hok b ob e).stay (fun c w' hc q => (hs.2 c ?_).trans q) (fun _ q => q) fun _ _ q => q
    intro z
    rcases hc with hc | hc
    · rw [← hc, z, I.free] at e; cases e
    · rw [z, I.free] at hc; cases hc
end
noncomputable def ExO (a C : Addr) (dd : Option Addr) : HO := .ext fun h => ∃ o vs, h.get? a = some o ∧ o.cls = .ref C ∧ o.dict = dd ∧ o.data = .fields vs ∧ vs[2]? = some .none
noncomputable abbrev Cx.hand (X : Cx) (a : Addr) : Cx := { X with A := X.A.mark (some (.ref a)), calm := false, xe := fun _ _ => False }
section
variable {X : Cx} {pins : List (Addr × Obj)} {σ : St} {H : Hp} {s : Shared} {a : Addr}
theorem Inv.hand (I : Inv X pins σ H s) (a : Addr) : Inv (X.hand a) pins σ H s :=
  ⟨⟨I.ok.mod, I.ok.kind, I.ok.glob, I.ok.blt, I.ok.above, I.ok.inj, I.ok.has, I.ok.cab, fun z => absurd (show false = true from z) Bool.false_ne_true, I.ok.frames, I.ok.stk, I.ok.exf, I.ok.bs, I.ok.bsz, I.ok.noex, I.ok.exfs, I.ok.funs, I.ok.frf⟩, I.os, I.bare, I.base, I.loc, I.cell, I.free, I.freeC, I.pin, I.hok, I.len⟩
theorem Inv.unhand (ok : X.Ok) (I : Inv (X.hand a) pins σ H s) : Inv X pins σ H s := ⟨ok, I.os, I.bare, I.base, I.loc, I.cell, I.free, I.freeC, I.pin, I.hok, I.len⟩
end
noncomputable def Up (X : Cx) (pins : List (Addr × Obj)) (σ : St) (E : XK) (e : Value) (s : Shared) : Prop :=
  ∃ (a T : Addr) (cls : Value) (dd : Option Addr) (H : Hp), e = .ref a ∧ Inv X pins σ H s ∧ Fr1 X pins a ∧ Fr1 X pins T ∧ H a = none ∧ H T = none ∧ Tr s.heap a cls dd T .none ∧ E cls dd H
noncomputable def TBody (X : Cx) (body : List Stmt) (t : XK → TS) : Prop :=
  ∀ (pins : List (Addr × Obj)) (s : Shared) (σ : St) (H : Hp) (D : Ends) (E : XK) (xe1 : Value → Shared → Prop), Inv X pins σ H s → (∀ e s2, Up X pins σ E e s2 → xe1 e s2) → t E D σ H → wpAny (model X.prog X.w) X.A (execs body X.env) (SP X pins D) xe1 s
section
variable {X : Cx} {j k : Nat} {f : Str} {ps : List Str} {sp : Sp} {e : Expr} {es : List Expr} {ta : TA} {p pos cpos : Pos}
theorem PA.nox {t : TA} (h : PA X.nox es t) (xe1 : Value → Shared → Prop) : PA (X.wish xe1) es t := fun pos pins s σ H Q I hw =>
  wpAny_mono (h pos pins s σ H Q (I.unwish.wish _) hw) (fun _ _ ⟨v, H', I', r, q⟩ => ⟨v, H', I'.unwish.wish _, r, q⟩) fun _ _ z => False.elim z
theorem call_up (C : ClE X.prog X.w X.K X.mg X.base j f ps sp) (hx : X.ex = []) (hr : Room k X.A) (hg : Gl X f) (ha : PA X.nox (e :: es) ta) (hjk : j ≤ k)
    (hdb : (f == ("__debug__" : Str)) = false) (he : starEach (e :: es) X.env = (false, eval e X.env) :: starEach es X.env) (hpl : (backTo cpos (starEach es X.env)).any (·.1) = false)
    {pins : List (Addr × Obj)} {s : Shared} {σ : St} {H : Hp} {Q : VK} {E : XK} {xe1 : Value → Shared → Prop} (I : Inv X pins σ H s) (hu : ∀ e s2, Up X pins σ E e s2 → xe1 e s2) (h : ta σ H fun vs H1 => sp (vs ++ []) H1 Q E) :
    wpAny (model X.prog X.w) X.A (eval (.Call (.Name f p) (e :: es) [] cpos) X.env) (EP X pins σ Q) xe1 s := by
  obtain ⟨fa, fd, F, hm, hk, hb⟩ := C.ex
  refine wpAny_Call_Name_kw (ld_glob I hg hm ?_ hdb)
  refine PySem.W.callWith_K (h₀ := X.base) I.ok.mod.kin hk (thn (PA.nox ha xe1 cpos pins s σ H _ (I.wish _) h) fun us s1 ⟨vs, H1, I1, r, q⟩ => ⟨I1.kIn, ?_⟩) he hpl
  have I1 := I1.unwish
  have r2 : Vals (vs ++ []) (us ++ []) := r.append .nil
  have hl : (us ++ []).length = ps.length := by rw [← r2.length]; exact F.len _ _ _ _ q
  refine wpAny_call (codeAny_mono (F.run X.A X.stack s1 H1 ⟨us, []⟩ (us ++ []) (vs ++ []) Q E (hr.mono hjk) I1.env0 (hb s1 us I1.kIn hl) r2 q) fun r s' hq => ?_)
  cases r with
  | error v =>
    obtain ⟨a, T, cls, dd, H2, rfl, os, bare, un, hok, new, fr, ht, newT, frT, hE⟩ := hq
    exact hu _ _ ⟨a, T, cls, dd, H2, rfl, Inv.call' (ch := []) I1 os un hok bare (fun b z => by cases z), I1.fr1 hx new, I1.fr1 hx newT, fr, frT, ht, hE⟩
  | ok fl =>
    cases fl with
    | ret u => exact I1.after hq
    | next => exact False.elim hq
    | brk => exact False.elim hq
    | cont => exact False.elim hq
noncomputable def tbCall (sp : Sp) (ta : TA) (k : V → TS) : XK → TS := fun E D σ H => ta σ H fun vs H1 => sp (vs ++ []) H1 (fun v H2 => k v D σ H2) E
end
structure XK1 (K : PySem.W.Frag) (C : Addr) : Prop where
  cl : (PySem.W.clsIn K C).isSome = true
  ty : PySem.W.typeIn K (.ref C) = some (.type "type")
  base : PySem.W.mroIn K C (.type "BaseException") = some true
  ga : PySem.W.findIn K (.ref C) "__getattribute__" = some (some (.builtin "BaseException.__getattribute__"))
  gt : PySem.W.findIn K (.ref C) "__getattr__" = some none
  ca : PySem.W.findIn K (.ref C) "__class__" = some (some (.builtin "object.__class__"))
  gd : PySem.W.specialIn K (.builtin "object.__class__") "__get__" = some (some (.builtin "getset_descriptor.__get__"))
  tk : PySem.W.takesIn K (.builtin "object.__class__") = some true
  ob : PySem.W.mroIn K C (.type "object") = some true
theorem looks_isType {K : PySem.W.Frag} {M : Model} {h : Heap} (x : K.In h) {C : Addr} (e : (PySem.W.clsIn K C).isSome = true) : PySem.W.Looks M h (isType (.ref C)) true := by
  unfold PySem.W.clsIn at e
  split at e
  · rename_i c' d' cd' sl' ho
    intro A' Q' E' s' k q
    unfold isType loadHead
    exact wpAny_bind (wpAny_loadPart (k _ _ (x _ _ ho)) (wpAny_pure q))
  · cases e
theorem exc_match {M : Model} {A : Around} {E : Value → Shared → Prop} {s : Shared} {K : PySem.W.Frag} {a C B : Addr} {o : Obj} {Q : Bool → Shared → Prop} (X : K.In s.heap) (b : XK1 K B) (sub : PySem.W.mroIn K C (.ref B) = some true) (ha : s.heap.get? a = some o) (hc : o.cls = .ref C)
    (h : Q true s) : wpAny M A (excMatches (.ref a) (.ref B)) Q E s := by
  obtain ⟨hh, g, d, t, os⟩ := s
  have L1 := PySem.W.looks_typeIn (M := M) X b.ty
  have L2 : PySem.W.Looks M hh (isSubtype (.type "type") (.type "tuple")) false := PySem.W.Looks.of_pure tc_notTuple
  have L3 := looks_isType (M := M) X b.cl
  have L4 := PySem.W.looks_mroIn (M := M) X b.base
  have L5 : PySem.W.Looks M hh (typeOf (.ref a)) (.ref C) := hc ▸ (PySem.W.Looks.ld ha).andThen .now
  have L6 := PySem.W.looks_mroIn (M := M) X sub
  have L7 : PySem.W.Looks M hh (isInstance (.ref B) (.type "tuple")) false := L1.andThen L2
  have L8 : PySem.W.Looks M hh (isExcClass (.ref B)) true := L3.andThen (by simpa using L4)
  unfold excMatches
  refine wpAny_bind (L7.at ?_)
  simp only [Bool.false_eq_true, if_false, List.forIn_cons, List.forIn_nil, pure_bind]
  refine wpAny_bind (wpAny_bind (wpAny_bind (L8.at ?_)))
  simp only [Bool.not_true, Bool.false_eq_true, if_false]
  refine wpAny_pure (wpAny_pure (wpAny_bind (L5.at (wpAny_bind (wpAny_bind (wpAny_bind (L6.at ?_)))))))
  simp only [if_true]
  exact wpAny_pure (wpAny_pure (wpAny_pure h))
noncomputable def goneD (i : Nat) (D : Ends) : Ends := { nx := fun σ H => D.nx (σ.set i none) H, rt := D.rt, bk := fun σ H => D.bk (σ.set i none) H, ct := fun σ H => D.ct (σ.set i none) H }
section
variable {X : Cx} {body : List Stmt} {tb : XK → TS} {x n : Str} {B : Addr} {i : Nat} {b0 : Stmt} {suite : List Stmt} {th : Addr → TS} {np hp pos : Pos}
theorem exo_ok {P : Program} {w : World} {H : Hp} {h : Heap} {a T C : Addr} {dd : Option Addr} {fl : Value} (t : Tr h a (.ref C) dd T fl) : ObjOk P w (upd H a (ExO a C dd)) h a (ExO a C dd) := by
  obtain ⟨oe, vs, oT, ts, h1, h2, h2', h3, _, _, _, _, _, h9⟩ := t
  exact ⟨⟨oe, vs, h1, h2, h2', h3, h9⟩, ⟨oe, h1⟩, fun g1 g2 ⟨o, vs, q, r⟩ k => ⟨o, vs, k o q, r⟩⟩
end
noncomputable abbrev bmV : List Value := [.type "ValueError", .type "Exception", .type "BaseException", .type "object"]
theorem own_obj {K : PySem.W.Frag} {h : Heap} {C : Addr} {bmB : List Value} {newId : String} (X : K.In h) (q : PySem.W.excIn K C bmB newId = true) : ∃ bm N nm qn bs hdct sn sub ab col dd k0 k1 k2 k3 k5 mN,
    h.get? C = some (excClassObj nm qn C N bs bm hdct sn sub ab col dd k0 k1 k2 k3 k5 newId) ∧ h.Ns N mN ∧ mN "__init__" = none ∧ OwnTail h bmB bm := by
  unfold PySem.W.excIn at q
  split at q
  · rename_i dd cd sl ho
    split at q
    · rename_i C' bm k0 k1 k2 k3 n k5 e1 e2
      simp only [Bool.and_eq_true, beq_iff_eq, Bool.not_eq_true'] at q
      obtain ⟨⟨⟨⟨⟨c1, c2⟩, c3⟩, c4⟩, c5⟩, c6⟩ := q
      cases c1
      cases c2
      obtain ⟨nm, bs, mro, ns, qn, hd, sn, sub, ab, col, del⟩ := cd
      dsimp only at e1 c3 c5 c6
      cases e1
      cases c3
      obtain ⟨l⟩ := sl
      cases (show l = _ from e2)
      exact ⟨bm, ns, nm, qn, bs, hd, sn, sub, ab, col, dd, k0, k1, k2, k3, k5, _, X _ _ ho, .of_isNs (PySem.W.isNs_of_in X c5), PySem.W.nsMap_none_of_in X c5 c6, PySem.W.tail_of_in X c4⟩
    · cases q
  · cases q
section
variable {P : Program} {w : World} {K : PySem.W.Frag} {mg : Str → Option Value} {base : Heap} {N : List Str} {qual : Str} {scope : Scope} {f : Addr} {cd : Value} {A : Around} {outer : List Env} {s : Shared} {H : Hp} {E : XK}
end
end L2
set_option Elab.async false
set_option linter.all false
set_option maxRecDepth 100000
set_option maxHeartbeats 16000000
namespace L2
open PySem PySem.Spec PyProof.Rows XC
section
variable {prog : Program} {w : World} {A : Around} {E : Value → Shared → Prop} {s : Shared} {K : PySem.W.Frag} {x C : Addr} {ox : Obj} {od : Option Obj}
theorem exc_found (k : XK1 K C) : PySem.W.findObj K C od "__class__" = some (.bind (.builtin "getset_descriptor.__get__") (.builtin "object.__class__")) := by
  obtain ⟨cd, hc⟩ := Option.isSome_iff_exists.mp k.cl
  unfold PySem.W.findObj
  rw [hc, Option.bind_some, k.ca, Option.bind_some]
  simp [k.gd, k.tk]
theorem exc_check {M : Model} {tk : Tok} {n : Str} {Q : Unit → Shared → Prop} (k : XK1 K C) (X : K.In s.heap) (I : PySem.W.InstAt s.heap x ox C od) (h : Q () s) : wpAny M A (checkBuiltinCall "BaseException.__getattribute__" ⟨[.ref x, .str n tk], []⟩) Q E s := by
  obtain ⟨hh, g, d, t, os⟩ := s
  have hk : builtinKind "BaseException.__getattribute__" = some .slot := by decide +kernel
  have hsplit : splitId "BaseException.__getattribute__" = some ("BaseException", "__getattribute__") := by decide +kernel
  have ha := F.args_bexc_ga (.ref x) (.str n tk)
  have L1 : PySem.W.Looks M hh (isInstance (.ref x) (.type "BaseException")) true := (I.type (M := M)).andThen (PySem.W.looks_mroIn X k.base)
  simp only [checkBuiltinCall, hk, hsplit]
  refine wpAny_bind (L1.at ?_)
  simp only [Bool.not_true, Bool.false_eq_true, if_false]
  exact wpAny_of_eq ha h
theorem exc_class {Q : Option Value → Shared → Prop} (k : XK1 K C) (X : K.In s.heap) (I : PySem.W.InstAt s.heap x ox C od) (h : Q (some (.ref C)) { s with toks := s.toks + 1 }) : wpAny (model prog w) A (getAttr? (.ref x) "__class__") Q E s := by
  obtain ⟨hh, g, d, t, os⟩ := s
  have L0 := I.type (M := model prog w)
  have L1 := PySem.W.looks_findIn (M := model prog w) X k.ga
  have L2 := PySem.W.looks_findIn (M := model prog w) X k.gt
  have L3 := PySem.W.looks_find (M := model prog w) X I (exc_found k)
  unfold getAttr? getAttrBy? getAttrBy
  refine wpAny_bind (wpAny_mkText (wpAny_bind (wpAny_attempt (wpAny_holding (wpAny_bind (L0.at (wpAny_bind (L1.at ?_))))))))
  dsimp only
  rw [if_neg (by rw [show (Value.builtin "BaseException.__getattribute__" == Value.builtin "object.__getattribute__") = false by decide +kernel, Bool.and_false]; exact Bool.false_ne_true)]
  unfold getAttrByItsOwn hookBefore
  rw [if_pos (show onTheHeap (Value.ref C) = true from rfl)]
  refine wpAny_bind (L2.at (wpAny_bind (wpAny_attempt (wpAny_holding ?_))))
  unfold callGetattribute boundAndCalled
  rw [if_neg (by rw [Bool.false_and]; exact Bool.false_ne_true)]
  refine wpAny_bind (wpAny_of_eq (F.excAttr_ValueError.ga.bind _) ?_)
  refine wpAny_call (codeAny_call_builtin F.excAttr_ValueError.ga.plain F.entry_bexc_ga (exc_check k X I ?_))
  unfold Builtin.«object.__getattribute__»
  refine wpAny_bind (wpAny_of_eq (a := (Value.ref x, [Value.str "__class__" t])) rfl (wpAny_bind (wpAny_of_eq (a := ("__class__" : Str)) rfl (wpAny_bind (L0.at (wpAny_bind (L3.at ?_)))))))
  show wpAny _ _ (holding [Value.builtin "object.__class__"] (call (.builtin "getset_descriptor.__get__") [.builtin "object.__class__", .ref x, .ref C]) >>= ret) _ _ _
  refine wpAny_bind (wpAny_holding (wpAny_call (PySem.W.class_get (s := ⟨hh, g, d, t + 1, os⟩) X I k.ob (wpAny_pure ?_))))
  show wpAny _ _ (handedOut (.ref C)) _ _ _
  exact PySem.W.handed_on rfl (wpAny_pure h)
end
theorem kitx_exc {K : PySem.W.Frag} {x C : Addr} (k : XK1 K C) : PySem.W.KitX K (.ref x) (.ref C) (fun h => ∃ ox od, PySem.W.InstAt h x ox C od) where
  ty := fun _ _ _ ⟨_, _, I⟩ => I.type
  it := fun _ _ X _ => looks_isType X k.cl
  ne := fun h tp dd its n sl X htp => by
    refine Bool.eq_false_iff.mpr fun q => ?_
    have e : C = tp := Value.ref.inj (beq_iff_eq.mp q)
    subst e
    have z := k.cl
    unfold PySem.W.clsIn at z
    split at z
    · rename_i ho
      have z2 := (X _ _ ho).symm.trans htp
      cases z2
    · cases z
  ca := fun X ⟨_, _, I⟩ q => exc_class k X I q
inductive ExC (K : PySem.W.Frag) (H : Hp) (t : Value) : V → Bool → Prop
  | one {B : Addr} {b : Bool} (e : PySem.W.kitOne K t (.ref B) = some b) : ExC K H t (.ref B) b
  | ty {T : String} {b : Bool} (e : PySem.W.kitOne K t (.type T) = some b) : ExC K H t (.ty T) b
  | tup {p : Addr} {Bs : List Addr} {b : Bool} (h : H p = some (.tup (Bs.map V.ref))) (e : PySem.W.kitAny K t (Bs.map Value.ref) = some b) : ExC K H t (.ref p) b
noncomputable def DictThere (H : Hp) : Option Addr → Prop
  | none => True
  | some dx => ∃ u, H dx = some u
theorem vals_refs : ∀ {Bs : List Addr} {its : List Value}, Vals (Bs.map V.ref) its → its = Bs.map Value.ref
  | [], _, .nil => rfl
  | B :: r, _, .cons h t => by
    rw [vals_refs t, show _ = Value.ref B from h]
    rfl
end L2
set_option Elab.async false
set_option linter.all false
set_option maxRecDepth 100000
set_option maxHeartbeats 16000000
namespace L2
open PySem PySem.Spec PyProof.Rows XC
inductive OverV : List Value → Prop
  | base : OverV bmV
  | own {c : Addr} {l : List Value} : OverV l → OverV (.ref c :: l)
theorem OverV.pass (self : Value) {l : List Value} (h : OverV l) : refuseLoop self "__setattr__" l = pure () := by
  induction h with
  | base => exact F.store_ValueError.passes self
  | own _ ih => rw [refuseLoop_ref]; exact ih
structure XF (K : PySem.W.Frag) (C : Addr) (f : Str) : Prop where
  cd : ∃ cd, PySem.W.clsIn K C = some cd ∧ OverV cd.mro ∧ cd.hasDict = true
  sa : PySem.W.findIn K (.ref C) "__setattr__" = some (some (.builtin "object.__setattr__"))
  no : PySem.W.findIn K (.ref C) f = some none
section
variable {prog : Program} {w : World} {A : Around} {E : Value → Shared → Prop} {s : Shared} {K : PySem.W.Frag} {x C : Addr} {o : Obj} {vs : Array Value} {f : Str} {v : Value}
theorem exc_set {Q : Unit → Shared → Prop} (k : XK1 K C) (xf : XF K C f) (X : K.In s.heap) (hx : s.heap.get? x = some o) (hc : o.cls = .ref C) (hd : o.dict = none) (hv : o.data = .fields vs)
    (h : ∀ h' dx tk, dx = s.heap.objs.size → (∀ b u, b ≠ x → s.heap.get? b = some u → h'.get? b = some u) → h'.get? x = some { o with dict := some dx } → dx ≠ x → h'.Ns1 dx (fun y => if y = f then some v else none) → Q () { s with heap := h', toks := tk }) :
    wpAny (model prog w) A (setAttr (.ref x) f v) Q E s := by
  obtain ⟨hh, g, d, t, os⟩ := s
  obtain ⟨cd, c1, c2, c3⟩ := xf.cd
  have SF := F.store_ValueError
  have L0 : PySem.W.Looks (model prog w) hh (typeOf (.ref x)) (.ref C) := hc ▸ (PySem.W.Looks.ld hx).andThen .now
  have L1 := PySem.W.looks_findIn (M := model prog w) X xf.sa
  have L2 := PySem.W.looks_findIn (M := model prog w) X xf.no
  have L3 : PySem.W.Looks (model prog w) hh (mroOf (.ref C)) cd.mro := (PySem.W.looks_clsIn X c1).andThen .now
  have L4 : PySem.W.Looks (model prog w) hh (isInstance (.ref x) (.type "object")) true := L0.andThen (PySem.W.looks_mroIn X k.ob)
  unfold setAttr callSpecial? specialOf
  refine wpAny_bind (wpAny_mkText (wpAny_bind (wpAny_bind (wpAny_bind (L0.at (L1.at ?_))))))
  refine wpAny_holding (wpAny_bind (wpAny_of_eq (SF.slot.bind (.ref x)) ?_))
  refine wpAny_bind (wpAny_call (codeAny_call_builtin SF.slot.plain SF.entry (@PySem.W.check_slot (model prog w) _ _ ⟨hh, g, d, t + 1, os⟩ "object.__setattr__" "object" "__setattr__" (.ref x) [.str f t, v] [] _ SF.kind SF.split L4 (SF.args (.ref x) (.str f t) v) ?_)))
  show wpAny _ _ (Builtin.«object.__setattr__» ⟨[.ref x, .str f t, v], []⟩) _ _ _
  rw [PySem.W.osa_eq, refuse_eq]
  refine wpAny_bind (wpAny_bind (L0.at (wpAny_bind (L3.at ?_))))
  rw [c2.pass]
  refine wpAny_pure (wpAny_bind (L0.at (wpAny_bind (L2.at (wpAny_bind (wpAny_pure ?_))))))
  show wpAny _ _ (Builtin.ObjectAttr.storeInOwnDict (.ref x) (.ref C) (.str f t) f v false) _ _ _
  obtain ⟨oc, od, oda, osl⟩ := o
  dsimp only at hc hd hv
  subst hc hd hv
  refine wpAny_bind (wpAny_pure (wpAny_bind (wpAny_bind (wpAny_loadPart hx (wpAny_bind ((PySem.W.looks_clsIn X c1).at ?_))))))
  rw [c3]
  have hx1 : (hh.push { cls := .type "dict", data := .dict #[] }).get? x = some ⟨.ref C, none, .fields vs, osl⟩ := Heap.get?_push_of_some _ hx
  have hxs : x ≠ hh.objs.size := Nat.ne_of_lt (Heap.lt_size hx)
  refine wpAny_bind (wpAny_alloc' (wpAny_bind (wpAny_update' hx1 (wpAny_pure ?_))))
  have gx : ((hh.push { cls := .type "dict", data := .dict #[] }).update x fun o => { o with dict := some hh.objs.size }).get? x = some ⟨.ref C, some hh.objs.size, .fields vs, osl⟩ := Heap.get?_update_self _ hx1 rfl
  have gd : ((hh.push { cls := .type "dict", data := .dict #[] }).update x fun o => { o with dict := some hh.objs.size }).get? hh.objs.size = some { cls := .type "dict", data := .dict #[] } := by
    rw [Heap.get?_update_other _ _ hxs]
    exact Heap.get?_push_size _ rfl
  have ko : ∀ b u, b ≠ x → hh.get? b = some u → ((hh.push { cls := .type "dict", data := .dict #[] }).update x fun o => { o with dict := some hh.objs.size }).get? b = some u := fun b u z q => by
    rw [Heap.get?_update_other _ _ (Ne.symm z)]
    exact Heap.get?_push_of_some _ q
  show wpAny _ _ (Builtin.ObjectAttr.storeInDict hh.objs.size (.str f t) f v) _ _ ⟨(hh.push { cls := .type "dict", data := .dict #[] }).update x fun o => { o with dict := some hh.objs.size }, g, d, t + 1, os⟩
  generalize ((hh.push { cls := .type "dict", data := .dict #[] }).update x fun o => { o with dict := some hh.objs.size }) = h2 at gx gd ko
  have nd : h2.Ns hh.objs.size (fun _ => none) := ⟨_, #[], _, gd, rfl, fun e he => absurd he (by simp), fun _ => rfl⟩
  unfold Builtin.ObjectAttr.storeInDict Builtin.ObjectAttr.newKeyGuard
  refine wpAny_bind (wpAny_pure (wpAny_bind (wpAny_nsSet1 (Heap.Ns1.of_empty nd) fun h3 n3 S3 => ?_)))
  obtain ⟨oD, esD, epD, a1, a2, a3⟩ := n3.count (Within.cons f v Within.nil)
  refine wpAny_bind (wpAny_lookBehind a1 (by rw [a2]; exact pastItsLine_dict (Nat.le_trans a3 (by rw [List.length_cons, List.length_nil, sizeLine_eq]; omega))) ?_)
  refine wpAny_pure (wpAny_pure (wpAny_pure ?_))
  refine h h3 hh.objs.size _ rfl (fun b u z q => ?_) ((S3.2 x hxs).trans gx) (Ne.symm hxs) n3
  exact (S3.2 b (Nat.ne_of_lt (Heap.lt_size q))).trans (ko b u z q)
theorem exc_get {Q : Value → Shared → Prop} {expr : Bool} {dx : Addr} {mA : Str → Option Value} (k : XK1 K C) (xf : XF K C f) (X : K.In s.heap) (hx : s.heap.get? x = some o) (hc : o.cls = .ref C) (hd : o.dict = some dx) (hv : o.data = .fields vs) (hn : s.heap.Ns1 dx mA) (hf : mA f = some v) (hh : PySem.W.handedIn v = true)
    (h : ∀ tk, Q v { s with toks := tk }) : wpAny (model prog w) A (getAttr (.ref x) f expr) Q E s := by
  obtain ⟨hp, g, d, t, os⟩ := s
  obtain ⟨cd, c1, c2, c3⟩ := xf.cd
  obtain ⟨od, es, ep, n1, n2, n3, n4, n5⟩ := id hn
  have I : PySem.W.InstAt hp x o C (some od) := ⟨hx, hc, by unfold PySem.W.notCls; rw [hv], by rw [hd]; exact n1⟩
  have lk : PySem.W.lookIn f od = some (some v) := by
    unfold PySem.W.lookIn
    rw [n2]
    have q := n5 f
    rw [hf] at q
    unfold nsFind findBy at q
    obtain ⟨en, q1, q2⟩ := Option.map_eq_some_iff.mp q
    dsimp only
    rw [← Array.find?_toList] at q1
    rw [q1]
    exact congrArg (fun z => some (some z)) q2
  have fo : PySem.W.findObj K C (some od) f = some (.value v) := by
    unfold PySem.W.findObj
    rw [c1, Option.bind_some, xf.no, Option.bind_some]
    simp [PySem.W.ownOf, c3, lk]
  have L0 := I.type (M := model prog w)
  have L1 := PySem.W.looks_findIn (M := model prog w) X k.ga
  have L2 := PySem.W.looks_findIn (M := model prog w) X k.gt
  have L3 := PySem.W.looks_find (M := model prog w) X I fo
  unfold getAttr getAttrBy
  refine wpAny_bind (wpAny_mkText (wpAny_holding (wpAny_bind (L0.at (wpAny_bind (L1.at ?_))))))
  dsimp only
  rw [if_neg (by rw [show (Value.builtin "BaseException.__getattribute__" == Value.builtin "object.__getattribute__") = false by decide +kernel, Bool.and_false]; exact Bool.false_ne_true)]
  unfold getAttrByItsOwn hookBefore
  rw [if_pos (show onTheHeap (Value.ref C) = true from rfl)]
  refine wpAny_bind (L2.at (wpAny_bind (wpAny_attempt (wpAny_holding ?_))))
  unfold callGetattribute boundAndCalled
  rw [if_neg (by rw [show onTheHeap (Value.builtin "BaseException.__getattribute__") = false from rfl, Bool.and_false]; exact Bool.false_ne_true)]
  refine wpAny_bind (wpAny_of_eq (F.excAttr_ValueError.ga.bind _) ?_)
  refine wpAny_call (codeAny_call_builtin F.excAttr_ValueError.ga.plain F.entry_bexc_ga (exc_check k X I ?_))
  unfold Builtin.«object.__getattribute__»
  refine wpAny_bind (wpAny_of_eq (a := (Value.ref x, [Value.str f t])) rfl (wpAny_bind (wpAny_of_eq (a := f) rfl (wpAny_bind (L0.at (wpAny_bind (L3.at (wpAny_pure ?_))))))))
  show wpAny _ _ (handedOut v) _ _ _
  exact PySem.W.handed_on hh (h _)
end
section
variable {prog : Program} {w : World} {A : Around} {E : Value → Shared → Prop} {h : Heap} {g : Array GenState} {d : Drawn} {t : Nat} {os : OsState}
variable {nm q : Str} {C N e : Addr} {bs bm : List Value} {hdct : Bool} {sn : List Str} {sub : List Value} {ab : Bool} {col : Option Bool} {dd : Option Addr} {k0 k1 k2 k3 k5 : Option Value} {oe : Obj} {vs : Array Value} {v : Value}
theorem exc_init {Q : Value → Shared → Prop} (hC : h.get? C = some (excClassObj nm q C N bs bm hdct sn sub ab col dd k0 k1 k2 k3 k5 "ValueError.__new__")) (T : OwnTail h bmV bm) (he : h.get? e = some oe) (hc : oe.cls = .ref C) (hd : oe.data = .fields vs) {a0 : Addr} (h0 : vs[0]? = some (.ref a0))
    (k : ∀ h' t', h.get? t' = none → (∀ b o, b ≠ e → h.get? b = some o → h'.get? b = some o) → h'.get? e = some (oe.mapFields (·.setIfInBounds 0 (.ref t'))) → Q .none ⟨h', g, d, t, os⟩) :
    wpAny (model prog w) A (call (.builtin "ValueError.__init__") [.ref e, v]) Q E ⟨h, g, d, t, os⟩ := by
  refine wpAny_call (codeAny_call_builtin F.excBase_ValueError.init.plain F.excBase_ValueError.initEntry (wpAny_check_init_subT F.excBase_ValueError T hC he hc ?_))
  iterate 12 (first | wp_step | skip)
  have he2 := Heap.get?_push_of_some { cls := .type "tuple", data := .seq #[v] } he
  unfold Builtin.BaseException.bexcPut
  refine wpAny_bind (wpAny_field he2 hd h0 (wpAny_bind (wpAny_setField he2 hd (Array.getElem?_eq_some_iff.mp h0).1 ?_)))
  wp_walk
  refine k _ h.objs.size (Heap.get?_none_of_le (Nat.le_refl _)) (fun b o z qb => ?_) (Heap.get?_update_self _ he2 (Obj.isFreed_of_fields (Obj.data_mapFields hd _)))
  rw [Heap.get?_update_other _ _ (Ne.symm z)]
  exact Heap.get?_push_of_some _ qb
end
section
variable {prog : Program} {w : World} {A : Around} {E : Value → Shared → Prop} {h : Heap} {g : Array GenState} {d : Drawn} {t : Nat} {os : OsState}
variable {nm q : Str} {C N fI : Addr} {bs bm : List Value} {hdct : Bool} {sn : List Str} {sub : List Value} {ab : Bool} {col : Option Bool} {dd : Option Addr} {k0 k1 k2 k3 k5 : Option Value} {oI : Obj} {rest : List Value}
theorem exc_tcall {Q : Fin → Shared → Prop} (hC : h.get? C = some (excClassObj nm q C N bs bm hdct sn sub ab col dd k0 k1 k2 k3 k5 "ValueError.__new__")) (T : OwnTail h bmV bm) (hl : PySem.W.Looks (model prog w) h (typeLookup (.ref C) "__init__") (some (.ref fI)))
    (hf : h.get? fI = some oI) (hc : oI.cls = .type "function") (hz : rest.length ≤ sizeLine)
    (k : ∀ h' e, Heap.MadeExcOf h h' e (.ref C) rest → wpAny (model prog w) A (call (.ref fI) (.ref e :: rest)) (fun r s' => r = .none ∧ Q (.done (.ret (.ref e))) s') E ⟨h', g, d, t, os⟩) :
    wpAny (model prog w) A (Builtin.«type.__call__» ⟨.ref C :: rest, []⟩) Q E ⟨h, g, d, t, os⟩ := by
  iterate 60 (first | with_reducible refine wpAny_loadPart_at hC ?_ | with_reducible refine wpAny_madeBy_exc hC ?_ | wp_step | skip)
  refine codeAny_call_builtin_code (Code.quiet_builtin _ F.excBase_ValueError.quiet) (wpAny_check_new_subT F.excBase_ValueError T hC (codeAny_exc_new_subT F.excBase_ValueError T hC ?_ hz))
  have kp : ∀ b o, h.get? b = some o → ((h.push { cls := .type "tuple", data := .seq rest.toArray }).push { cls := .ref C, data := .fields #[.ref h.objs.size, .none, .none, .none, .bool false, .none] }).get? b = some o := fun b o e => Heap.get?_push_of_some _ (Heap.get?_push_of_some _ e)
  have gt : ((h.push { cls := .type "tuple", data := .seq rest.toArray }).push { cls := .ref C, data := .fields #[.ref h.objs.size, .none, .none, .none, .bool false, .none] }).get? h.objs.size = some { cls := .type "tuple", data := .seq rest.toArray } := Heap.get?_push_of_some _ (Heap.get?_push_size _ rfl)
  have ge : ((h.push { cls := .type "tuple", data := .seq rest.toArray }).push { cls := .ref C, data := .fields #[.ref h.objs.size, .none, .none, .none, .bool false, .none] }).get? (h.objs.size + 1) = some { cls := .ref C, data := .fields #[.ref h.objs.size, .none, .none, .none, .bool false, .none] } := by
    rw [show h.objs.size + 1 = (h.push { cls := .type "tuple", data := .seq rest.toArray }).objs.size from (Heap.size_push _ _).symm]
    exact Heap.get?_push_size _ rfl
  have M := Heap.MadeExcOf.mk (h := h) (e := h.objs.size + 1) (cls := .ref C) (args := rest) kp (Heap.get?_none_of_le (Nat.le_succ _)) ⟨h.objs.size, ge, Heap.get?_none_of_le (Nat.le_refl _), gt⟩
  generalize (h.push { cls := .type "tuple", data := .seq rest.toArray }).push { cls := .ref C, data := .fields #[.ref h.objs.size, .none, .none, .none, .bool false, .none] } = h1 at kp gt ge M ⊢
  generalize h.objs.size + 1 = e at ge M ⊢
  have L0 : PySem.W.Looks (model prog w) h1 (typeOf (.ref e)) (.ref C) := (PySem.W.Looks.ld ge).andThen .now
  have L1 := hl.keeps kp
  show wpAny _ _ _ _ _ _
  refine wpAny_bind ?_
  unfold isInstance
  refine wpAny_bind (L0.at (wpAny_isSubtype_exc (kp _ _ hC) ?_))
  rw [show (Value.ref C :: bm).contains (Value.ref C) = true by simp]
  simp only [Bool.not_true, Bool.false_eq_true, if_false]
  unfold callSpecial? specialOf
  refine wpAny_bind (wpAny_holding (wpAny_bind (wpAny_bind (L0.at (L1.at (wpAny_holding (wpAny_bind ?_)))))))
  unfold bindSpecial
  refine wpAny_bind (wpAny_typeOf (show (⟨h1, g, d, t, os⟩ : Shared).TypeIs (.ref fI) "function" from ⟨_, kp _ _ hf, hc⟩) ?_)
  rw [if_pos (by decide)]
  refine wpAny_pure (wpAny_bind (wpAny_mono (k h1 e M) (fun r s' z => ?_) fun _ _ z => z))
  obtain ⟨z1, z2⟩ := z
  subst z1
  refine wpAny_pure ?_
  dsimp only
  rw [if_neg (by decide)]
  exact wpAny_pure z2
theorem exc_make {Q : Value → Shared → Prop} (hC : h.get? C = some (excClassObj nm q C N bs bm hdct sn sub ab col dd k0 k1 k2 k3 k5 "ValueError.__new__")) (T : OwnTail h bmV bm) (hl : PySem.W.Looks (model prog w) h (typeLookup (.ref C) "__init__") (some (.ref fI)))
    (hf : h.get? fI = some oI) (hc : oI.cls = .type "function") (hz : rest.length ≤ sizeLine)
    (k : ∀ h' e, Heap.MadeExcOf h h' e (.ref C) rest → wpAny (model prog w) (A.under (.builtin "type.__call__" ⟨.ref C :: rest, []⟩)) (call (.ref fI) (.ref e :: rest)) (fun r s' => r = .none ∧ Q (.ref e) s') E ⟨h', g, d, t, os⟩) :
    wpAny (model prog w) A (call (.ref C) rest) Q E ⟨h, g, d, t, os⟩ := by
  have f1 := tc_lookup
  have f2 := tc_bind (.ref C)
  have hT : (⟨h, g, d, t, os⟩ : Shared).TypeIs (.ref C) "type" := ⟨_, hC, rfl⟩
  refine wpAny_call (codeAny_of_tree ?_)
  show wpAny _ _ (callAny (.ref C) _) _ _ _
  repeat (any_goals (first | wp_step | assumption | with_reducible refine wpAny_loadPart_at hC ?_))
  refine ⟨rfl, codeAny_call_builtin_at (Code.quiet_builtin _ (by decide +kernel)) entry_typeCall (wpAny_check_type_call_sub hC (exc_tcall hC T hl hf hc hz fun h' e m => k h' e m))⟩
end
end L2
set_option Elab.async false
set_option linter.all false
set_option maxRecDepth 100000
set_option maxHeartbeats 16000000
namespace L2
open PySem PySem.Spec PyProof.Rows XC
noncomputable def ExN (a C : Addr) (dd : Option Addr) : HO := .ext fun h => ∃ o vs a0, h.get? a = some o ∧ o.cls = .ref C ∧ o.dict = dd ∧ o.data = .fields vs ∧ vs[0]? = some (.ref a0) ∧ vs[1]? = some .none ∧ vs[2]? = some .none ∧ 4 < vs.size
structure XI (K : PySem.W.Frag) (C fI : Addr) : Prop where
  obj : ∃ B N nm q bs hdct sn sub ab col dd k0 k1 k2 k3 k5, K.lookup C = some (excClassObj nm q C N bs (.ref B :: bmV) hdct sn sub ab col dd k0 k1 k2 k3 k5 "ValueError.__new__") ∧ PySem.W.excIn K B bmV "ValueError.__new__" = true
  ini : PySem.W.findIn K (.ref C) "__init__" = some (some (.ref fI))
  fn : PySem.W.isFn K (.ref fI) = true
theorem XI.here {K : PySem.W.Frag} {h : Heap} {C fI : Addr} (x : XI K C fI) (X : K.In h) : ∃ N nm q bs bm hdct sn sub ab col dd k0 k1 k2 k3 k5, h.get? C = some (excClassObj nm q C N bs bm hdct sn sub ab col dd k0 k1 k2 k3 k5 "ValueError.__new__") ∧ OwnTail h bmV bm := by
  obtain ⟨B, N, nm, q, bs, hdct, sn, sub, ab, col, dd, k0, k1, k2, k3, k5, e, b⟩ := x.obj
  obtain ⟨_, _, _, _, _, _, _, _, _, _, _, _, _, _, _, _, mN, hB, hN, hni, _⟩ := own_obj X b
  exact ⟨N, nm, q, bs, _, hdct, sn, sub, ab, col, dd, k0, k1, k2, k3, k5, X _ _ e, .own hB hN hni .base⟩
theorem upd_self {H : Hp} {a : Addr} {o : HO} (h : H a = some o) : upd H a o = H := by
  funext b
  unfold upd
  by_cases e : b = a
  · rw [if_pos e, e, h]
  · rw [if_neg e]
structure XB (K : PySem.W.Frag) (B : Addr) : Prop where
  ga : PySem.W.specialIn K (.ref B) "__getattribute__" = some (some (.builtin "type.__getattribute__"))
  rd : PySem.W.readsIn K B (.type "type") = true
  fc : PySem.W.findCls K (.ref B) (.type "type") "__init__" = some (.val (.builtin "ValueError.__init__"))
section
variable {X : Cx} {b : Str} {B : Addr} {bp apos pos spos : Pos} {e1 e2 : Expr} {ta : TA}
noncomputable def tInitB (K : PySem.W.Frag) (ta : TA) : TS := fun D σ H => ta σ H fun vs H1 => ∃ x C fI v, vs = [.ref x, v] ∧ H1 x = some (ExN x C none) ∧ XI K C fI ∧ D.nx σ H1
theorem ps_initB {pl : Sem Bool} (hg : Gl X b) (hm : X.mg b = some (.ref B)) (xb : XB X.K B) (ha : PA X [e1, e2] ta) (hd : (b == ("__debug__" : Str)) = false := by decide)
    (hs : swapsWith (.Call (.Attribute (.Name b bp) "__init__" apos) [e1, e2] [] pos) none spos.line X.env = pure false := by rfl)
    (he : starEach [e1, e2] X.env = (false, eval e1 X.env) :: starEach [e2] X.env := by rfl) (hpl : (backTo pos (starEach [e2] X.env)).any (·.1) = false := by rfl)
    (ht : eval (.Call (.Attribute (.Name b bp) "__init__" apos) [e1, e2] [] pos) X.env = (do
      let ov ← eval (.Name b bp) X.env
      standAt apos.atName
      let (f, first) ← holding [ov] (getMethod ov "__init__" pl)
      callWith pos f first (backTo pos (starEach [e1, e2] X.env)) (backToKw pos (keywordEach [] X.env))) := by rfl) :
    PS X (.Expr (.Call (.Attribute (.Name b bp) "__init__" apos) [e1, e2] [] pos) spos) (tInitB X.K ta) := by
  intro pins s σ H D I h
  refine wpAny_Expr_any (Q := SP X pins D) ?_ I.quiet hs
  refine PySem.W.methodCall_KW (pl := pl) (ld_glob I hg hm ?_ hd) ht
  refine PySem.W.method_cls I.kIn xb.ga (PySem.W.cls_value I.kIn xb.rd xb.fc rfl ?_)
  refine PyProof.Rows.callWith_builtin1 (thn (ha pos pins _ σ H _ (I.tok _) h) fun us s1 ⟨vs, H1, I1, r, x, C, fI, v, ev, hx, xi, q⟩ => ?_) he hpl
  subst ev
  obtain ⟨u1, u2, rfl, r1, r2⟩ := vals2 r
  cases (show u1 = Value.ref x from r1)
  obtain ⟨⟨o, fs, a0, o1, o2, o3, o4, o5, o6, o7⟩, _⟩ := I1.hok x _ hx
  obtain ⟨N, nm, q', bs, bm, hdct, sn, sub, ab, col, dd, k0, k1, k2, k3, k5, hC, T⟩ := xi.here I1.kIn
  obtain ⟨hh, g, d, t, os⟩ := s1
  refine exc_init hC T o1 o2 o4 o5 fun h' t' _ kp hx' => ?_
  have d2 := Obj.data_mapFields o4 (·.setIfInBounds 0 (Value.ref t'))
  have J : Inv X pins σ (upd H1 x (ExN x C none)) { (⟨hh, g, d, t, os⟩ : Shared) with heap := h', toks := t } := I1.write (e := x) (by rw [hx]; trivial) (.inl rfl) kp ⟨_, hx'⟩ ⟨⟨_, _, t', hx', (Obj.cls_mapFields _ _).trans o2, (dict_map o4).trans o3, d2, ?_, ?_, ?_⟩, ⟨_, hx'⟩, fun g1 g2 ⟨o, vs, a0, q, r⟩ k => ⟨o, vs, a0, k o q, r⟩⟩
  · rw [upd_self hx] at J
    exact ⟨σ, H1, J, q⟩
  · rw [Array.getElem?_setIfInBounds_self, if_pos (Array.getElem?_eq_some_iff.mp o5).1]
  · rw [Array.getElem?_setIfInBounds_ne (by decide)]
    exact o6
  · exact ⟨by rw [Array.getElem?_setIfInBounds_ne (by decide)]; exact o7.1, by rw [Array.size_setIfInBounds]; exact o7.2⟩
end
section
variable {X : Cx} {o value : Expr} {f : Str} {ta tv : TE} {pos pos' : Pos}
noncomputable def sFldX (K : PySem.W.Frag) (ta tv : TE) (f : Str) : TS := fun D σ H => tv σ H fun y H1 => ta σ H1 fun x H2 => ∃ a C, x = .ref a ∧ H2 a = some (ExN a C none) ∧ XK1 K C ∧ XF K C f ∧ ∀ dx, H2 dx = none → D.nx σ (upd (upd H2 dx (.xd [(f, y)])) a (ExN a C (some dx)))
theorem ps_fldX (ha : PE X o ta) (hv : PE X value tv) (hs : swapsWith value (some (.Attribute o f pos')) pos.line X.env = pure false) : PS X (.Assign [.Attribute o f pos'] value pos) (sFldX X.K ta tv f) := by
  intro pins s σ H D I h
  refine plainObj_wpAny_Assign_Attribute (thn (hv pins s σ H _ I h) fun u s1 ⟨y, H1, I1, ry, q⟩ => thn (ha pins s1 σ H1 _ I1 q) fun ov s2 ⟨x, H2, I2, rx, a, C, ex, hx, k, xf, q2⟩ => ?_) hs
  subst ex
  obtain rfl : ov = Value.ref a := rx
  obtain ⟨⟨ob, fs, a0, o1, o2, o3, o4, o5, o6, o7⟩, _⟩ := I2.hok a _ hx
  refine exc_set k xf I2.kIn o1 o2 o3 o4 fun h' dx tk edx kp hx' ne ns => ?_
  have fr : H2 dx = none := I2.hok.fresh (by rw [edx]; exact Nat.le_refl _)
  have lt : ∀ b u, s2.heap.get? b = some u → b ≠ dx := fun b u q z => by rw [z, edx] at q; exact absurd (Heap.lt_size q) (Nat.lt_irrefl _)
  have hne : ∀ b u, H2 b = some u → b ≠ dx := fun b u q => ne_of_none q fr
  have other : ∀ b, b ≠ a → b ≠ dx → upd (upd H2 dx (.xd [(f, y)])) a (ExN a C (some dx)) b = H2 b := fun b z1 z2 => by rw [upd_ne z1, upd_ne z2]
  have old : ∀ b v, H2 b = some v → v ≠ ExN a C none → b ≠ a := fun b v q z w => by rw [w, hx] at q; exact z (Option.some.inj q).symm
  refine ⟨σ, _, I2.un (t' := tk) ⟨fun b u q n _ _ => kp b u (fun z => by rw [z, hx] at n; cases n) q, fun b u q n _ _ => ⟨u.slots, kp b u (fun z => by rw [z, hx] at n; cases n) q⟩, fun b u q n _ => ?_, fun b u q _ => ?_, fun b xs q => ?_, fun b u xs q => ?_, fun b ps q => ⟨#[], ?_⟩⟩ fun b u q => ?_, q2 dx fr⟩
  · rw [other b (fun z => by rw [z, hx] at n; cases n) (lt b u q)]
    exact n
  · by_cases z : b = a
    · exact ⟨_, z ▸ hx'⟩
    · exact ⟨u, kp b u z q⟩
  · rw [other b (old b _ q (by intro z; cases z)) (hne b _ q)]
    exact q
  · rw [other b (old b _ q (by intro z; cases z)) (hne b _ q)]
    exact q
  · rw [other b (old b _ q (by intro z; cases z)) (hne b _ q), q]
    simp
  · by_cases z1 : b = a
    · subst z1
      rw [upd_same] at q
      cases q
      exact ⟨⟨_, fs, a0, hx', o2, rfl, o4, o5, o6, o7⟩, ⟨_, hx'⟩, fun g1 g2 ⟨o, vs, a0, q, r⟩ k => ⟨o, vs, a0, k o q, r⟩⟩
    · by_cases z2 : b = dx
      · subst z2
        rw [upd_ne z1, upd_same] at q
        cases q
        refine ⟨_, ns, fun y' => ?_⟩
        by_cases ey : y' = f
        · subst ey
          rw [if_pos rfl, List.lookup_cons]
          simp [RelO]
          exact ry
        · rw [if_neg ey, List.lookup_cons]
          rw [show (y' == f) = false from by simpa using ey]
          simp [RelO]
      · rw [other b z1 z2] at q
        refine (I2.hok b u q).stay (fun c v hc r => kp c v ?_ r) (fun c r => ?_) fun c xs r => ?_
        · rcases hc with hc | hc
          · rw [hc]; exact z1
          · exact old c _ hc (by intro z; cases z)
        · rw [other c (old c _ r (by intro z; cases z)) (hne c _ r)]
          exact r
        · rw [other c (old c _ r (by intro z; cases z)) (hne c _ r)]
          exact r
theorem handed_rel {v : V} {u : Value} (r : RelV v u) : PySem.W.handedIn u = true := by
  cases v with
  | non => cases (show u = _ from r); rfl
  | bl b => cases (show u = _ from r); rfl
  | int i => obtain ⟨t, rfl⟩ := r; rfl
  | str x => obtain ⟨t, rfl⟩ := r; rfl
  | byt x => obtain ⟨t, rfl⟩ := r; rfl
  | flt x => obtain ⟨t, rfl⟩ := r; rfl
  | ref a => cases (show u = _ from r); rfl
  | ty n => cases (show u = _ from r); rfl
end
end L2
set_option Elab.async false
set_option linter.all false
set_option maxRecDepth 100000
set_option maxHeartbeats 16000000
namespace L2
open PySem PySem.Spec PyProof.Rows XC
noncomputable def dropH (H : Hp) (a : Addr) : Hp := fun b => if b = a then none else H b
theorem drop_ne {H : Hp} {a b : Addr} (h : b ≠ a) : dropH H a b = H b := by unfold dropH; rw [if_neg h]
theorem drop_none {H : Hp} {a b : Addr} (h : H b = none) : dropH H a b = none := by unfold dropH; split <;> first | rfl | exact h
theorem drop_some {H : Hp} {a b : Addr} {o : HO} (h : dropH H a b = some o) : b ≠ a ∧ H b = some o := by
  unfold dropH at h
  split at h
  · cases h
  · rename_i z
    exact ⟨z, h⟩
theorem Inv.drop {X : Cx} {pins : List (Addr × Obj)} {σ : St} {H : Hp} {s : Shared} {a : Addr} {φ : Heap → Prop} (I : Inv X pins σ H s) (h : H a = some (.ext φ)) : Inv X pins σ (dropH H a) s := by
  have keep : ∀ b o, H b = some o → o ≠ .ext φ → dropH H a b = some o := fun b o q z => by
    rw [drop_ne fun w => by rw [w, h] at q; exact z (Option.some.inj q).symm]
    exact q
  refine ⟨I.ok, I.os, I.bare, ⟨fun b o q n => I.base.keep b o q n, fun b o q n => I.base.slot b o q n, fun b o q n hx => drop_none (I.base.free b o q n hx), I.base.there, fun b xs q => keep b _ (I.base.tups b xs q) (by intro z; cases z), fun b o xs q => keep b _ (I.base.frzs b o xs q) (by intro z; cases z), fun b ps q => ?_⟩, I.loc, I.cell, drop_none I.free, fun x c e => drop_none (I.freeC x c e), fun p hp => ?_, fun b o q => ?_, I.len⟩
  · obtain ⟨more, e⟩ := I.base.tbls b ps q
    exact ⟨more, keep b _ e (by intro z; cases z)⟩
  · obtain ⟨e, n, r⟩ := I.pin p hp
    exact ⟨e, drop_none n, r⟩
  · obtain ⟨z, q⟩ := drop_some q
    exact (I.hok b o q).stay (fun _ _ _ r => r) (fun c r => keep c _ r (by intro z; cases z)) fun c xs r => keep c _ r (by intro z; cases z)
theorem exc_raise {M : Model} {A : Around} {E : Value → Shared → Prop} {s : Shared} {K : PySem.W.Frag} {C : Addr} {env : Env} {x : Sem Value} {Q : Flow → Shared → Prop} (hh : A.handled = none) (k : XK1 K C)
    (h : wpAny M A x (fun v s1 => ∃ e oe vs, v = .ref e ∧ K.In s1.heap ∧ s1.heap.get? e = some oe ∧ oe.cls = .ref C ∧ oe.data = .fields vs ∧ vs[1]? = some .none ∧ E (.ref e) s1) E s) : wpAny M A (raiseStmt env (some x) none) Q E s := by
  unfold raiseStmt
  refine wpAny_bind (wpAny_mono h (fun v s1 z => ?_) fun _ _ z => z)
  obtain ⟨e, oe, vs, rfl, X, he, hc, hd, h1, hE⟩ := z
  obtain ⟨hp, g, d, t, os⟩ := s1
  have L0 : PySem.W.Looks M hp (typeOf (.ref e)) (.ref C) := hc ▸ (PySem.W.Looks.ld he).andThen .now
  have L1 : PySem.W.Looks M hp (isType (.ref e)) false := by
    intro A' Q' E' s' kp q
    unfold isType loadHead
    refine wpAny_bind (wpAny_loadPart (kp _ _ he) ?_)
    rw [hd]
    exact wpAny_pure q
  have L2 : PySem.W.Looks M hp (isInstance (.ref e) (.type "BaseException")) true := L0.andThen (PySem.W.looks_mroIn X k.base)
  have L3 := PySem.W.looks_typeIn (M := M) X k.ty
  refine wpAny_bind (wpAny_pure (wpAny_bind (wpAny_holding ?_)))
  unfold excFromValue isExcClass
  refine wpAny_bind (wpAny_bind (L1.at ?_))
  simp only [Bool.false_eq_true, if_false]
  refine wpAny_pure (wpAny_bind (L2.at ?_))
  simp only [if_true]
  refine wpAny_pure ?_
  refine wpAny_bind (L1.at ?_)
  simp only [Bool.false_eq_true, if_false]
  unfold raisedInstance
  refine wpAny_bind (wpAny_bind (L0.at (wpAny_bind (L3.at ?_))))
  rw [if_pos (by decide)]
  refine wpAny_pure (wpAny_bind ?_)
  unfold setFlight
  refine wpAny_bind (wpAny_field he hd h1 ?_)
  rw [if_neg (by decide)]
  exact wpAny_pure (wpAny_raiseNew_none hh hE)
noncomputable def spInit (C : Addr) (f : Str) : Sp := fun vs H Q _ => ∃ e v, vs = [.ref e, v] ∧ H e = some (ExN e C none) ∧ ∀ dx, H dx = none → Q .non (upd (upd H dx (.xd [(f, v)])) e (ExN e C (some dx)))
structure XCl (P : Program) (w : World) (K : PySem.W.Frag) (mg : Str → Option Value) (base : Heap) (k : Nat) (C : Addr) (f : Str) (ps : List Str) : Prop where
  ex : ∃ fI fd, FnOk P w K mg base CX0 k fI fd ps (spInit C f) ∧ XI K C fI ∧ PySem.W.keepIn K (.ref C) = true ∧ Binds K fd ps []
noncomputable def HasX (K : PySem.W.Frag) (C : Addr) (qual : Str) (st : Stmt) : Prop := ∃ f fd, Fun K "__init__" qual st f fd ∧ XI K C f ∧ PySem.W.keepIn K (.ref C) = true
theorem XCl.of {P : Program} {w : World} {K : PySem.W.Frag} {mg : Str → Option Value} {base : Heap} {C : Addr} {f qual : Str} {st : Stmt} {N ps : List Str} {k : Nat} (T : HasX K C qual st) (S : FnScope N ps (defScope st)) (hps : ps.length = 2)
    (hb : ∀ (kV doc pm : Value) (an : Option Addr) (cdv ct : Value) (us : List Value), us.length = ps.length → bindArgs (PySem.W.fnOf "__init__" qual (defArgs st) (defBody st) (defScope st) .none kV doc pm an cdv ct) ⟨us, []⟩ = pure (ps.zip us))
    (hbody : ∀ (f' : Addr) (cdv : Value) (A : Around) (outer : List Env) (s : Shared) (H : Hp) (vs : List V) (Q : VK) (E : XK), XI K C f' → Room k (A.deeper (envOfC qual (defScope st) s.heap.objs.size f' cdv)) → spInit C f vs H Q E →
      ∃ t, PSs (cxOf CX0 P w K mg base N qual (defScope st) f' cdv A outer s H E).nox (defBody st) t ∧ t { nx := fun _ H' => Q .non H', rt := Q } (start N vs) H) : XCl P w K mg base (k + 1) C f ps := by
  obtain ⟨fI, fd, F, x, kp⟩ := T
  refine ⟨fI, fd, F.ok S (fun vs H Q E h => ?_) (fun cdv A outer s H vs Q E => hbody fI cdv A outer s H vs Q E x), x, kp, F.binds hb⟩
  obtain ⟨e, v, rfl, _⟩ := h
  exact hps.symm
section
variable {P : Program} {w : World} {K : PySem.W.Frag} {mg : Str → Option Value} {base : Heap} {N : List Str} {qual : Str} {scope : Scope} {f : Addr} {cd : Value} {A : Around} {outer : List Env} {s : Shared} {H : Hp} {E : XK}
theorem ps_raise1 {x : Str} {C : Addr} {fl : Str} {ps : List Str} {j k : Nat} {e1 : Expr} {ta : TA} {np cpos pos : Pos} (M : XCl P w K mg base j C fl ps) (hr : Room k (cxOf (CXe P w) P w K mg base N qual scope f cd A outer s H E).A) (hg : Gl (cxOf (CXe P w) P w K mg base N qual scope f cd A outer s H E) x) (hm : mg x = some (.ref C)) (k1 : XK1 K C)
    (ha : PA (cxOf (CXe P w) P w K mg base N qual scope f cd A outer s H E) [e1] ta) (hjk : j + 1 ≤ k := by decide) (hd : (x == ("__debug__" : Str)) = false := by decide)
    (he : starEach [e1] (cxOf (CXe P w) P w K mg base N qual scope f cd A outer s H E).env = (false, eval e1 (cxOf (CXe P w) P w K mg base N qual scope f cd A outer s H E).env) :: starEach [] (cxOf (CXe P w) P w K mg base N qual scope f cd A outer s H E).env := by rfl) :
    PS (cxOf (CXe P w) P w K mg base N qual scope f cd A outer s H E) (.Raise (some (.Call (.Name x np) [e1] [] cpos)) none pos) (fun _ σ H' => ta σ H' fun vs H2 => ∃ v, vs = [v] ∧ ∀ dx, H2 dx = none → E (.ref C) (some dx) (upd H2 dx (.xd [(fl, v)]))) := by
  intro pins s1 σ H1 D I h
  obtain ⟨fI, fd, F, xi, kp, hb⟩ := M.ex
  rw [arm_exec_Raise]
  refine wpAny_bind (wpAny_standAt (exc_raise (K := K) (C := C) (I.ok.hd rfl) k1 ?_))
  refine wpAny_bind (wpAny_mono (wpAny_Call_Name_kw (ld_glob I hg hm ?_ hd)) (fun v s2 z => wpAny_bind (wpAny_standAt (wpAny_pure z))) fun _ _ z => z)
  refine PySem.W.callWith_K (h₀ := base) I.ok.mod.kin kp (thn (ha cpos pins s1 σ H1 _ I h) fun us s2 ⟨vs, H2, I2, r, v, ev, q⟩ => ⟨I2.kIn, ?_⟩) he rfl
  subst ev
  obtain ⟨u, rfl, ru⟩ := vals1 r
  obtain ⟨N', nm, q', bs, bm, hdct, sn, sub, ab, col, dd, k0, k1', k2, k3, k5, hC, T⟩ := xi.here I2.kIn
  have tf : PySem.W.typeIn K (.ref fI) = some (.type "function") := beq_iff_eq.mp xi.fn
  obtain ⟨oI, hI, cI⟩ := Option.map_eq_some_iff.mp tf
  obtain ⟨hh, g, d, t, os⟩ := s2
  refine exc_make hC T (PySem.W.looks_findIn I2.kIn xi.ini) (I2.kIn _ _ hI) cI (by show 1 ≤ sizeLine; decide) fun h' e m => ?_
  have G : Gone (cxOf (CXe P w) P w K mg base N qual scope f cd A outer s H E).stack e [] hh h' := ⟨fun b o q _ _ _ => m.keeps b o q, fun b o q _ => ⟨o.slots, m.keeps b o q⟩⟩
  have ne : H2 e = none := HOk.un_at I2.hok m.new
  obtain ⟨t0, ge, _⟩ := m.there
  have I3 : Inv (cxOf (CXe P w) P w K mg base N qual scope f cd A outer s H E) pins σ (upd H2 e (ExN e C none)) ⟨h', g, d, t, os⟩ := I2.flown (t' := t) rfl rfl rfl G (I2.fr1 rfl m.new) (fun b z => by cases z) ne (.inr ⟨_, rfl⟩) ((I2.hok.kept m.keeps).take ne ⟨⟨_, _, t0, ge, rfl, rfl, rfl, rfl, rfl, rfl, (by show 4 < 6; decide)⟩, ⟨_, ge⟩, fun g1 g2 ⟨o, vs, a0, q, r⟩ k => ⟨o, vs, a0, k o q, r⟩⟩)
  have hsp : spInit C fl [.ref e, v] (upd H2 e (ExN e C none)) (fun v' H' => v' = .non ∧ ∃ dx, H2 dx = none ∧ dx ≠ e ∧ H' = upd (upd (upd H2 e (ExN e C none)) dx (.xd [(fl, v)])) e (ExN e C (some dx))) E0 := ⟨e, v, rfl, upd_same, fun dx hdx => by
    have z : dx ≠ e := fun z => by rw [z, upd_same] at hdx; cases hdx
    rw [upd_ne z] at hdx
    exact ⟨rfl, dx, hdx, z, rfl⟩⟩
  refine wpAny_call (codeAny_mono (F.run _ (cxOf (CXe P w) P w K mg base N qual scope f cd A outer s H E).stack ⟨h', g, d, t, os⟩ _ ⟨[.ref e, u], []⟩ [.ref e, u] [.ref e, v] _ E0 ((hr.mono hjk).make C [u] []) (I3.env0.make C [u] []) (hb _ [.ref e, u] I3.kIn (F.len _ _ _ _ hsp)) (.cons rfl (.cons ru .nil)) hsp) fun r s3 hq => ?_)
  cases r with
  | error z => exact False.elim hq
  | ok fw =>
    cases fw with
    | next => exact False.elim hq
    | brk => exact False.elim hq
    | cont => exact False.elim hq
    | ret uu =>
      obtain ⟨v', H', I4, rv, ev, dx, hdx, ne2, eH⟩ := I3.after hq
      subst ev
      subst eH
      obtain ⟨⟨oe, fs, a0, o1, o2, o3, o4, o5, o6, o7⟩, _⟩ := I4.hok e _ upd_same
      refine ⟨rv, e, oe, fs, rfl, I4.kIn, o1, o2, o4, o6, ?_⟩
      have I5 := I4.drop (a := e) upd_same
      have eD : dropH (upd (upd (upd H2 e (ExN e C none)) dx (.xd [(fl, v)])) e (ExN e C (some dx))) e = upd H2 dx (.xd [(fl, v)]) := by
        funext b
        by_cases z : b = e
        · rw [z]
          unfold dropH
          rw [if_pos rfl, upd_ne (Ne.symm ne2), ne]
        · rw [drop_ne z, upd_ne z]
          by_cases z2 : b = dx
          · rw [z2, upd_same, upd_same]
          · rw [upd_ne z2, upd_ne z2, upd_ne z]
      rw [eD] at I5
      exact fly_first I5 o1 o4 o6 o7.1 (I2.up rfl m.new) (by rw [upd_ne (Ne.symm ne2)]; exact ne) (by rw [o2, o3]; exact q dx hdx)
end
end L2
set_option Elab.async false
set_option linter.all false
set_option maxRecDepth 100000
set_option maxHeartbeats 16000000
namespace XC
open PySem
section
variable {M : Model} {A : Around} {E : Value → Shared → Prop} {s : Shared}
theorem note_any {base : Heap} {env : Env} {outer : List Env} {L e T : Addr} {cls fl : Value} {dd : Option Addr} {Q : Unit → Shared → Prop}
    (hfr : A.frames = some (env :: outer)) (hl : s.heap.FunFrames base (env :: outer)) (hf : env.frame = some L) (ht : Tr s.heap e cls dd T fl) (hfl : (fl == rawInt L) = false)
    (h : ∀ h' T', Gone (env :: outer) e [T] s.heap h' → s.heap.get? T' = none → Tr h' e cls dd T' (rawInt L) → Q () { s with heap := h' }) : wpAny M A (noteFrame (.ref e) env) Q E s := by
  obtain ⟨k1, oe, vs, oT, ts, a1, a2, a2', a3, a4, a5, a6, a7, a8, a9⟩ := flight_at (x := .none) ht
  obtain ⟨oe0, vs0, oT0, ts0, h1, h2, h2', h3, h4, h5, h6, h7, h8, h9⟩ := ht
  unfold noteFrame
  simp only [hf]
  refine wpAny_bind (wpAny_field h1 h3 h4 ?_)
  rw [if_pos (show (Value.ref T != Value.none) = true from by simp)]
  refine wpAny_bind (wpAny_field h6 h7 h8 ?_)
  rw [if_neg (by rw [hfl]; exact Bool.false_ne_true)]
  have nT : T ∉ frsOf (env :: outer) := fun z => by
    obtain ⟨_, o, q, n⟩ := frames_free hl T z
    rw [h6] at q
    cases q
    exact n ts0 h7
  have nt : ∀ b o, s.heap.get? b = some o → (∀ vs, o.data ≠ .fields vs) → b ≠ T := fun b o q n z => by
    rw [z, h6] at q
    cases q
    exact n ts0 h7
  refine wpAny_bind (wpAny_setField h6 h7 (Array.getElem?_eq_some_iff.mp h8).1 ?_)
  refine entry_ok hfr (hl.of_keeps fun b o q n => ⟨o, k1 b o (nt b o q n) q, rfl⟩) hf a1 a3 (Array.getElem?_eq_some_iff.mp a4).1 a9 fun h' T' G n t => ?_
  refine h h' T' ⟨fun b o q z w u => G.keep b o (k1 b o (fun z => w (by rw [z]; exact List.mem_singleton_self _)) q) z (by simp) u, fun b o q w => G.slot b o (k1 b o (fun z => nT (z ▸ w)) q) w⟩ ?_ (by rw [← a2, ← a2']; exact t)
  cases q : s.heap.get? T' with
  | none => rfl
  | some o =>
    by_cases z : T' = T
    · rw [z, a6] at n
      cases n
    · rw [show (s.heap.update T (Obj.mapFields (·.setIfInBounds 3 Value.none))).get? T' = some o from k1 T' o z q] at n
      cases n
theorem leave_any {base : Heap} {env : Env} {outer : List Env} {L e T : Addr} {cls fl : Value} {dd : Option Addr} {Q : Unit → Shared → Prop}
    (hfr : A.frames = some (env :: outer)) (hl : s.heap.FunFrames base (env :: outer)) (hf : env.frame = some L) (ht : Tr s.heap e cls dd T fl)
    (h : ∀ h' T', Gone (env :: outer) e [T] s.heap h' → (s.heap.get? T' = none ∨ T' = T) → Tr h' e cls dd T' .none → Q () { s with heap := h' }) : wpAny M A (leaving env (.ref e)) Q E s := by
  unfold leaving
  cases hfl : (fl == rawInt L) with
  | false => exact wpAny_bind (note_any hfr hl hf ht hfl fun h' T' G n t => fly_off t fun h2 k t2 => h h2 T' (G.off k (.inl n) (new_notIn n hl)) (.inl n) t2)
  | true =>
    have e1 : fl = rawInt L := by simpa using hfl
    subst e1
    have nT := ht.notIn hl
    refine wpAny_bind (note_same hf ht (fly_off ht fun h2 k t2 => h h2 T ⟨fun b o q z w u => k b o (fun y => w (by rw [y]; exact List.mem_singleton_self _)) q, fun b o q w => ⟨o.slots, k b o (fun y => nT (y ▸ w)) q⟩⟩ (.inr rfl) t2))
theorem pass_on {what : String} {cenv : Env} {e T : Addr} {cls fl : Value} {dd : Option Addr} {α : Type} (ht : Tr s.heap e cls dd T fl)
    (h : ∀ h', (∀ b o, b ≠ T → s.heap.get? b = some o → h'.get? b = some o) → Tr h' e cls dd T (cenv.frame.elim .none fun f => rawInt f) → E (.ref e) { s with heap := h' }) : wpAny M A (passOn what (.ref e) cenv : Sem α) (fun _ _ => False) E s := by
  obtain ⟨k, t⟩ := flight_at (x := cenv.frame.elim .none fun f => rawInt f) ht
  obtain ⟨oe, vs, oT, ts, h1, h2, h2', h3, h4, h5, h6, h7, h8, h9⟩ := ht
  unfold passOn setFlight
  refine wpAny_bind (wpAny_field h1 h3 h4 ?_)
  rw [if_neg (by simp)]
  refine wpAny_bind (wpAny_bind (wpAny_field h1 h3 h4 ?_))
  rw [if_pos (show (Value.ref T != Value.none) = true from by simp)]
  exact wpAny_setField h6 h7 (Array.getElem?_eq_some_iff.mp h8).1 (wpAny_throw (h _ k t))
theorem Tr.keep {h h' : Heap} {e T : Addr} {cls fl : Value} {dd : Option Addr} (ht : Tr h e cls dd T fl) (k : ∀ b o, (b = e ∨ b = T) → h.get? b = some o → h'.get? b = some o) : Tr h' e cls dd T fl := by
  obtain ⟨oe, vs, oT, ts, h1, h2, h2', h3, h4, h5, h6, h7, h8, h9⟩ := ht
  exact ⟨oe, vs, oT, ts, k _ _ (.inl rfl) h1, h2, h2', h3, h4, h5, k _ _ (.inr rfl) h6, h7, h8, h9⟩
end
end XC
namespace L2
open PySem PySem.Spec PyProof.Rows XC
section
variable {P : Program} {w : World} {K : PySem.W.Frag} {mg : Str → Option Value} {base : Heap} {N : List Str} {qual : Str} {scope : Scope} {f : Addr} {cd : Value} {A : Around} {outer : List Env} {s : Shared} {H : Hp} {E : XK} {pins : List (Addr × Obj)} {σ : St} {H' : Hp} {s' : Shared}
theorem fly_any (I : Inv (cxOf (CXe P w) P w K mg base N qual scope f cd A outer s H E) pins σ H' s') {a T : Addr} {cls fl : Value} {dd : Option Addr} (ht : Tr s'.heap a cls dd T fl) (new : s.heap.get? a = none) (newT : s.heap.get? T = none) (fr : H' a = none) (frT : H' T = none) (hE : E cls dd H') :
    (cxOf (CXe P w) P w K mg base N qual scope f cd A outer s H E).xe (.ref a) s' := by
  refine leave_any (base := base) (L := s.heap.objs.size) I.ok.frames I.stack rfl ht fun h' T' G hT' ht' => ?_
  have z : s.heap.get? T' = none ∧ H' T' = none := by
    rcases hT' with z | z
    · exact ⟨I.up rfl z, HOk.un_at I.hok z⟩
    · rw [z]; exact ⟨newT, frT⟩
  exact ⟨a, T', cls, dd, H', rfl, I.os, I.bare, Un.gone I.base G new (fun b z => by rw [List.mem_singleton.mp z]; exact newT) loc_new I.ok.frf, HOk.gone I.hok G fr (fun b z => by rw [List.mem_singleton.mp z]; exact frT) I.stkFree, new, fr, ht', z.1, z.2, hE⟩
end
section
variable {X : Cx} {tg elt iter : Expr} {ifs : List Expr} {sc : Scope} {pos : Pos} {M : List Str} {ρ : List (Option Nat)} {wi : TI} {g : TG} {tt : TT} {te : TE}
theorem comp_blockE {E : XK} (osc : Scope) (hosc : X.env.scope = osc) (N : List Str) (hN : X.N = N) (S : CompScope osc N sc M ρ) (hc : X.calm = true)
    (hg : ∀ cl C s H fp xe, PG (cxComp X sc cl C M s H fp xe) tg g) (ht : ∀ cl C s H fp xe, PTs (cxComp X sc cl C M s H fp xe) ifs tt) (he : ∀ cl C s H fp xe, Passes (CXe X.prog X.w) (cxComp X sc cl C M s H fp xe) E → PE (cxComp X sc cl C M s H fp xe) elt te)
    {pins : List (Addr × Obj)} {σ : St} {H : Hp} {s : Shared} {itv : Value} {Q : VK} {RR : Value → Addr → Result → Shared → Prop} (I : Inv X pins σ H s)
    (h2 : PIE X pins σ tg (fun J H1 => ∀ D, H1 D = none → ∃ W : Nat → Nat → St → Hp → Prop, (∃ m, W 0 m (subS ρ σ) (upd H1 D (.lst []))) ∧ ∀ i m σ2 H2, W i m σ2 H2 →
      (J.stop i H2 ∧ Q (.ref D) H2) ∨ (J.go i H2 ∧ ∃ N : St → Hp → Prop, (∀ σ' H', N σ' H' → ∃ m', m' < m ∧ W (i + 1) m' σ' H') ∧ ∀ x H3, J.yld i H2 x H3 → g x σ2 H3 fun σ4 H4 => tt σ4 H4 fun b H5 =>
        if b = true then te σ4 H5 fun y H6 => ∃ ys, H6 D = some (.lst ys) ∧ ys.length < sizeLine ∧ N σ4 (upd H6 D (.lst (ys ++ [y])))
        else N σ4 H5)) itv s)
    (hP : ∀ (cl : List (Str × Addr)) (C D : Addr) (H2 : Hp) (fp : List Addr) (xe : Value → Shared → Prop), Inv X pins σ H2 s → s.heap.objs.size ≤ C → (∀ b ∈ fp, FpOk X pins H2 b) → xe = notedBy (model X.prog X.w) X.A (compEnvC sc cl C X.env) (fun e s' => RR (.ref D) C (.error e) s') → Passes (CXe X.prog X.w) (cxComp X sc cl C M s H2 fp xe) E)
    (hR : ∀ (D C : Addr) (H' : Hp) (s' : Shared) (mC : Str → Option Value), Inv X pins σ H' s' → s'.heap.Ns C mC → FpOk X pins H' C → Q (.ref D) H' → RR (.ref D) C (.ok .next) s') :
    wpAny (model X.prog X.w) X.A (newList []) (fun acc s3 => wpAny (model X.prog X.w) X.A (newFunctionEnv sc X.env.globals (closL X.env.cells sc.names []) [] X.env.qual none .none (some X.env)) (fun cenv s4 =>
      codeAny (model X.prog X.w) X.A (.compStart (.ListComp elt [⟨tg, iter, ifs, 0⟩] sc pos) 0 itv acc { cenv with scope := relabel sc X.env }) (RR acc cenv.locals) s4) X.xe s3) X.xe s := by
  subst hosc hN
  obtain ⟨it, fp, tn, J, H2, rfl, I2, T, st2, f2, q2⟩ := h2
  have hcells : ∀ y ∈ sc.names, y.2 = .free → ∃ c, X.env.cells.lookup y.1 = some c := fun y hy hf => I2.ok.has y.1 (S.fre y hy hf)
  have hclx : ∀ {x c}, (closL X.env.cells sc.names []).lookup x = some c → X.env.cells.lookup x = some c := fun {x c} e => (closL_lookup _ _ hcells e).elim id fun z => by simp at z
  generalize hcl : closL X.env.cells sc.names [] = cl at hclx ⊢
  refine wpAny_newObj_type (wpAny_newFunctionEnv S.nocell (by intro y hy; simp at hy) (fun h1 hns hsb => ?_) S.kind)
  dsimp only at hns hsb ⊢
  generalize hG : s.heap.push { cls := .type "list", dict := none, data := .seq ([] : List Value).toArray } = G at hns hsb ⊢
  have hC : G.objs.size = s.heap.objs.size + 1 := by rw [← hG, Heap.size_push]
  have old : ∀ b o, s.heap.get? b = some o → h1.get? b = some o := fun b o e =>
    hsb.extBut b o (Nat.ne_of_lt (by rw [hC]; exact Nat.lt_succ_of_lt (Heap.lt_size e))) (Heap.get?_push_of_some _ (hG ▸ Heap.get?_push_of_some _ e))
  have hD1 : h1.get? s.heap.objs.size = some { cls := .type "list", dict := none, data := .seq ([] : List Value).toArray } :=
    hsb.extBut _ _ (by rw [hC]; exact Nat.ne_of_lt (Nat.lt_succ_self _)) (Heap.get?_push_of_some _ (hG ▸ Heap.get?_push_size _ rfl))
  have hDn : H2 s.heap.objs.size = none := I2.hok.fresh (Nat.le_refl _)
  obtain ⟨W, ⟨m0, w0⟩, turn⟩ := q2 s.heap.objs.size hDn
  have hCle : s.heap.objs.size ≤ G.objs.size := by rw [hC]; exact Nat.le_succ _
  have hCD : G.objs.size ≠ s.heap.objs.size := by rw [hC]; exact Nat.succ_ne_self _
  generalize hxe : notedBy (model X.prog X.w) X.A (compEnvC sc cl G.objs.size X.env) (fun e s' => RR (.ref s.heap.objs.size) G.objs.size (.error e) s') = xe
  have hpass := hP cl G.objs.size s.heap.objs.size H2 fp xe I2 hCle f2 hxe.symm
  have fpC : ∀ b ∈ fp, b ≠ G.objs.size := fun b hb => by
    obtain ⟨o, e, _⟩ := T.obj 0 _ st2 b hb
    have := Heap.lt_size e
    exact Nat.ne_of_lt (Nat.lt_of_lt_of_le this hCle)
  have fpS : ∀ b ∈ fp, b ∉ frs X.stack := fun b hb z => by
    obtain ⟨f0, f1, f3, _⟩ := f2 b hb
    rcases List.mem_cons.mp (I2.stkSub b z) with e | e
    · exact f1 e
    · exact f3 e
  have hok : (cxComp X sc cl G.objs.size M s H2 fp xe).Ok := by
    refine ⟨I2.ok.mod, S.kind, I2.ok.glob, I2.ok.blt, hCle, fun x y c e1 e2 => I2.ok.inj x y c (hclx e1) (hclx e2), fun x hx => ?_, (fun x c e _ => absurd (show false = true from e) Bool.false_ne_true), I2.ok.hd, I2.ok.frames, .inl rfl, fun b hb => ⟨fpC b hb, fun x c e => (f2 b hb).2.2.2.2.1 x c (hclx e)⟩,
      I2.bs, Nat.le_trans I2.ok.bsz I2.sz, fun b o e hb => ?_, fpS, I2.stack, I2.stkFree⟩
    · rcases relabel_back (names := sc.names) (env := X.env) hx with q | q
      · rw [← hcl]; exact closL_has _ _ q
      · exact absurd rfl (S.nocell _ q)
    · rcases (f2 b hb).2.2.2.1 with z | z
      · exact I2.ok.noex b o e z
      · exact absurd (Nat.lt_of_lt_of_le (Heap.lt_size e) (Nat.le_trans I2.ok.bsz z)) (Nat.lt_irrefl _)
  have I4 : Inv (cxComp X sc cl G.objs.size M s H2 fp xe) [] (subS ρ σ) (upd H2 s.heap.objs.size (.lst [])) { s with heap := h1, toks := s.toks + ([] : List (Str × Value)).length } := by
    refine ⟨hok, rfl, I2.bare, Un.laid old (Nat.le_refl _) hDn, ⟨_, hns, fun j x v e1 e2 _ => ?_⟩, fun x c e => ?_, ?_, fun x c e => ?_, fun p hp => absurd (show p ∈ ([] : List (Addr × Obj)) from hp) (by simp), I2.hok.laid old (Nat.le_refl _) ⟨by show 0 ≤ sizeLine; decide, [], 0, .nil, hD1⟩, ?_⟩
    · unfold subS at e2
      rw [List.getElem?_map] at e2
      cases q : ρ[j]? with
      | none => rw [q] at e2; cases e2
      | some o =>
        rw [q] at e2
        cases o with
        | none => cases e2
        | some i =>
          have e2' : (σ[i]?).join = some v := Option.some.inj e2
          have e3 : σ[i]? = some (some v) := by
            cases z : σ[i]? with
            | none => rw [z] at e2'; cases e2'
            | some y => rw [z] at e2'; cases y with
              | none => cases e2'
              | some y => cases e2'; rfl
          have hz : (ρ.zip M)[j]? = some (some i, x) := List.getElem?_zip_eq_some.mpr ⟨q, e1⟩
          have hr := S.ren (some i, x) (List.mem_of_getElem? hz)
          obtain ⟨r1, r2⟩ := of_decide_eq_true hr
          obtain ⟨m, hn, hl⟩ := I2.loc
          have hfr := S.fre _ (PySem.mem_of_lookup r2) rfl
          obtain ⟨u, ru, lk⟩ := hl i x v r1 e3 (hfr.elim (fun z => .inr (.inl z)) fun z => .inr (.inr z))
          refine ⟨u, ru, ?_⟩
          rcases lk with ⟨k, _⟩ | ⟨_, c, hcc, cell⟩
          · have k' : X.env.scope.names.lookup x = some .local := k
            rcases hfr with z | z
            · rw [k'] at z; cases z
            · rw [k'] at z; cases z
          · obtain ⟨c', hc'⟩ := closL_has (cells := X.env.cells) sc.names [] (PySem.mem_of_lookup r2)
            rw [hcl] at hc'
            have := hclx hc'
            rw [hcc] at this
            cases this
            obtain ⟨oc, ho, hd⟩ := cell
            exact .inr ⟨relabel_free r2, _, hc', oc, old _ _ ho, hd⟩
    · obtain ⟨v, oc, ho, hd⟩ := I2.cell x c (hclx e)
      exact ⟨v, oc, old _ _ ho, hd⟩
    · show upd H2 s.heap.objs.size (.lst []) G.objs.size = none
      rw [upd_ne hCD]
      exact I2.hok.fresh hCle
    · show upd H2 s.heap.objs.size (.lst []) c = none
      obtain ⟨v, oc, ho, hd⟩ := I2.cell x c (hclx e)
      rw [upd_ne (Nat.ne_of_lt (Heap.lt_size ho))]
      exact I2.freeC x c (hclx e)
    · show (subS ρ σ).length = M.length
      unfold subS
      rw [List.length_map, S.len]
  have st4 : tn 0 h1 := T.keep 0 _ _ st2 fun b _ o e => old b o e
  have fr4 : ∀ b ∈ fp, upd H2 s.heap.objs.size (.lst []) b = none := fun b hb => by
    obtain ⟨o, e, _⟩ := T.obj 0 _ st2 b hb
    rw [upd_ne (Nat.ne_of_lt (Heap.lt_size e))]
    exact (f2 b hb).1
  have stat : ∀ {H' : Hp}, (∀ b ∈ fp, H' b = none) → ∀ b ∈ fp, FpOk (cxComp X sc cl G.objs.size M s H2 fp xe) [] H' b := fun hn b hb =>
    ⟨hn b hb, fpC b hb, fpS b hb, .inl hb, fun x c e => (f2 b hb).2.2.2.2.1 x c (hclx e), fun p hp => absurd (show p ∈ ([] : List (Addr × Obj)) from hp) (by simp)⟩
  have loop : codeAny (model X.prog X.w) X.A (.compLoop (.ListComp elt [⟨tg, iter, ifs, 0⟩] sc pos) 0 (.ref it) (.ref s.heap.objs.size) (compEnvC sc cl G.objs.size X.env)) (RR (.ref s.heap.objs.size) G.objs.size)
      { s with heap := h1, toks := s.toks + ([] : List (Str × Value)).length } := by
    refine comp_loop (fun n s' => ∃ i σ' H', Inv (cxComp X sc cl G.objs.size M s H2 fp xe) [] σ' H' s' ∧ tn i s'.heap ∧ (∀ b ∈ fp, H' b = none) ∧ W i n σ' H') ?_ m0 ⟨0, _, _, I4, st4, fr4, w0⟩
    rw [hxe]
    rintro n s3 ⟨i, σ3, H3, I3, st3, fr3, w3⟩
    rcases turn i n σ3 H3 w3 with ⟨stop, qn⟩ | ⟨go, N, hN, step⟩
    · refine thn (T.done (cxComp X sc cl G.objs.size M s H2 fp xe) rfl rfl rfl hc i [] s3 σ3 H3 xe I3 (stat fr3) st3 stop) fun r s4 ⟨hr, I5⟩ => ?_
      subst hr
      obtain ⟨mC, nC, _⟩ := I5.loc
      have I6 : Inv X pins σ H3 s4 := I2.call' I5.os I5.base I5.hok I5.bare fun b hb => ⟨(f2 b hb).2.2.2.1, (f2 b hb).2.1, (f2 b hb).2.2.2.2.1, (f2 b hb).2.2.2.2.2⟩
      exact hR _ _ H3 s4 mC I6 nC (I2.fpOk hCle I5.free) qn
    · refine thn (T.item (cxComp X sc cl G.objs.size M s H2 fp xe) rfl rfl rfl hc i [] s3 σ3 H3 xe I3 (stat fr3) st3 go) fun r s4 ⟨u, hr, h4⟩ => ?_
      subst hr
      refine thn h4 fun _ s5 ⟨x, H5, I5, r5, y5, st5, fr5⟩ => ?_
      have I5' := I5.pinned (stat fr5) (T.obj _ _ st5)
      refine thn (hg cl G.objs.size s H2 fp xe _ s5 σ3 H5 x u _ I5' r5 (step x H5 y5)) fun _ s6 ⟨σ6, H6, I6, q6⟩ => ?_
      have fin : ∀ {s7 : Shared} {σ7 : St} {H7 : Hp}, Inv (cxComp X sc cl G.objs.size M s H2 fp xe) ([] ++ pinsAt fp s5.heap) σ7 H7 s7 → (∃ m', m' < n ∧ W (i + 1) m' σ7 H7) →
          ∃ m, m < n ∧ ∃ i σ' H', Inv (cxComp X sc cl G.objs.size M s H2 fp xe) [] σ' H' s7 ∧ tn i s7.heap ∧ (∀ b ∈ fp, H' b = none) ∧ W i m σ' H' := fun {s7 σ7 H7} I7 ⟨m', hm, w7⟩ => by
        refine ⟨m', hm, i + 1, σ7, H7, I7.unpinned, T.keep _ _ _ st5 fun b hb o e => (I7.pin (b, o) (List.mem_append_right _ (List.mem_append_right _ (mem_pinsAt hb e)))).1, fun b hb => ?_, w7⟩
        obtain ⟨o, e, d⟩ := T.obj _ _ st5 b hb
        exact (I7.pin (b, o) (List.mem_append_right _ (List.mem_append_right _ (mem_pinsAt hb e)))).2.1
      refine thn (ht cl G.objs.size s H2 fp xe _ s6 σ6 H6 _ I6 q6) fun ok s7 ⟨H7, I7, q7⟩ => ?_
      cases ok with
      | false =>
        rw [if_neg Bool.false_ne_true] at q7 ⊢
        exact fin I7 (hN _ _ q7)
      | true =>
        rw [if_pos rfl] at q7 ⊢
        refine thn (he cl G.objs.size s H2 fp xe hpass _ s7 σ6 H7 _ I7 q7) fun y s8 ⟨yv, H8, I8, r8, ys, hys, hlt, q8⟩ => ?_
        obtain ⟨z, its, k, rv, hl, e⟩ := I8.lstM hys
        refine call_meets F.slot_list_append ⟨_, e, rfl⟩ F.entry_list_append (F.args_list_append_2 _ _) (PySem.list_append _ its.toArray k y (by rw [List.size_toArray]; omega)) ⟨e, ?_⟩
        exact fin (I8.lset (its' := its ++ [y]) hys e (by simp) (rv.append (.cons r8 .nil)) (by rw [List.length_append, List.length_singleton]; omega)) (hN _ _ q8)
  exact codeAny_compStart_list loop (T.self X.A 0 _ _ _ st4 loop)
end
section
variable {P : Program} {w : World} {K : PySem.W.Frag} {mg : Str → Option Value} {base : Heap} {N' : List Str} {qual : Str} {scope : Scope} {f : Addr} {cd : Value} {A : Around} {outer : List Env} {s0 : Shared} {H0 : Hp} {E : XK}
variable {tg elt iter : Expr} {ifs : List Expr} {sc : Scope} {pos : Pos} {M : List Str} {ρ : List (Option Nat)} {wi : TI} {g : TG} {tt : TT} {te : TE}
theorem pass_block {pins : List (Addr × Obj)} {σ : St} {H2 : Hp} {s : Shared} {cl : List (Str × Addr)} {C D : Addr} {fp : List Addr} {xe : Value → Shared → Prop} {use : Option (Value → Sem Unit)} {Q : Value → Shared → Prop}
    (I2 : Inv (cxOf (CXe P w) P w K mg base N' qual scope f cd A outer s0 H0 E) pins σ H2 s) (hC : s.heap.objs.size ≤ C) (hfp : ∀ b ∈ fp, FpOk (cxOf (CXe P w) P w K mg base N' qual scope f cd A outer s0 H0 E) pins H2 b)
    (hxe : xe = notedBy (model P w) (cxOf (CXe P w) P w K mg base N' qual scope f cd A outer s0 H0 E).A (compEnvC sc cl C (cxOf (CXe P w) P w K mg base N' qual scope f cd A outer s0 H0 E).env) (fun e s' => compPost (model P w) (cxOf (CXe P w) P w K mg base N' qual scope f cd A outer s0 H0 E).A (cxOf (CXe P w) P w K mg base N' qual scope f cd A outer s0 H0 E).xe use Q (.ref D) C (.error e) s')) :
    Passes (CXe P w) (cxComp (cxOf (CXe P w) P w K mg base N' qual scope f cd A outer s0 H0 E) sc cl C M s H2 fp xe) E := by
  intro pins' σ' H1 s1 v s2 I1 h
  obtain ⟨a, T, cls, dd, H3, rfl, os, bare, un, hok, new, fr, ht, newT, frT, hE⟩ := h
  have J2 := Inv.call' (ch := []) I1 os un hok bare (fun b z => by cases z)
  have I3 : Inv (cxOf (CXe P w) P w K mg base N' qual scope f cd A outer s0 H0 E) pins σ H1 s1 := I2.call' I1.os I1.base I1.hok I1.bare fun b hb => ⟨(hfp b hb).2.2.2.1, (hfp b hb).2.1, (hfp b hb).2.2.2.2.1, (hfp b hb).2.2.2.2.2⟩
  have I4 : Inv (cxOf (CXe P w) P w K mg base N' qual scope f cd A outer s0 H0 E) pins σ H3 s2 := I2.call' J2.os J2.base J2.hok J2.bare fun b hb => ⟨(hfp b hb).2.2.2.1, (hfp b hb).2.1, (hfp b hb).2.2.2.2.1, (hfp b hb).2.2.2.2.2⟩
  have fa := I3.fr1 rfl new
  have fT := I3.fr1 rfl newT
  show xe (.ref a) s2
  rw [hxe]
  show wpAny (model P w) _ (noteFrame (.ref a) (cxOf (CXe P w) P w K mg base N' qual scope f cd A outer s0 H0 E).env) _ _ s2
  refine note_next (base := base) I4.ok.frames I4.stack rfl ht fun h3 T3 G3 n3 t3 => ?_
  obtain ⟨mC, ⟨oC, es, ep, hoC, rC⟩, _⟩ := J2.loc
  have Ca : C ≠ a := fun z => by
    obtain ⟨m, ⟨o, _, _, ho, _⟩, _⟩ := I1.loc
    rw [show (cxComp (cxOf (CXe P w) P w K mg base N' qual scope f cd A outer s0 H0 E) sc cl C M s H2 fp xe).env.locals = C from rfl, z, new] at ho
    cases ho
  have CT : C ≠ T := fun z => by
    obtain ⟨m, ⟨o, _, _, ho, _⟩, _⟩ := I1.loc
    rw [show (cxComp (cxOf (CXe P w) P w K mg base N' qual scope f cd A outer s0 H0 E) sc cl C M s H2 fp xe).env.locals = C from rfl, z, newT] at ho
    cases ho
  have CF : C ∉ frsOf (cxOf (CXe P w) P w K mg base N' qual scope f cd A outer s0 H0 E).stack := fun z => by
    obtain ⟨_, o, q, _⟩ := frames_free I2.stack C z
    exact absurd (Nat.lt_of_lt_of_le (Heap.lt_size q) hC) (Nat.lt_irrefl _)
  have CT3 : C ≠ T3 := fun z => by
    have q : s2.heap.get? C = some oC := hoC
    rw [z, n3] at q
    cases q
  have kC : h3.get? C = some oC := G3.keep C oC hoC Ca (by intro z; exact CT (List.mem_singleton.mp z)) CF
  have frC : H3 C = none := J2.free
  refine ⟨mC, ⟨oC, es, ep, kC, rC⟩, fun h4 sb cenv _ => pass_on (t3.keep fun b o hb q => (sb.2 b ?_).trans q) fun h5 k5 t5 => ?_⟩
  · rcases hb with z | z
    · rw [z]; exact Ne.symm Ca
    · rw [z]; exact Ne.symm CT3
  · have ok3 : HOk P w H3 h3 := HOk.gone I4.hok G3 fr (fun b z => by rw [List.mem_singleton.mp z]; exact frT) I4.stkFree
    have f3 := I4.fr1 rfl n3
    have r3 : H3 T3 = none := HOk.un_at I4.hok n3
    have I5 : Inv (cxOf (CXe P w) P w K mg base N' qual scope f cd A outer s0 H0 E) pins σ H3 { s2 with heap := h3 } := I4.flown (t' := s2.toks) rfl rfl rfl G3 fa (fun b z => by rw [List.mem_singleton.mp z]; exact fT) fr (.inl rfl) ok3
    have fC := I2.fpOk (H' := H3) hC frC
    have I6 : Inv (cxOf (CXe P w) P w K mg base N' qual scope f cd A outer s0 H0 E) pins σ H3 { s2 with heap := h4 } := I5.turned (t' := s2.toks) (fun b o hb e => (sb.2 b hb).trans e) frC fC.2.1 fC.2.2.2.1 fC.2.2.2.2.1 fC.2.2.2.2.2
    have I7 : Inv (cxOf (CXe P w) P w K mg base N' qual scope f cd A outer s0 H0 E) pins σ H3 { s2 with heap := h5 } := I6.flown (t' := s2.toks) (a := T3) (ts := []) rfl rfl rfl ⟨fun b o q z _ _ => k5 b o z q, fun b o q w => ⟨o.slots, k5 b o (fun z => new_notIn n3 I4.stack (z ▸ w)) q⟩⟩ f3 (fun b z => by cases z) r3 (.inl rfl) (fun b o q => (I6.hok b o q).stay (fun c u hc r => k5 c u (fun z => by
      rcases hc with hc | hc
      · rw [← hc, z, r3] at q; cases q
      · rw [z, r3] at hc; cases hc) r) (fun _ q => q) fun _ _ q => q)
    exact fly_any I7 t5 fa.s0 (I4.up rfl n3) fr r3 hE
end
end L2
set_option Elab.async false
set_option linter.all false
set_option maxRecDepth 100000
set_option maxHeartbeats 16000000
namespace L2
open PySem XC
section
variable {P : Program} {w : World} {K : PySem.W.Frag} {mg : Str → Option Value} {base : Heap} {N' : List Str} {qual : Str} {scope : Scope} {f : Addr} {cd : Value} {A : Around} {outer : List Env} {s0 : Shared} {H0 : Hp} {E : XK}
variable {tg elt iter : Expr} {ifs : List Expr} {sc : Scope} {pos : Pos} {M : List Str} {ρ : List (Option Nat)} {wi : TI} {g : TG} {tt : TT} {te : TE}
theorem ps_setCE {j : Nat} {x : Str} {px spos : Pos} (osc : Scope) (N : List Str) (S : CompScope osc N sc M ρ) (hNd : N'.Nodup) (hj : N'[j]? = some x) (hx : Loc scope x) (hi : PI (cxOf (CXe P w) P w K mg base N' qual scope f cd A outer s0 H0 E) tg iter wi) (hg : ∀ cl C s H fp xe, PG (cxComp (cxOf (CXe P w) P w K mg base N' qual scope f cd A outer s0 H0 E) sc cl C M s H fp xe) tg g)
    (ht : ∀ cl C s H fp xe, PTs (cxComp (cxOf (CXe P w) P w K mg base N' qual scope f cd A outer s0 H0 E) sc cl C M s H fp xe) ifs tt) (he : ∀ cl C s H fp xe, Passes (CXe P w) (cxComp (cxOf (CXe P w) P w K mg base N' qual scope f cd A outer s0 H0 E) sc cl C M s H fp xe) E → PE (cxComp (cxOf (CXe P w) P w K mg base N' qual scope f cd A outer s0 H0 E) sc cl C M s H fp xe) elt te)
    (hsw : swapsWith (.ListComp elt [⟨tg, iter, ifs, 0⟩] sc pos) (some (.Name x px)) spos.line (cxOf (CXe P w) P w K mg base N' qual scope f cd A outer s0 H0 E).env = pure true := by rfl) (hosc : scope = osc := by rfl) (hN : N' = N := by rfl) (hs : ∀ x, foldedSetIterable iter (cxOf (CXe P w) P w K mg base N' qual scope f cd A outer s0 H0 E).env x = pure x := by intro _; rfl)
    (hf : (cxOf (CXe P w) P w K mg base N' qual scope f cd A outer s0 H0 E).fn x = true ∨ (cxOf (CXe P w) P w K mg base N' qual scope f cd A outer s0 H0 E).env.scope.names.lookup x = some .local := by first | exact .inl rfl | exact .inr rfl | assumption) :
    PS (cxOf (CXe P w) P w K mg base N' qual scope f cd A outer s0 H0 E) (.Assign [.Name x px] (.ListComp elt [⟨tg, iter, ifs, 0⟩] sc pos) spos) (tAsg (tComp wi ρ g tt te) (gName j)) := by
  intro pins s σ H D I h
  have hcells : ∀ y ∈ sc.names, y.2 = .free → ∃ c, (cxOf (CXe P w) P w K mg base N' qual scope f cd A outer s0 H0 E).env.cells.lookup y.1 = some c := fun y hy hf => I.ok.has y.1 (by show scope.names.lookup y.1 = _ ∨ scope.names.lookup y.1 = _; rw [hosc]; exact S.fre y hy hf)
  rw [exec_Assign_Name_used _ _ _ _ hsw]
  refine wpAny_bind (wpAny_standAt (wpAny_bind ?_))
  show wpAny (model P w) (cxOf (CXe P w) P w K mg base N' qual scope f cd A outer s0 H0 E).A (do let _ ← comprehension (.ListComp elt [⟨tg, iter, ifs, 0⟩] sc pos) sc (cxOf (CXe P w) P w K mg base N' qual scope f cd A outer s0 H0 E).env (firstIterPos [⟨tg, iter, ifs, 0⟩] pos) (newList []) false (eval iter (cxOf (CXe P w) P w K mg base N' qual scope f cd A outer s0 H0 E).env) (some (assign (.Name x px) (cxOf (CXe P w) P w K mg base N' qual scope f cd A outer s0 H0 E).env))) _ (cxOf (CXe P w) P w K mg base N' qual scope f cd A outer s0 H0 E).xe s
  refine wpAny_bind (thn (Q := fun _ s' => SP (cxOf (CXe P w) P w K mg base N' qual scope f cd A outer s0 H0 E) pins D .next s') (wpAny_comprehension_free (M := model P w) (A := (cxOf (CXe P w) P w K mg base N' qual scope f cd A outer s0 H0 E).A) (E := (cxOf (CXe P w) P w K mg base N' qual scope f cd A outer s0 H0 E).xe) (e := .ListComp elt [⟨tg, iter, ifs, 0⟩] sc pos) (use := some (assign (.Name x px) (cxOf (CXe P w) P w K mg base N' qual scope f cd A outer s0 H0 E).env)) rfl hs (closure_pure hcells) S.kind S.own
    (thn (hi pins s σ H _ I h) fun v s1 h1 => thn h1 fun itv s2 h2 => ?_)) fun _ s' hq => wpAny_pure (wpAny_pure hq))
  obtain ⟨_, _, _, _, _, _, I2, _⟩ := id h2
  refine comp_blockE (E := E) (Q := fun v H' => gName j v σ H' D.nx) (RR := fun acc C => compPost (model P w) (cxOf (CXe P w) P w K mg base N' qual scope f cd A outer s0 H0 E).A (cxOf (CXe P w) P w K mg base N' qual scope f cd A outer s0 H0 E).xe (some (assign (.Name x px) (cxOf (CXe P w) P w K mg base N' qual scope f cd A outer s0 H0 E).env)) (fun _ s' => SP (cxOf (CXe P w) P w K mg base N' qual scope f cd A outer s0 H0 E) pins D .next s') acc C) osc hosc N hN S rfl hg ht he I2 h2 (fun cl C D H2 fp xe J hC hfp hxe => pass_block J hC hfp hxe) fun D' C H' s' mC I' nC fC q => ?_
  show wpAny _ _ (assign (.Name x px) (cxOf (CXe P w) P w K mg base N' qual scope f cd A outer s0 H0 E).env (.ref D')) _ _ s'
  refine wpAny_assign_Name (store_ok2 I' hNd hj hx (v := .ref D') rfl (fun s3 I3 ⟨a, sb, ha⟩ => ?_) hf)
  have hCa : C ≠ a := by
    rcases ha with e | e
    · rw [e]; exact fC.2.1
    · exact fun z => fC.2.2.2.2.1 x a e z.symm
  refine ⟨mC, nC.sameBut sb hCa, fun h' sb2 => ?_⟩
  obtain ⟨f0, f1, _, f3, f4, f5⟩ := fC
  exact ⟨_, H', I3.turned (t' := s3.toks) (fun b o hb e => (sb2.2 b hb).trans e) f0 f1 f3 f4 f5, q⟩
end
end L2
set_option Elab.async false
set_option linter.all false
set_option maxRecDepth 100000
set_option maxHeartbeats 16000000
namespace L2
open PySem PySem.Spec PyProof.Rows
noncomputable def ItEl (K : PySem.W.Frag) (a : Addr) : It :=
  ⟨fun i H => ∃ xs x, SqL K H a xs ∧ xs[i]? = some x,
   fun i H x H' => ∃ p v, (∀ xs, SqL K H a xs → xs[i]? = some v) ∧ H p = none ∧ x = .ref p ∧ H' = upd H p (.tup [.int i, v]),
   fun i H => ∃ xs, SqL K H a xs ∧ xs.length = i⟩
theorem turn_enumL {P : Program} {w : World} {K : PySem.W.Frag} {elts : List Expr} {k : Nat} {pos : Pos} (a e it : Addr) (hei : e ≠ it) :
    Turn P w K (.Tuple elts k pos) (ItEl K a) [e, it] e (fun i h => (∃ old, IsEnum h e it i old) ∧ h.IsListIter it a i) where
  mem := by simp
  obj := fun i h st b hb => by
    obtain ⟨⟨old, he⟩, o, ho, hc, hd⟩ := st
    rcases List.mem_cons.mp hb with z | hb
    · subst z
      exact ⟨_, he, fun v z => by
        have z' : Data.fields _ = Data.cell v := z
        cases z'⟩
    · obtain z := List.mem_singleton.mp hb
      subst z
      exact ⟨o, ho, fun v z => by rw [hd] at z; cases z⟩
  keep := fun i h h' st kk => by
    obtain ⟨⟨old, he⟩, o, ho, r⟩ := st
    exact ⟨⟨old, kk e (by simp) _ he⟩, o, kk it (by simp) o ho, r⟩
  item := by
    intro X hP hw hK hc i pins s σ H E I hf st hg
    subst hP hw hK
    obtain ⟨xs, x, hq, hx⟩ := hg
    obtain ⟨its, rv, p, hz⟩ := I.list hq
    obtain ⟨u, hu, ru⟩ := rv.get hx
    obtain ⟨⟨old, he⟩, hit⟩ := st
    have ht : s.heap.IsList a its.toArray := p.isList
    have hai : a ≠ it := by
      intro z
      obtain ⟨o, ho, hc1, _⟩ := id hit
      obtain ⟨o2, ho2, hc2, _⟩ := id ht
      rw [z, ho] at ho2
      cases ho2
      rw [hc1] at hc2
      exact absurd hc2 (by decide)
    have hae : a ≠ e := by
      intro z
      obtain ⟨o2, ho2, hc2, _⟩ := id ht
      have he' := he
      unfold IsEnum at he'
      rw [z, he'] at ho2
      cases ho2
      exact absurd (show Value.type "enumerate" = Value.type "list" from hc2) (by decide)
    have D := Draws.list (prog := X.prog) (w := X.w) (A := X.A.in1) (show X.A.in1.handled = none from I.ok.hd hc) it a hai its.toArray
    have hef : e ∉ [it, a] := by
      intro z
      rcases List.mem_cons.mp z with z | z
      · exact hei z
      · exact hae (List.mem_singleton.mp z).symm
    have W := WalksT.enumerateD D e hei hef (by simp)
    have hlt : i < its.toArray.size := by
      have h1 := (List.getElem?_eq_some_iff.mp hu).1
      simpa using h1
    refine W.item i s _ _ hlt ⟨⟨old, he⟩, hit, ht⟩ fun T vals h' tk hP hT hTup hM hk => ?_
    obtain ⟨t, y, hy, rfl⟩ := hP
    have ey : y = u := by
      have : its[i]? = some y := by simpa using hy
      rw [hu] at this
      exact (Option.some.inj this).symm
    subst ey
    have I1 : Inv X pins σ H { s with heap := h', toks := tk } := I.turnedL (ch := [e, it]) hk hf
    have hHT : H T = none := I.hok.fresh hT
    have fT : FpOk X pins H T := I.fpOk hT hHT
    refine ⟨_, rfl, ?_⟩
    refine W.go elts k pos i T { s with heap := h', toks := tk } _ _ hM fun h2 st2 hk2 => ?_
    have I2' := I1.turnedL (h' := h2) (t' := tk) (ch := [e, it]) hk2 hf
    have I2 : Inv X pins σ H { s with heap := h2, toks := tk } := I2'
    have hT2 : h2.IsTuple T #[.int i t, y] := by
      obtain ⟨o, ho, r⟩ := hTup
      exact ⟨o, hk2 T o (W.apart i T h' hM) ho, r⟩
    have I3 : Inv X pins σ (upd H T (.tup [.int i, x])) { s with heap := h2, toks := tk } :=
      I2.track fT ⟨by show 2 ≤ sizeLine; decide, [.int i t, y], .cons ⟨t, rfl⟩ (.cons ru .nil), hT2⟩
    refine ⟨.ref T, _, I3, rfl, ⟨T, x, fun ys hy' => by rw [I.list_inj hy' hq]; exact hx, hHT, rfl, rfl⟩, ⟨by simpa using st2.1, st2.2.1⟩, fun b hb => ?_⟩
    rw [upd_ne (fun z => W.apart i T h' hM (by rw [← z]; exact hb))]
    exact (hf b hb).1
  done := by
    intro X hP hw hK hc i pins s σ H E I hf st hg
    subst hP hw hK
    obtain ⟨xs, hq, hx⟩ := hg
    obtain ⟨its, rv, p, hz⟩ := I.list hq
    obtain ⟨⟨old, he⟩, hit⟩ := st
    have ht : s.heap.IsList a its.toArray := p.isList
    have hai : a ≠ it := by
      intro z
      obtain ⟨o, ho, hc1, _⟩ := id hit
      obtain ⟨o2, ho2, hc2, _⟩ := id ht
      rw [z, ho] at ho2
      cases ho2
      rw [hc1] at hc2
      exact absurd hc2 (by decide)
    have hae : a ≠ e := by
      intro z
      obtain ⟨o2, ho2, hc2, _⟩ := id ht
      have he' := he
      unfold IsEnum at he'
      rw [z, he'] at ho2
      cases ho2
      exact absurd (show Value.type "enumerate" = Value.type "list" from hc2) (by decide)
    have D := Draws.list (prog := X.prog) (w := X.w) (A := X.A.in1) (show X.A.in1.handled = none from I.ok.hd hc) it a hai its.toArray
    have hef : e ∉ [it, a] := by
      intro z
      rcases List.mem_cons.mp z with z | z
      · exact hei z
      · exact hae (List.mem_singleton.mp z).symm
    have W := WalksT.enumerateD D e hei hef (by simp)
    have hl := rv.length
    have hn : i = its.toArray.size := by simp; omega
    refine W.done s _ _ ⟨⟨old, by rw [← hn]; exact he⟩, by rw [← hn]; exact hit, ht⟩ fun h' tk hk => ⟨rfl, ?_⟩
    exact I.turnedL (ch := [e, it]) hk hf
  self := fun _ _ _ _ _ st h => by
    obtain ⟨⟨old, he⟩, _⟩ := st
    exact wpAny_pyIter_enum he h
section
variable {X : Cx} {elts : List Expr} {k : Nat} {tpos : Pos}
noncomputable def iEnumL (K : PySem.W.Frag) (ta : TA) : TI := fun σ H R => ta σ H fun vs H1 => ∃ a, vs = [.ref a] ∧ (∃ xs, SqL K H1 a xs) ∧ R (ItEl K a) H1
theorem pi_enumL {a : Expr} {ta : TA} {p pos : Pos} (hg : Gl X "enumerate") (hm : X.mg "enumerate" = none) (ha : PA X [a] ta) (hs : starEach [a] X.env = [(false, eval a X.env)] := by rfl) :
    PI X (.Tuple elts k tpos) (.Call (.Name "enumerate" p) [a] [] pos) (iEnumL X.K ta) := by
  intro pins s σ H R I h
  refine Call_ (ld_blt I hg hm boot_enumerate (PyProof.Rows.callWith_type1 (thn (ha pos pins s σ H _ I h) fun us s1 ⟨vs, H1, I1, r1, q1⟩ => ?_) hs rfl))
  obtain ⟨a, e, ⟨xs, hq⟩, q⟩ := q1
  subst e
  cases r1 with
  | cons r rr =>
    cases rr
    cases r
    obtain ⟨its, rv, p, hz⟩ := I1.list hq
    refine call_enumerate_list p.isList fun h' he hit hsz hk => ?_
    have I2 : Inv X pins σ H1 { s1 with heap := h' } := I1.kept (t' := s1.toks) hk
    refine wpAny_pyIter_enum he ?_
    refine ⟨s1.heap.objs.size + 1, [s1.heap.objs.size + 1, s1.heap.objs.size], _, _, H1, rfl, I2, turn_enumL a (s1.heap.objs.size + 1) s1.heap.objs.size (Nat.succ_ne_self _), ⟨⟨_, he⟩, hit⟩, fun b hb => ?_, q⟩
    have hb' : s1.heap.objs.size ≤ b := by
      rcases List.mem_cons.mp hb with z | z
      · rw [z]; exact Nat.le_succ _
      · rw [List.mem_singleton.mp z]; exact Nat.le_refl _
    exact I1.fpOk hb' (I1.hok.fresh hb')
end
theorem for_enumL {K : PySem.W.Frag} {a : Addr} {xs : List V} {g : TG} {tb : TS} {D : Ends} {σ : St} {H : Hp} (Pv : Nat → St → Hp → Prop) (h0 : Pv 0 σ H) (hl : ∀ i σ H, i ≤ xs.length → Pv i σ H → SqL K H a xs)
    (hs : ∀ i x p σ H, xs[i]? = some x → Pv i σ H → H p = none → g (.ref p) σ (upd H p (.tup [.int i, x])) fun σ2 H2 => tb { D with nx := Pv (i + 1), ct := Pv (i + 1), bk := D.nx } σ2 H2) (hd : ∀ σ H, Pv xs.length σ H → D.nx σ H) :
    ∃ W : Nat → Nat → St → Hp → Prop, (∃ m, W 0 m σ H) ∧ ∀ i m σ H, W i m σ H →
      ((ItEl K a).stop i H ∧ D.nx σ H) ∨ ((ItEl K a).go i H ∧ ∃ N : St → Hp → Prop, (∀ σ' H', N σ' H' → ∃ m', m' < m ∧ W (i + 1) m' σ' H') ∧ ∀ x H', (ItEl K a).yld i H x H' → g x σ H' fun σ2 H2 => tb { D with nx := N, ct := N, bk := D.nx } σ2 H2) := by
  refine ⟨fun i m σ H => m = xs.length - i ∧ i ≤ xs.length ∧ Pv i σ H, ⟨xs.length, by simp, Nat.zero_le _, h0⟩, ?_⟩
  rintro i m σ H ⟨rfl, hi, p⟩
  have q := hl i σ H hi p
  by_cases hlt : i < xs.length
  · refine .inr ⟨⟨xs, xs[i], q, by simp [hlt]⟩, Pv (i + 1), fun σ' H' p' => ⟨xs.length - (i + 1), by omega, rfl, hlt, p'⟩, fun x H' y => ?_⟩
    obtain ⟨pp, v, y, hn, e1, e2⟩ := y
    subst e1 e2
    exact hs i v pp σ _ (y xs q) p hn
  · have e : i = xs.length := by omega
    subst e
    exact .inl ⟨⟨xs, q, rfl⟩, hd σ H p⟩
theorem op_eqL_nil {X : Cx} (hu : X.A.units < cLine) : OpR X (compareOp .Eq) (fun x y H Q => ∃ a b xs, x = .ref a ∧ y = .ref b ∧ SqL X.K H a xs ∧ SqL X.K H b [] ∧ Q (.bl xs.isEmpty) H) := by
  intro pins s σ H x y v u Q I rx ry h
  obtain ⟨a, b, xs, rfl, rfl, ha, hb, q⟩ := h
  by_cases hx : xs = []
  · subst hx
    exact op_eqL_same hu pins s σ H _ _ _ _ Q I rx ry ⟨a, b, [], rfl, rfl, ha, hb, rfl, q⟩
  · cases rx
    cases ry
    obtain ⟨its, r1, p1, _⟩ := I.list ha
    obtain ⟨its2, r2, p2, _⟩ := I.list hb
    cases r2
    have hl1 := r1.length
    have hl : xs.length ≠ 0 := fun z => hx (List.length_eq_zero_iff.mp z)
    refine SeqAt.eq_list_lengthsAt p1.isList p2.isList (by rw [bne_iff_ne]; intro z; simp only [List.size_toArray, List.length_nil] at z; omega) hu ⟨.bl false, H, I, rfl, ?_⟩
    cases xs with
    | nil => exact absurd rfl hx
    | cons c r => exact q
end L2
set_option Elab.async false
set_option linter.all false
set_option maxRecDepth 100000
set_option maxHeartbeats 16000000
namespace L2
open PySem PySem.Spec PyProof.Rows
end L2
set_option Elab.async false
set_option linter.all false
set_option maxRecDepth 100000
set_option maxHeartbeats 16000000
namespace L2
open PySem PySem.Spec PyProof.Rows
section
variable {κ : Type} [DecidableEq κ]
end
noncomputable abbrev KT (H : Hp) : List (List Key × V) → List (List Key × Addr × Value) → Prop := Paired fun p q => p.1 = q.1 ∧ H q.2.1 = some (.tup (p.1.map kV)) ∧ RelV p.2 q.2.2
section
variable {P : Program} {w : World} {H : Hp} {h : Heap} {a : Addr}
end
section
variable {X : Cx} {pins : List (Addr × Obj)} {σ : St} {H : Hp} {s : Shared} {a : Addr} {y v : V} {u r : Value} {o : Option V} {A : Around} {E : Value → Shared → Prop}
end
section
variable {X : Cx} {pins : List (Addr × Obj)} {σ : St} {H : Hp} {s : Shared} {a : Addr} {kvs : List (Key × V)} {k : Key} {u : Value} {A : Around} {E : Value → Shared → Prop}
end
section
variable {X : Cx} {o i e value : Expr} {pos pos' tpos : Pos} {td ty tv : TE}
end
section
variable {X : Cx} {pos : Pos}
end
noncomputable abbrev VV : List (V × V) → List (Value × Value) → Prop := Paired fun p q => RelV p.1 q.1 ∧ RelV p.2 q.2
section
variable {X : Cx} {pins : List (Addr × Obj)} {σ : St} {H : Hp} {s : Shared} {a : Addr} {y d : V} {u r : Value} {o : Option V} {A : Around} {E : Value → Shared → Prop}
end
section
variable {X : Cx} {o e f : Expr} {apos cpos : Pos} {td ty tx : TE}
end
section
variable {X : Cx} {pins : List (Addr × Obj)} {σ : St} {H : Hp} {s : Shared} {a : Addr} {kvs : List (Key × V)} {A : Around} {E : Value → Shared → Prop}
end
section
variable {X : Cx} {pins : List (Addr × Obj)} {σ : St} {H : Hp} {s : Shared} {a : Addr} {y : V} {u : Value} {A : Around} {E : Value → Shared → Prop}
end
end L2
namespace L2
open PySem PySem.Spec PyProof.Rows
section
variable {X : Cx}
end
section
variable {κ : Type} [DecidableEq κ]
end
end L2
set_option Elab.async false
set_option linter.all false
set_option maxRecDepth 100000
set_option maxHeartbeats 16000000
namespace L2
open PySem PySem.Spec PyProof.Rows
section
variable {X : Cx}
end
end L2
set_option Elab.async false
set_option linter.all false
set_option maxRecDepth 100000
set_option maxHeartbeats 16000000
namespace L2
open PySem PySem.Spec PyProof.Rows PySem.W
section
variable {prog : Program} {w : World} {A : Around} {E : Value → Shared → Prop} {s : Shared} {T : String} {r d : Addr} {n : Nat} {P : Nat → Value → Prop} {OK : Heap → Prop}
end
section
variable {X : Cx}
end
end L2
set_option Elab.async false
set_option linter.all false
set_option maxRecDepth 100000
set_option maxHeartbeats 16000000
namespace L2
open PySem PySem.Spec PyProof.Rows
end L2
set_option Elab.async false
set_option linter.all false
set_option maxRecDepth 100000
set_option maxHeartbeats 16000000
namespace L2
open PySem PySem.Spec PyProof.Rows
section
variable {X : Cx}
end
end L2
set_option Elab.async false
set_option linter.all false
set_option maxRecDepth 100000
set_option maxHeartbeats 16000000
namespace L2
open PySem PySem.Spec PyProof.Rows
section
variable {X : Cx}
end
end L2
set_option Elab.async false
set_option linter.all false
set_option maxRecDepth 100000
set_option maxHeartbeats 16000000
namespace L2
open PySem PySem.Spec PyProof.Rows
section
variable {X : Cx}
end
end L2
set_option Elab.async false
set_option linter.all false
set_option maxRecDepth 100000
set_option maxHeartbeats 16000000
namespace L2
open PySem PySem.Spec PyProof.Rows
section
variable {prog : Program} {w : World} {A : Around} {E : Value → Shared → Prop} {s : Shared}
end
section
variable {X : Cx}
end
end L2
set_option Elab.async false
set_option linter.all false
set_option maxRecDepth 100000
set_option maxHeartbeats 16000000
namespace L2
open PySem PySem.Spec PyProof.Rows
section
variable {X : Cx}
end
end L2
set_option Elab.async false
set_option linter.all false
set_option maxRecDepth 100000
set_option maxHeartbeats 16000000
namespace RV
open PySem PySem.Spec PyProof.Rows
end RV
set_option Elab.async false
set_option linter.all false
set_option maxRecDepth 100000
set_option maxHeartbeats 16000000
namespace RV
open PySem PySem.Spec PyProof.Rows
section
variable {prog : Program} {w : World} {A : Around} {E : Value → Shared → Prop} {s : Shared}
end
end RV
set_option Elab.async false
set_option linter.all false
set_option maxRecDepth 100000
set_option maxHeartbeats 16000000
namespace RV
open PySem PySem.Spec PyProof.Rows
section
variable {prog : Program} {w : World} {A : Around} {E : Value → Shared → Prop} {s : Shared}
end
end RV
set_option Elab.async false
set_option linter.all false
set_option maxRecDepth 100000
set_option maxHeartbeats 16000000
namespace RV
open PySem PySem.Spec PyProof.Rows
section
variable {prog : Program} {w : World} {A : Around} {E : Value → Shared → Prop} {s : Shared}
end
end RV
set_option Elab.async false
set_option linter.all false
set_option maxRecDepth 100000
set_option maxHeartbeats 16000000
namespace L2
open PySem PySem.Spec PyProof.Rows PySem.W RV
section
variable {X : Cx} {e : Expr} {te : TE} {pos pos2 p p2 : Pos}
end
end L2
set_option Elab.async false
set_option linter.all false
set_option maxRecDepth 100000
set_option maxHeartbeats 16000000
namespace L2
open PySem PySem.Spec PyProof.Rows
section
variable {X : Cx}
theorem op_neL_nil (hu : X.A.units < cLine) : OpR X (compareOp .NotEq) (fun x y H Q => ∃ a b xs, x = .ref a ∧ y = .ref b ∧ SqL X.K H a xs ∧ SqL X.K H b [] ∧ Q (.bl (!xs.isEmpty)) H) := by
  intro pins s σ H x y v u Q I rx ry h
  obtain ⟨a, b, xs, rfl, rfl, ha, hb, q⟩ := h
  cases rx
  cases ry
  obtain ⟨its, r1, p1, _⟩ := I.list ha
  obtain ⟨its2, r2, p2, _⟩ := I.list hb
  cases r2
  cases xs with
  | nil =>
    cases r1
    exact SeqAt.RcNeAt.lists (e := fun _ => true) p1.isList p2.isList rfl hu (fun j h1 _ => absurd h1 (by simp)) _ _ _ _ ⟨.bl false, H, I, rfl, q⟩
  | cons c r =>
    have hl1 := r1.length
    exact SeqAt.RcNeAt.lists_lengths p1.isList p2.isList (by rw [bne_iff_ne]; intro z; simp only [List.size_toArray, List.length_nil, List.length_cons] at z hl1; omega) hu _ _ _ _ ⟨.bl true, H, I, rfl, q⟩
end
end L2
set_option Elab.async false
set_option linter.all false
set_option maxRecDepth 100000
set_option maxHeartbeats 16000000
namespace L2
open PySem PySem.Spec PyProof.Rows
section
variable {X : Cx} {elts : List Expr} {k : Nat} {tpos : Pos}
end
end L2
set_option Elab.async false
set_option linter.all false
set_option maxRecDepth 100000
set_option maxHeartbeats 16000000
namespace L2
open PySem PySem.Spec PyProof.Rows
section
variable {P : Program} {w : World} {A : Around} {E : Value → Shared → Prop} {s : Shared} {z TI TO i1 i2 l1 l2 : Addr} {xs ys : Array Value} {I1 I2 : Nat → Heap → Prop} {S1 S2 : Heap → Prop}
end
section
variable {X : Cx} {elts : List Expr} {k : Nat} {tpos : Pos}
end
end L2
set_option Elab.async false
set_option linter.all false
set_option maxRecDepth 100000
set_option maxHeartbeats 16000000
namespace L2
open PySem PySem.Spec PyProof.Rows PySem.W
section
variable {P : Program} {w : World} {A : Around} {E : Value → Shared → Prop} {s : Shared} {d : Addr} {es : Array DictEntry} {ep : Nat}
end
section
variable {X : Cx}
end
end L2
set_option Elab.async false
set_option linter.all false
set_option maxRecDepth 100000
set_option maxHeartbeats 16000000
namespace L2
open PySem PySem.Spec PyProof.Rows
section
variable {X : Cx}
end
end L2
set_option Elab.async false
set_option linter.all false
set_option maxRecDepth 100000
set_option maxHeartbeats 16000000
namespace RG
open PySem PySem.Spec PyProof.Rows
section
variable {prog : Program} {w : World} {A : Around} {E : Value → Shared → Prop} {s : Shared}
variable {I : Addr} {fp : List Addr} {n : Nat} {P : Nat → Value → Prop} {St : Nat → Heap → Prop} {T : String}
end
end RG
set_option Elab.async false
set_option linter.all false
set_option maxRecDepth 100000
set_option maxHeartbeats 16000000
namespace RG
open PySem PySem.Spec PyProof.Rows
section
variable {prog : Program} {w : World} {A : Around} {E : Value → Shared → Prop} {s : Shared}
end
end RG
namespace L2
open PySem PySem.Spec PyProof.Rows PySem.W RG
section
variable {X : Cx} {e : Expr} {te : TE} {pos pos2 pos3 p p2 p3 : Pos}
end
end L2
set_option Elab.async false
set_option linter.all false
set_option maxRecDepth 100000
set_option maxHeartbeats 16000000
namespace L2
open PySem PySem.Spec PyProof.Rows PySem.W RG
open AutoSeq1 (wpAny_loadPart')
section
variable {prog : Program} {w : World} {A : Around} {E : Value → Shared → Prop} {s : Shared}
end
section
variable {X : Cx} {e : Expr} {te : TE} {pos pos3 p p3 : Pos}
end
end L2
set_option Elab.async false
set_option linter.all false
set_option maxRecDepth 100000
set_option maxHeartbeats 16000000
namespace L2
open PySem PySem.Spec PyProof.Rows PySem.W
section
variable {X : Cx} {e : Expr} {te : TE} {pos pos3 p p3 : Pos}
end
end L2
set_option Elab.async false
set_option linter.all false
set_option maxRecDepth 100000
set_option maxHeartbeats 16000000
namespace L2
open PySem PySem.Spec PyProof.Rows PySem.W
section
variable {prog : Program} {w : World} {A : Around} {R : Result → Shared → Prop} {it best : Addr} {fp wr : List Addr} {n : Nat} {P : Nat → Value → Prop} {St : Nat → Heap → Prop}
end
section
variable {X : Cx}
end
end L2
set_option Elab.async false
set_option linter.all false
set_option maxRecDepth 100000
set_option maxHeartbeats 16000000
namespace L2
open PySem PySem.Spec PyProof.Rows
section
variable {X : Cx}
end
end L2
set_option Elab.async false
set_option linter.all false
set_option maxRecDepth 100000
set_option maxHeartbeats 16000000
namespace L2
open PySem PySem.Spec PyProof.Rows
end L2
set_option Elab.async false
set_option linter.all false
set_option maxRecDepth 100000
set_option maxHeartbeats 16000000
namespace L2
open PySem PySem.Spec PyProof.Rows PySem.W
section
variable {X : Cx} {pins : List (Addr × Obj)} {σ : List (Option V)} {H : Hp} {s : Shared}
end
section
variable {X : Cx} {tg : Expr}
end
end L2
set_option Elab.async false
set_option linter.all false
set_option maxRecDepth 100000
set_option maxHeartbeats 16000000
namespace L2
open PySem PySem.Spec PyProof.Rows
section
variable {X : Cx}
end
end L2
set_option Elab.async false
set_option linter.all false
set_option maxRecDepth 100000
set_option maxHeartbeats 16000000
namespace L2
open PySem PySem.Spec PyProof.Rows
section
variable {X : Cx}
end
end L2
set_option Elab.async false
set_option linter.all false
set_option maxRecDepth 100000
set_option maxHeartbeats 16000000
namespace L2
open PySem PySem.Spec PyProof.Rows
section
variable {P : Program} {w : World} {K : PySem.W.Frag} {mg : Str → Option Value} {base : Heap}
end
section
variable {X : Cx} {j k : Nat} {C : Addr} {x m : Str} {ps : List Str} {sp : Sp} {o e : Expr} {es : List Expr} {ta : TE} {t : TA} {p pos apos : Pos}
end
end L2
set_option Elab.async false
set_option linter.all false
set_option maxRecDepth 100000
set_option maxHeartbeats 16000000
namespace L2
open PySem PySem.Spec PyProof.Rows PySem.W RV
end L2
set_option Elab.async false
set_option linter.all false
set_option maxRecDepth 100000
set_option maxHeartbeats 16000000
namespace L2
open PySem PySem.Spec PyProof.Rows
section
variable {A : GA} {tk : Int} {ft : V} {rd md : Addr}
end
noncomputable abbrev Ft := Str × Str × Nat × Int
section
variable {CP CG : Addr} {H : Hp} {g : Addr} {A : GA} {N : Nt} {ns : List Int} {S : GS}
end
end L2
set_option Elab.async false
set_option linter.all false
set_option maxRecDepth 100000
set_option maxHeartbeats 16000000
namespace L2
open PySem PySem.Spec PyProof.Rows
end L2
set_option Elab.async false
set_option linter.all false
set_option maxRecDepth 100000
set_option maxHeartbeats 16000000
namespace L2
open PySem PySem.Spec PyProof.Rows
section
variable {X : Cx}
end
end L2
set_option Elab.async false
set_option linter.all false
set_option maxRecDepth 100000
set_option maxHeartbeats 16000000
namespace L2
open PySem PySem.Spec PyProof.Rows XC
section
variable {M : Model} {A : Around} {E : Value → Shared → Prop} {h : Heap} {g : Array GenState} {d : Drawn} {t : Nat} {os : OsState}
variable {nm q : Str} {C N : Addr} {bs bm : List Value} {hdct : Bool} {sn : List Str} {sub : List Value} {ab : Bool} {col : Option Bool} {dd : Option Addr} {k0 k1 k2 k3 k5 : Option Value}
end
section
variable {prog : Program} {w : World} {A : Around} {R : Result → Shared → Prop} {h : Heap} {g : Array GenState} {d : Drawn} {t : Nat} {os : OsState}
variable {nm q : Str} {C N : Addr} {bs bm : List Value} {hdct : Bool} {sn : List Str} {sub : List Value} {ab : Bool} {col : Option Bool} {dd : Option Addr} {k0 k1 k2 k3 k5 : Option Value}
end
section
variable {prog : Program} {w : World} {A : Around} {E : Value → Shared → Prop} {h : Heap} {g : Array GenState} {d : Drawn} {t : Nat} {os : OsState}
variable {nm q : Str} {C N fI e : Addr} {bs bm : List Value} {hdct : Bool} {sn : List Str} {sub : List Value} {ab : Bool} {col : Option Bool} {dd : Option Addr} {k0 k1 k2 k3 k5 : Option Value} {oI oe : Obj} {rest : List Value} {vs : Array Value} {v v2 : Value}
end
section
variable {prog : Program} {w : World} {A : Around} {E : Value → Shared → Prop} {s : Shared} {K : PySem.W.Frag} {x C : Addr} {o : Obj} {vs : Array Value} {f : Str} {v : Value}
end
end L2
set_option Elab.async false
set_option linter.all false
set_option maxRecDepth 100000
set_option maxHeartbeats 16000000
namespace L2
open PySem PySem.Spec PyProof.Rows XC
section
variable {X : Cx} {b : Str} {B : Addr} {bp apos pos spos : Pos} {e1 e2 e3 : Expr} {ta : TA}
end
section
variable {X : Cx} {o value : Expr} {f : Str} {ta tv : TE} {pos pos' : Pos}
end
section
variable {P : Program} {w : World} {K : PySem.W.Frag} {mg : Str → Option Value} {base : Heap} {N : List Str} {qual : Str} {scope : Scope} {f : Addr} {cd : Value} {A : Around} {outer : List Env} {s : Shared} {H : Hp} {E : XK}
end
end L2
set_option Elab.async false
set_option linter.all false
set_option maxRecDepth 100000
set_option maxHeartbeats 16000000
namespace XC
open PySem
noncomputable def TrD (h : Heap) (e : Addr) (cls : Value) (dd : Option Addr) (T : Addr) (fl : Value) : Prop :=
  ∃ oe vs oT ts, h.get? e = some oe ∧ oe.cls = cls ∧ oe.dict = dd ∧ oe.data = .fields vs ∧ vs[1]? = some (.ref T) ∧ T ≠ e ∧ h.get? T = some oT ∧ oT.data = .fields ts ∧ ts[3]? = some fl
section
variable {M : Model} {A : Around} {E : Value → Shared → Prop} {s : Shared}
theorem entry_okD {base : Heap} {env : Env} {outer : List Env} {L e : Addr} {oe : Obj} {vs : Array Value} {head : Value} {had : Bool} {Q : Unit → Shared → Prop}
    (hfr : A.frames = some (env :: outer)) (hl : s.heap.FunFrames base (env :: outer)) (hf : env.frame = some L) (he : s.heap.get? e = some oe) (hd : oe.data = .fields vs) (hz : 1 < vs.size)
    (h : ∀ h' T, Gone (env :: outer) e [] s.heap h' → s.heap.get? T = none → TrD h' e oe.cls oe.dict T (rawInt L) → Q () { s with heap := h' }) :
    wpAny M A (do let a ← frameOf env; let p ← entryPlaceOf L had; let b ← EntryCells.newEntry head a .none (rawInt L) .none p; setField (.ref e) 1 b) Q E s := by
  have ne : e ∉ frsOf (env :: outer) := fun z => by
    obtain ⟨_, o, q, n⟩ := frames_free hl e z
    rw [he] at q
    cases q
    exact n vs hd
  refine wpAny_bind (wpAny_frameOf_fun hfr hl hf fun g S => wpAny_bind (wpAny_entryPlaceOf fun p hp => ?_))
  unfold EntryCells.newEntry newFields
  refine wpAny_bind (wpAny_newObj_type ?_ (hp.sizeOk5 _ _ _ _ _))
  generalize ht : ([head, Value.ref L, Value.none, rawInt L, Value.none] ++ (if p.isEmpty then List.replicate 6 Value.none else p)).toArray = tv
  have h3 : tv[3]? = some (rawInt L) := by rw [← ht]; simp
  have g1 : g.get? e = some oe := (S.2.1 e ne).trans he
  have te : g.objs.size ≠ e := Nat.ne_of_gt (Heap.lt_size g1)
  have d2 := Obj.data_mapFields hd (·.setIfInBounds 1 (Value.ref g.objs.size))
  have g2 := Heap.get?_push_of_some { cls := .type "traceback", dict := none, data := .fields tv } g1
  refine wpAny_setField g2 hd hz (h _ g.objs.size ⟨fun b o q z _ w => ?_, fun b o q w => ?_⟩ (Heap.get?_none_of_le (by rw [S.1]; exact Nat.le_refl _)) ?_)
  · rw [Heap.get?_update_other _ _ (Ne.symm z)]
    exact Heap.get?_push_of_some _ ((S.2.1 b w).trans q)
  · obtain ⟨sl, q2⟩ := S.2.2 b o q
    have z : b ≠ e := fun z => ne (z ▸ w)
    exact ⟨sl, by rw [Heap.get?_update_other _ _ (Ne.symm z)]; exact Heap.get?_push_of_some _ q2⟩
  · refine ⟨_, _, { cls := .type "traceback", dict := none, data := .fields tv }, tv, Heap.get?_update_self _ g2 (Obj.isFreed_of_fields d2), Obj.cls_mapFields _ _, dict_map hd, d2, ?_, te, ?_, rfl, h3⟩
    · rw [Array.getElem?_setIfInBounds_self, if_pos hz]
    · rw [Heap.get?_update_other _ _ (Ne.symm te)]
      exact Heap.get?_push_size _ rfl
theorem note_firstD {base : Heap} {env : Env} {outer : List Env} {L e : Addr} {oe : Obj} {vs : Array Value} {Q : Unit → Shared → Prop}
    (hfr : A.frames = some (env :: outer)) (hl : s.heap.FunFrames base (env :: outer)) (hf : env.frame = some L) (he : s.heap.get? e = some oe) (hd : oe.data = .fields vs) (h1 : vs[1]? = some .none)
    (h : ∀ h' T, Gone (env :: outer) e [] s.heap h' → s.heap.get? T = none → TrD h' e oe.cls oe.dict T (rawInt L) → Q () { s with heap := h' }) : wpAny M A (noteFrame (.ref e) env) Q E s := by
  unfold noteFrame
  simp only [hf]
  refine wpAny_bind (wpAny_field he hd h1 ?_)
  rw [if_neg (by decide)]
  exact entry_okD hfr hl hf he hd (Array.getElem?_eq_some_iff.mp h1).1 h
theorem flight_atD {h : Heap} {e T : Addr} {cls fl x : Value} {dd : Option Addr} (ht : TrD h e cls dd T fl) :
    (∀ b o, b ≠ T → h.get? b = some o → (h.update T (Obj.mapFields (·.setIfInBounds 3 x))).get? b = some o) ∧ TrD (h.update T (Obj.mapFields (·.setIfInBounds 3 x))) e cls dd T x := by
  obtain ⟨oe, vs, oT, ts, h1, h2, h2', h3, h4, h5, h6, h7, h8⟩ := ht
  have hz : 3 < ts.size := (Array.getElem?_eq_some_iff.mp h8).1
  have d2 := Obj.data_mapFields h7 (·.setIfInBounds 3 x)
  refine ⟨fun b o z q => by rw [Heap.get?_update_other _ _ (Ne.symm z)]; exact q, oe, vs, _, _, ?_, h2, h2', h3, h4, h5, Heap.get?_update_self _ h6 (Obj.isFreed_of_fields d2), d2, ?_⟩
  · rw [Heap.get?_update_other _ _ h5]
    exact h1
  · rw [Array.getElem?_setIfInBounds_self, if_pos hz]
theorem note_nextD {base : Heap} {env : Env} {outer : List Env} {L e T : Addr} {cls : Value} {dd : Option Addr} {Q : Unit → Shared → Prop}
    (hfr : A.frames = some (env :: outer)) (hl : s.heap.FunFrames base (env :: outer)) (hf : env.frame = some L) (ht : TrD s.heap e cls dd T .none)
    (h : ∀ h' T', Gone (env :: outer) e [T] s.heap h' → s.heap.get? T' = none → TrD h' e cls dd T' (rawInt L) → Q () { s with heap := h' }) : wpAny M A (noteFrame (.ref e) env) Q E s := by
  obtain ⟨k1, oe, vs, oT, ts, a1, a2, a2', a3, a4, a5, a6, a7, a8⟩ := flight_atD (x := .none) ht
  obtain ⟨oe0, vs0, oT0, ts0, h1, h2, h2', h3, h4, h5, h6, h7, h8⟩ := ht
  unfold noteFrame
  simp only [hf]
  refine wpAny_bind (wpAny_field h1 h3 h4 ?_)
  rw [if_pos (show (Value.ref T != Value.none) = true from by simp)]
  refine wpAny_bind (wpAny_field h6 h7 h8 ?_)
  rw [if_neg (show ¬ ((Value.none == rawInt L) = true) from by simp [rawInt])]
  have nT : T ∉ frsOf (env :: outer) := fun z => by
    obtain ⟨_, o, q, n⟩ := frames_free hl T z
    rw [h6] at q
    cases q
    exact n ts0 h7
  have nt : ∀ b o, s.heap.get? b = some o → (∀ vs, o.data ≠ .fields vs) → b ≠ T := fun b o q n z => by
    rw [z, h6] at q
    cases q
    exact n ts0 h7
  refine wpAny_bind (wpAny_setField h6 h7 (Array.getElem?_eq_some_iff.mp h8).1 ?_)
  refine entry_okD hfr (hl.of_keeps fun b o q n => ⟨o, k1 b o (nt b o q n) q, rfl⟩) hf a1 a3 (Array.getElem?_eq_some_iff.mp a4).1 fun h' T' G n t => ?_
  refine h h' T' ⟨fun b o q z w u => G.keep b o (k1 b o (fun z => w (by rw [z]; exact List.mem_singleton_self _)) q) z (by simp) u, fun b o q w => G.slot b o (k1 b o (fun z => nT (z ▸ w)) q) w⟩ ?_ (by rw [← a2, ← a2']; exact t)
  cases q : s.heap.get? T' with
  | none => rfl
  | some o =>
    by_cases z : T' = T
    · rw [z, a6] at n
      cases n
    · rw [show (s.heap.update T (Obj.mapFields (·.setIfInBounds 3 Value.none))).get? T' = some o from k1 T' o z q] at n
      cases n
theorem note_sameD {env : Env} {L e T : Addr} {cls : Value} {dd : Option Addr} {Q : Unit → Shared → Prop} (hf : env.frame = some L) (ht : TrD s.heap e cls dd T (rawInt L)) (h : Q () s) :
    wpAny M A (noteFrame (.ref e) env) Q E s := by
  obtain ⟨oe, vs, oT, ts, h1, h2, h2', h3, h4, h5, h6, h7, h8⟩ := ht
  unfold noteFrame
  simp only [hf]
  refine wpAny_bind (wpAny_field h1 h3 h4 ?_)
  rw [if_pos (show (Value.ref T != Value.none) = true from by simp)]
  refine wpAny_bind (wpAny_field h6 h7 h8 ?_)
  rw [if_pos (show (rawInt L == rawInt L) = true from by simp)]
  exact wpAny_pure h
theorem fly_offD {e T : Addr} {cls fl : Value} {dd : Option Addr} {Q : Unit → Shared → Prop} (ht : TrD s.heap e cls dd T fl)
    (h : ∀ h', (∀ b o, b ≠ T → s.heap.get? b = some o → h'.get? b = some o) → TrD h' e cls dd T .none → Q () { s with heap := h' }) : wpAny M A (setFlight (.ref e) none) Q E s := by
  obtain ⟨k, t⟩ := flight_atD (x := .none) ht
  obtain ⟨oe, vs, oT, ts, h1, h2, h2', h3, h4, h5, h6, h7, h8⟩ := ht
  unfold setFlight
  refine wpAny_bind (wpAny_field h1 h3 h4 ?_)
  rw [if_pos (show (Value.ref T != Value.none) = true from by simp)]
  exact wpAny_setField h6 h7 (Array.getElem?_eq_some_iff.mp h8).1 (h _ k t)
theorem TrD.notIn {h base : Heap} {l : List Env} {e T : Addr} {cls fl : Value} {dd : Option Addr} (ht : TrD h e cls dd T fl) (g : h.FunFrames base l) : T ∉ frsOf l := fun z => by
  obtain ⟨oe, vs, oT, ts, h1, h2, h2', h3, h4, h5, h6, h7, h8⟩ := ht
  obtain ⟨_, o, q, n⟩ := frames_free g T z
  rw [h6] at q
  cases q
  exact n ts h7
theorem leave_firstD {base : Heap} {env : Env} {outer : List Env} {L e : Addr} {oe : Obj} {vs : Array Value} {Q : Unit → Shared → Prop}
    (hfr : A.frames = some (env :: outer)) (hl : s.heap.FunFrames base (env :: outer)) (hf : env.frame = some L) (he : s.heap.get? e = some oe) (hd : oe.data = .fields vs) (h1 : vs[1]? = some .none)
    (h : ∀ h' T, Gone (env :: outer) e [] s.heap h' → s.heap.get? T = none → TrD h' e oe.cls oe.dict T .none → Q () { s with heap := h' }) : wpAny M A (leaving env (.ref e)) Q E s := by
  unfold leaving
  exact wpAny_bind (note_firstD hfr hl hf he hd h1 fun h' T G n t => fly_offD t fun h2 k t2 => h h2 T (G.off k (.inl n) (new_notIn n hl)) n t2)
theorem leave_nextD {base : Heap} {env : Env} {outer : List Env} {L e T : Addr} {cls : Value} {dd : Option Addr} {Q : Unit → Shared → Prop}
    (hfr : A.frames = some (env :: outer)) (hl : s.heap.FunFrames base (env :: outer)) (hf : env.frame = some L) (ht : TrD s.heap e cls dd T .none)
    (h : ∀ h' T', Gone (env :: outer) e [T] s.heap h' → s.heap.get? T' = none → TrD h' e cls dd T' .none → Q () { s with heap := h' }) : wpAny M A (leaving env (.ref e)) Q E s := by
  unfold leaving
  exact wpAny_bind (note_nextD hfr hl hf ht fun h' T' G n t => fly_offD t fun h2 k t2 => h h2 T' (G.off k (.inl n) (new_notIn n hl)) n t2)
end
end XC
namespace L2
open PySem PySem.Spec PyProof.Rows XC
noncomputable def CXd (P : Program) (w : World) : CXT := fun outer H s E v s' => ∃ (a T : Addr) (cls : Value) (dd : Option Addr) (H' : Hp), v = .ref a ∧ s'.os = s.os ∧ AllBare s'.gens ∧ Un (frs outer) [] H H' s.heap s'.heap ∧ HOk P w H' s'.heap ∧ s.heap.get? a = none ∧ H' a = none ∧ TrD s'.heap a cls dd T .none ∧ s.heap.get? T = none ∧ H' T = none ∧ E cls dd H'
section
variable {P : Program} {w : World} {K : PySem.W.Frag} {mg : Str → Option Value} {base : Heap} {N : List Str} {qual : Str} {scope : Scope} {f : Addr} {cd : Value} {A : Around} {outer : List Env} {s : Shared} {H : Hp} {E : XK} {pins : List (Addr × Obj)} {σ : St} {H' : Hp} {s' : Shared}
theorem fly_firstD (I : Inv (cxOf (CXd P w) P w K mg base N qual scope f cd A outer s H E) pins σ H' s') {a : Addr} {oe : Obj} {vs : Array Value} (he : s'.heap.get? a = some oe) (hd : oe.data = .fields vs) (h1 : vs[1]? = some .none) (new : s.heap.get? a = none) (fr : H' a = none) (hE : E oe.cls oe.dict H') :
    (cxOf (CXd P w) P w K mg base N qual scope f cd A outer s H E).xe (.ref a) s' := by
  refine leave_firstD (base := base) (L := s.heap.objs.size) I.ok.frames I.stack rfl he hd h1 fun h' T G hT ht => ?_
  exact ⟨a, T, oe.cls, oe.dict, H', rfl, I.os, I.bare, Un.gone I.base G new (fun b z => by cases z) loc_new I.ok.frf, HOk.gone I.hok G fr (fun b z => by cases z) I.stkFree, new, fr, ht, I.up rfl hT, HOk.un_at I.hok hT, hE⟩
theorem fly_nextD (I : Inv (cxOf (CXd P w) P w K mg base N qual scope f cd A outer s H E) pins σ H' s') {a T : Addr} {cls : Value} {dd : Option Addr} (ht : TrD s'.heap a cls dd T .none) (new : s.heap.get? a = none) (newT : s.heap.get? T = none) (fr : H' a = none) (frT : H' T = none) (hE : E cls dd H') :
    (cxOf (CXd P w) P w K mg base N qual scope f cd A outer s H E).xe (.ref a) s' := by
  refine leave_nextD (base := base) (L := s.heap.objs.size) I.ok.frames I.stack rfl ht fun h' T' G hT' ht' => ?_
  exact ⟨a, T', cls, dd, H', rfl, I.os, I.bare, Un.gone I.base G new (fun b z => by rw [List.mem_singleton.mp z]; exact newT) loc_new I.ok.frf, HOk.gone I.hok G fr (fun b z => by rw [List.mem_singleton.mp z]; exact frT) I.stkFree, new, fr, ht', I.up rfl hT', HOk.un_at I.hok hT', hE⟩
theorem passED : Passes (CXd P w) (cxOf (CXd P w) P w K mg base N qual scope f cd A outer s H E) E := fun pins σ H1 s1 v s2 I h => by
  obtain ⟨a, T, cls, dd, H2, rfl, os, bare, un, hok, new, fr, ht, newT, frT, hE⟩ := h
  have I2 := Inv.call' (ch := []) I os un hok bare (fun b z => by cases z)
  exact fly_nextD I2 ht (I.up rfl new) (I.up rfl newT) fr frT hE
theorem passOwnD : PassesOwn (model P w) (cxOf (CXd P w) P w K mg base N qual scope f cd A outer s H E).A (cxOf (CXd P w) P w K mg base N qual scope f cd A outer s H E).env (cxOf (CXd P w) P w K mg base N qual scope f cd A outer s H E).xe := PassesOwn.leaving
end
structure ClD (P : Program) (w : World) (K : PySem.W.Frag) (mg : Str → Option Value) (base : Heap) (k : Nat) (x : Str) (ps : List Str) (sp : Sp) : Prop where
  ex : ∃ f fd, FnOk P w K mg base (CXd P w) k f fd ps sp ∧ mg x = some (.ref f) ∧ PySem.W.keepIn K (.ref f) = true ∧ Binds K fd ps []
theorem pe_fnED {X : Cx} {j k : Nat} {x : Str} {ps : List Str} {sp : Sp} {E : XK} {e : Expr} {es : List Expr} {t : TA} {p pos : Pos} (C : ClD X.prog X.w X.K X.mg X.base j x ps sp) (hx : Passes (CXd X.prog X.w) X E) (hr : Room k X.A) (hg : Gl X x) (ha : PA X (e :: es) t) (hjk : j ≤ k := by decide)
    (hdb : (x == ("__debug__" : Str)) = false := by decide) (he : starEach (e :: es) X.env = (false, eval e X.env) :: starEach es X.env := by rfl) (hpl : (backTo pos (starEach es X.env)).any (·.1) = false := by rfl) :
    PE X (.Call (.Name x p) (e :: es) [] pos) (tCall sp [] E t) := by
  obtain ⟨f, fd, F, hm, hk, hb⟩ := C.ex
  exact pe_call F (hr.mono hjk) hg hm hk hb .nil hx ha hdb he hpl
theorem ClD.of {P : Program} {w : World} {K : PySem.W.Frag} {mg : Str → Option Value} {base : Heap} {x : Str} {st : Stmt} {N ps : List Str} {k : Nat} {sp : Sp} (T : HasDef K mg x st) (S : FnScope N ps (defScope st)) (len : ∀ vs H Q E, sp vs H Q E → vs.length = ps.length)
    (hb : ∀ (kV doc pm : Value) (an : Option Addr) (cdv ct : Value) (us : List Value), us.length = ps.length → bindArgs (PySem.W.fnOf x x (defArgs st) (defBody st) (defScope st) .none kV doc pm an cdv ct) ⟨us, []⟩ = pure (ps.zip us))
    (hbody : ∀ (f : Addr) (cdv : Value) (A : Around) (outer : List Env) (s : Shared) (H : Hp) (vs : List V) (Q : VK) (E : XK), Room k (A.deeper (envOfC x (defScope st) s.heap.objs.size f cdv)) → sp vs H Q E →
      ∃ t, PSs (cxOf (CXd P w) P w K mg base N x (defScope st) f cdv A outer s H E) (defBody st) t ∧ t { nx := fun _ H' => Q .non H', rt := Q } (start N vs) H) : ClD P w K mg base (k + 1) x ps sp := by
  obtain ⟨f, fd, F, m⟩ := T
  obtain ⟨oc, od, kV, doc, pm, an, cdv, ct, osl, rfl, lk, hcd⟩ := F.ex
  exact ⟨f, _, fn_of lk hcd S len fun A outer s H vs Q E hr hsp => hbody f cdv A outer s H vs Q E hr hsp, m, F.kp, F.binds hb⟩
end L2
namespace L2
open PySem PySem.Spec PyProof.Rows XC
noncomputable def ExOD (a C : Addr) (dd : Option Addr) : HO := .ext fun h => ∃ o vs, h.get? a = some o ∧ o.cls = .ref C ∧ o.dict = dd ∧ o.data = .fields vs
noncomputable def UpD (X : Cx) (pins : List (Addr × Obj)) (σ : St) (E : XK) (e : Value) (s : Shared) : Prop :=
  ∃ (a T : Addr) (cls : Value) (dd : Option Addr) (H : Hp), e = .ref a ∧ Inv X pins σ H s ∧ Fr1 X pins a ∧ Fr1 X pins T ∧ H a = none ∧ H T = none ∧ TrD s.heap a cls dd T .none ∧ E cls dd H
noncomputable def TBodyD (X : Cx) (body : List Stmt) (t : XK → TS) : Prop :=
  ∀ (pins : List (Addr × Obj)) (s : Shared) (σ : St) (H : Hp) (D : Ends) (E : XK) (xe1 : Value → Shared → Prop), Inv X pins σ H s → (∀ e s2, UpD X pins σ E e s2 → xe1 e s2) → t E D σ H → wpAny (model X.prog X.w) X.A (execs body X.env) (SP X pins D) xe1 s
section
variable {X : Cx} {j k : Nat} {f : Str} {ps : List Str} {sp : Sp} {e : Expr} {es : List Expr} {ta : TA} {p pos cpos : Pos}
theorem call_upD (C : ClD X.prog X.w X.K X.mg X.base j f ps sp) (hx : X.ex = []) (hr : Room k X.A) (hg : Gl X f) (ha : PA X.nox (e :: es) ta) (hjk : j ≤ k)
    (hdb : (f == ("__debug__" : Str)) = false) (he : starEach (e :: es) X.env = (false, eval e X.env) :: starEach es X.env) (hpl : (backTo cpos (starEach es X.env)).any (·.1) = false)
    {pins : List (Addr × Obj)} {s : Shared} {σ : St} {H : Hp} {Q : VK} {E : XK} {xe1 : Value → Shared → Prop} (I : Inv X pins σ H s) (hu : ∀ e s2, UpD X pins σ E e s2 → xe1 e s2) (h : ta σ H fun vs H1 => sp (vs ++ []) H1 Q E) :
    wpAny (model X.prog X.w) X.A (eval (.Call (.Name f p) (e :: es) [] cpos) X.env) (EP X pins σ Q) xe1 s := by
  obtain ⟨fa, fd, F, hm, hk, hb⟩ := C.ex
  refine wpAny_Call_Name_kw (ld_glob I hg hm ?_ hdb)
  refine PySem.W.callWith_K (h₀ := X.base) I.ok.mod.kin hk (thn (PA.nox ha xe1 cpos pins s σ H _ (I.wish _) h) fun us s1 ⟨vs, H1, I1, r, q⟩ => ⟨I1.kIn, ?_⟩) he hpl
  have I1 := I1.unwish
  have r2 : Vals (vs ++ []) (us ++ []) := r.append .nil
  have hl : (us ++ []).length = ps.length := by rw [← r2.length]; exact F.len _ _ _ _ q
  refine wpAny_call (codeAny_mono (F.run X.A X.stack s1 H1 ⟨us, []⟩ (us ++ []) (vs ++ []) Q E (hr.mono hjk) I1.env0 (hb s1 us I1.kIn hl) r2 q) fun r s' hq => ?_)
  cases r with
  | error v =>
    obtain ⟨a, T, cls, dd, H2, rfl, os, bare, un, hok, new, fr, ht, newT, frT, hE⟩ := hq
    exact hu _ _ ⟨a, T, cls, dd, H2, rfl, Inv.call' (ch := []) I1 os un hok bare (fun b z => by cases z), I1.fr1 hx new, I1.fr1 hx newT, fr, frT, ht, hE⟩
  | ok fl =>
    cases fl with
    | ret u => exact I1.after hq
    | next => exact False.elim hq
    | brk => exact False.elim hq
    | cont => exact False.elim hq
theorem tb_exprD (C : ClD X.prog X.w X.K X.mg X.base j f ps sp) (hr : Room k X.A) (hg : Gl X f) (ha : PA X.nox (e :: es) ta) (hjk : j ≤ k := by decide) (hx : X.ex = [] := by rfl)
    (hdb : (f == ("__debug__" : Str)) = false := by decide) (he : starEach (e :: es) X.env = (false, eval e X.env) :: starEach es X.env := by rfl) (hpl : (backTo cpos (starEach es X.env)).any (·.1) = false := by rfl)
    (hs : swapsWith (.Call (.Name f p) (e :: es) [] cpos) none pos.line X.env = pure false := by rfl) :
    TBodyD X [.Expr (.Call (.Name f p) (e :: es) [] cpos) pos] (tbCall sp ta fun _ => tNext) := by
  intro pins s σ H D E xe1 I hu h
  refine wpAny_execs_cons (thn (Q := fun f s1 => SP X pins D f s1) (wpAny_Expr_any (thn (call_upD C hx hr hg ha hjk hdb he hpl I hu h) fun v s1 ⟨x, H1, I1, r1, q1⟩ => ⟨σ, H1, I1, q1⟩) I.quiet hs) fun f s1 q => ?_)
  cases f with
  | next => exact wpAny_execs_nil q
  | ret v => exact q
  | brk => exact q
  | cont => exact q
theorem tb_setD {i : Nat} {x : Str} {xp : Pos} (hN : X.N.Nodup) (hi : X.N[i]? = some x) (hl : Loc X.env.scope x) (C : ClD X.prog X.w X.K X.mg X.base j f ps sp) (hr : Room k X.A) (hg : Gl X f) (ha : PA X.nox (e :: es) ta) (hjk : j ≤ k := by decide) (hx : X.ex = [] := by rfl)
    (hdb : (f == ("__debug__" : Str)) = false := by decide) (he : starEach (e :: es) X.env = (false, eval e X.env) :: starEach es X.env := by rfl) (hpl : (backTo cpos (starEach es X.env)).any (·.1) = false := by rfl)
    (hs : swapsWith (.Call (.Name f p) (e :: es) [] cpos) (some (.Name x xp)) pos.line X.env = pure false := by rfl) (hf : X.fn x = true ∨ X.env.scope.names.lookup x = some .local := by first | exact .inl rfl | exact .inr rfl | assumption) :
    TBodyD X [.Assign [.Name x xp] (.Call (.Name f p) (e :: es) [] cpos) pos] (tbCall sp ta fun v => fun D σ H => D.nx (σ.set i (some v)) H) := by
  intro pins s σ H D E xe1 I hu h
  refine wpAny_execs_cons (thn (Q := fun f s1 => SP X pins D f s1) (wpAny_Assign_Name (thn (call_upD C hx hr hg ha hjk hdb he hpl I hu h) fun v s1 ⟨y, H1, I1, r1, q1⟩ => ?_) hs) fun f s1 q => ?_)
  · exact store_ok I1 hN hi hl r1 (fun s2 I2 => ⟨_, H1, I2, q1⟩) hf
  · cases f with
    | next => exact wpAny_execs_nil q
    | ret v => exact q
    | brk => exact q
    | cont => exact q
end
noncomputable def tTryAsD (K : PySem.W.Frag) (B : Addr) (i : Nat) (tb : XK → TS) (th : TS) : TS := fun D σ H =>
  tb (fun cls dd H2 => ∃ C, cls = .ref C ∧ PySem.W.mroIn K C (.ref B) = some true ∧ ∀ a, H2 a = none → th (goneD i D) (σ.set i (some (.ref a))) (upd H2 a (ExOD a C dd))) D σ H
section
variable {X : Cx} {body : List Stmt} {tb : XK → TS} {x n : Str} {B : Addr} {i : Nat} {b0 : Stmt} {suite : List Stmt} {th : TS} {np hp pos : Pos}
theorem exo_okD {P : Program} {w : World} {H : Hp} {h : Heap} {a T C : Addr} {dd : Option Addr} {fl : Value} (t : TrD h a (.ref C) dd T fl) : ObjOk P w (upd H a (ExOD a C dd)) h a (ExOD a C dd) := by
  obtain ⟨oe, vs, oT, ts, h1, h2, h2', h3, _⟩ := t
  exact ⟨⟨oe, vs, h1, h2, h2', h3⟩, ⟨oe, h1⟩, fun g1 g2 ⟨o, vs, q, r⟩ k => ⟨o, vs, k o q, r⟩⟩
theorem ps_tryAsD (hN : X.N.Nodup) (hi : X.N[i]? = some n) (hk : X.env.kindOf n = some .local) (hg : Gl X x) (hm : X.mg x = some (.ref B)) (b : XK1 X.K B) (hb : TBodyD X body tb) (hh : ∀ a, PSs (X.hand a) (b0 :: suite) th)
    (hx : X.ex = [] := by rfl) (hs : X.stack = X.env :: X.outer := by rfl) (hf : X.env.frame = some X.env.locals := by rfl) (hd : (x == ("__debug__" : Str)) = false := by decide) (hfn : X.fn n = true ∨ X.env.scope.names.lookup n = some .local := by first | exact .inl rfl | exact .inr rfl) :
    PS X (.Try body [.ExceptHandler (some (.Name x np)) (some n) (b0 :: suite) hp] [] [] pos) (tTryAsD X.K B i tb th) := by
  intro pins s σ H D I h
  refine wpAny_Try_except (thn (hb pins s σ H D _ _ I (fun e s1 u => ?_) h) fun f s1 q => ?_)
  · obtain ⟨a, T, cls, dd, H2, rfl, I1, fa, fT, na, nT, ht, C, rfl, sub, hth⟩ := u
    have st : s1.heap.FunFrames X.base (X.env :: X.outer) := hs ▸ I1.stack
    refine note_nextD (by rw [I1.ok.frames, hs]) st hf ht fun h3 T3 G3 n3 t3 => fly_offD t3 fun h4 k4 t4 => ?_
    have G4 := G3.off k4 (.inl n3) (new_notIn n3 st)
    have ok4 : HOk X.prog X.w H2 h4 := HOk.gone I1.hok G4 na (fun b z => by rw [List.mem_singleton.mp z]; exact nT) (hs ▸ I1.stkFree)
    have I4 : Inv X pins σ H2 { s1 with heap := h4 } := I1.flown (t' := s1.toks) hx hs hf (hs ▸ G4) fa (fun b z => by rw [List.mem_singleton.mp z]; exact fT) na (.inl rfl) ok4
    obtain ⟨oe, vs, oT, tt, e1, e2, _⟩ := id t4
    refine wpAny_handleBy_cons (codeAny_handlers_test (ld_glob (I4.hand a) hg hm (exc_match I4.kIn b sub e1 e2 (codeAny_handlers_suite_as (fly_offD t4 fun h5 k5 t5 => ?_))) hd)) (by intro q; cases q)
    have G5 := G4.off k5 (.inl n3) (new_notIn n3 st)
    have ok5 : HOk X.prog X.w H2 h5 := HOk.gone I1.hok G5 na (fun b z => by rw [List.mem_singleton.mp z]; exact nT) (hs ▸ I1.stkFree)
    have I5 : Inv X pins σ (upd H2 a (ExOD a C dd)) { s1 with heap := h5 } := I1.flown (t' := s1.toks) hx hs hf (hs ▸ G5) fa (fun b z => by rw [List.mem_singleton.mp z]; exact fT) na (.inr ⟨_, rfl⟩) (ok5.take na (exo_okD t5))
    refine store_ok I5 hN hi (.inl hk) (show RelV (.ref a) (.ref a) from rfl) (fun s6 I6 => ?_) hfn
    refine wpAny_mono (hh a pins s6 _ _ _ (I6.hand a) (hth a na)) (fun f s7 q => ?_) fun _ _ z => z.elim
    cases f with
    | next =>
      obtain ⟨σ', H', I', q⟩ := q
      exact forget_ok (I'.unhand I.ok) hN hi hk fun s8 I8 => ⟨_, H', I8, q⟩
    | brk =>
      obtain ⟨σ', H', I', q⟩ := q
      exact forget_ok (I'.unhand I.ok) hN hi hk fun s8 I8 => ⟨_, H', I8, q⟩
    | cont =>
      obtain ⟨σ', H', I', q⟩ := q
      exact forget_ok (I'.unhand I.ok) hN hi hk fun s8 I8 => ⟨_, H', I8, q⟩
    | ret u =>
      obtain ⟨v, σ', H', I', r, q⟩ := q
      exact forget_ok (I'.unhand I.ok) hN hi hk fun s8 I8 => ⟨v, _, H', I8, r, q⟩
  · cases f with
    | next => exact wpAny_execs_nil q
    | ret v => exact q
    | brk => exact q
    | cont => exact q
end
section
variable {P : Program} {w : World} {K : PySem.W.Frag} {mg : Str → Option Value} {base : Heap} {N : List Str} {qual : Str} {scope : Scope} {f : Addr} {cd : Value} {A : Around} {outer : List Env} {s : Shared} {H : Hp} {E : XK}
end
end L2
namespace L2
open PySem PySem.Spec PyProof.Rows XC
theorem exo_instD {P : Program} {w : World} {H : Hp} {h : Heap} {a C : Addr} {dd : Option Addr} (ok : HOk P w H h) (ha : H a = some (ExOD a C dd)) (hd : DictThere H dd) : ∃ ox od, PySem.W.InstAt h a ox C od := by
  obtain ⟨⟨o, vs, h1, h2, h3, h4⟩, _⟩ := ok a _ ha
  have nc : PySem.W.notCls o = true := by unfold PySem.W.notCls; rw [h4]
  cases dd with
  | none => exact ⟨o, none, h1, h2, nc, by rw [h3]; trivial⟩
  | some dx =>
    obtain ⟨u, hu⟩ := hd
    obtain ⟨od, q⟩ := (ok dx u hu).there
    exact ⟨o, some od, h1, h2, nc, by rw [h3]; exact q⟩
theorem call_isinstED {X : Cx} : CallR X (.builtin "isinstance") (fun xs H Q => ∃ a C dd c b, xs = [.ref a, c] ∧ H a = some (ExOD a C dd) ∧ DictThere H dd ∧ XK1 X.K C ∧ ExC X.K H (.ref C) c b ∧ Q (.bl b) H) := by
  intro pins s σ H xs us Q I r h
  obtain ⟨a, C, dd, c, b, rfl, ha, hd, k, hc, q⟩ := h
  obtain ⟨u, w', rfl, rx, ry⟩ := vals2 r
  cases (show u = Value.ref a from rx)
  have J := exo_instD I.hok ha hd
  cases hc with
  | @one B b e =>
    cases (show w' = Value.ref B from ry)
    exact PySem.W.kia_one (kitx_exc k) I.kIn J e (fun z => nomatch z) fun tk => ⟨.bl b, H, I.tok _, rfl, q⟩
  | @ty T b e =>
    cases (show w' = Value.type T from ry)
    exact PySem.W.kia_one (kitx_exc k) I.kIn J e (fun z => nomatch z) fun tk => ⟨.bl b, H, I.tok _, rfl, q⟩
  | @tup p Bs b hp e =>
    cases (show w' = Value.ref p from ry)
    obtain ⟨_, its, rv, ⟨oc, od, oda, osl⟩, e1, e2, n, e3⟩ := (show ObjOk X.prog X.w H s.heap p (.tup (Bs.map V.ref)) from I.hok p _ hp)
    dsimp only at e2 e3
    subst e2 e3
    rw [vals_refs rv] at e1
    exact PySem.W.kia_tup (kitx_exc k) I.kIn J e1 e (fun z => nomatch z) fun tk => ⟨.bl b, H, I.tok _, rfl, q⟩
end L2
namespace L2
open PySem PySem.Spec PyProof.Rows XC
end L2
namespace L2
open PySem PySem.Spec PyProof.Rows XC
section
variable {X : Cx} {o value : Expr} {f : Str} {ta tv : TE} {pos pos' : Pos}
noncomputable def tFldXD (K : PySem.W.Frag) (ta : TE) (f : Str) : TE := fun σ H Q => ta σ H fun x H1 => ∃ a C dx fs v, x = .ref a ∧ H1 a = some (ExOD a C (some dx)) ∧ H1 dx = some (.xd fs) ∧ XK1 K C ∧ XF K C f ∧ fs.lookup f = some v ∧ Q v H1
theorem pe_fldXD {e : Expr} (he : PE X e ta) (hb : attributeBase e f X.env (eval e X.env) = eval e X.env) : PE X (.Attribute e f pos) (tFldXD X.K ta f) := by
  intro pins s σ H Q I h
  refine attr_of hb (thn (he pins s σ H _ I h) fun u s1 ⟨x, H1, I1, rx, a, C, dx, fs, v, ex, hx, hdx, k, xf, l, q⟩ => ?_)
  subst ex
  obtain rfl : u = Value.ref a := rx
  obtain ⟨⟨ob, vs, o1, o2, o3, o4⟩, _⟩ := I1.hok a _ hx
  obtain ⟨mA, ns, rel⟩ := I1.hok dx _ hdx
  have rf := rel f
  rw [l] at rf
  cases em : mA f with
  | none => rw [em] at rf; exact False.elim rf
  | some w =>
    rw [em] at rf
    exact exc_get k xf I1.kIn o1 o2 o3 o4 ns em (handed_rel rf) fun tk => ⟨v, H1, I1.tok _, rf, q⟩
end
end L2
namespace L2
open PySem PySem.Spec PyProof.Rows XC
section
variable {P : Program} {w : World} {K : PySem.W.Frag} {mg : Str → Option Value} {base : Heap} {N : List Str} {qual : Str} {scope : Scope} {f : Addr} {cd : Value} {A : Around} {outer : List Env} {s : Shared} {H : Hp} {E : XK}
theorem ps_raise1D {x : Str} {C : Addr} {fl : Str} {ps : List Str} {j k : Nat} {e1 : Expr} {ta : TA} {np cpos pos : Pos} (M : XCl P w K mg base j C fl ps) (hr : Room k (cxOf (CXd P w) P w K mg base N qual scope f cd A outer s H E).A) (hg : Gl (cxOf (CXd P w) P w K mg base N qual scope f cd A outer s H E) x) (hm : mg x = some (.ref C)) (k1 : XK1 K C)
    (ha : PA (cxOf (CXd P w) P w K mg base N qual scope f cd A outer s H E) [e1] ta) (hjk : j + 1 ≤ k := by decide) (hd : (x == ("__debug__" : Str)) = false := by decide)
    (he : starEach [e1] (cxOf (CXd P w) P w K mg base N qual scope f cd A outer s H E).env = (false, eval e1 (cxOf (CXd P w) P w K mg base N qual scope f cd A outer s H E).env) :: starEach [] (cxOf (CXd P w) P w K mg base N qual scope f cd A outer s H E).env := by rfl) :
    PS (cxOf (CXd P w) P w K mg base N qual scope f cd A outer s H E) (.Raise (some (.Call (.Name x np) [e1] [] cpos)) none pos) (fun _ σ H' => ta σ H' fun vs H2 => ∃ v, vs = [v] ∧ ∀ dx, H2 dx = none → E (.ref C) (some dx) (upd H2 dx (.xd [(fl, v)]))) := by
  intro pins s1 σ H1 D I h
  obtain ⟨fI, fd, F, xi, kp, hb⟩ := M.ex
  rw [arm_exec_Raise]
  refine wpAny_bind (wpAny_standAt (exc_raise (K := K) (C := C) (I.ok.hd rfl) k1 ?_))
  refine wpAny_bind (wpAny_mono (wpAny_Call_Name_kw (ld_glob I hg hm ?_ hd)) (fun v s2 z => wpAny_bind (wpAny_standAt (wpAny_pure z))) fun _ _ z => z)
  refine PySem.W.callWith_K (h₀ := base) I.ok.mod.kin kp (thn (ha cpos pins s1 σ H1 _ I h) fun us s2 ⟨vs, H2, I2, r, v, ev, q⟩ => ⟨I2.kIn, ?_⟩) he rfl
  subst ev
  obtain ⟨u, rfl, ru⟩ := vals1 r
  obtain ⟨N', nm, q', bs, bm, hdct, sn, sub, ab, col, dd, k0, k1', k2, k3, k5, hC, T⟩ := xi.here I2.kIn
  have tf : PySem.W.typeIn K (.ref fI) = some (.type "function") := beq_iff_eq.mp xi.fn
  obtain ⟨oI, hI, cI⟩ := Option.map_eq_some_iff.mp tf
  obtain ⟨hh, g, d, t, os⟩ := s2
  refine exc_make hC T (PySem.W.looks_findIn I2.kIn xi.ini) (I2.kIn _ _ hI) cI (by show 1 ≤ sizeLine; decide) fun h' e m => ?_
  have G : Gone (cxOf (CXd P w) P w K mg base N qual scope f cd A outer s H E).stack e [] hh h' := ⟨fun b o q _ _ _ => m.keeps b o q, fun b o q _ => ⟨o.slots, m.keeps b o q⟩⟩
  have ne : H2 e = none := HOk.un_at I2.hok m.new
  obtain ⟨t0, ge, _⟩ := m.there
  have I3 : Inv (cxOf (CXd P w) P w K mg base N qual scope f cd A outer s H E) pins σ (upd H2 e (ExN e C none)) ⟨h', g, d, t, os⟩ := I2.flown (t' := t) rfl rfl rfl G (I2.fr1 rfl m.new) (fun b z => by cases z) ne (.inr ⟨_, rfl⟩) ((I2.hok.kept m.keeps).take ne ⟨⟨_, _, t0, ge, rfl, rfl, rfl, rfl, rfl, rfl, (by show 4 < 6; decide)⟩, ⟨_, ge⟩, fun g1 g2 ⟨o, vs, a0, q, r⟩ k => ⟨o, vs, a0, k o q, r⟩⟩)
  have hsp : spInit C fl [.ref e, v] (upd H2 e (ExN e C none)) (fun v' H' => v' = .non ∧ ∃ dx, H2 dx = none ∧ dx ≠ e ∧ H' = upd (upd (upd H2 e (ExN e C none)) dx (.xd [(fl, v)])) e (ExN e C (some dx))) E0 := ⟨e, v, rfl, upd_same, fun dx hdx => by
    have z : dx ≠ e := fun z => by rw [z, upd_same] at hdx; cases hdx
    rw [upd_ne z] at hdx
    exact ⟨rfl, dx, hdx, z, rfl⟩⟩
  refine wpAny_call (codeAny_mono (F.run _ (cxOf (CXd P w) P w K mg base N qual scope f cd A outer s H E).stack ⟨h', g, d, t, os⟩ _ ⟨[.ref e, u], []⟩ [.ref e, u] [.ref e, v] _ E0 ((hr.mono hjk).make C [u] []) (I3.env0.make C [u] []) (hb _ [.ref e, u] I3.kIn (F.len _ _ _ _ hsp)) (.cons rfl (.cons ru .nil)) hsp) fun r s3 hq => ?_)
  cases r with
  | error z => exact False.elim hq
  | ok fw =>
    cases fw with
    | next => exact False.elim hq
    | brk => exact False.elim hq
    | cont => exact False.elim hq
    | ret uu =>
      obtain ⟨v', H', I4, rv, ev, dx, hdx, ne2, eH⟩ := I3.after hq
      subst ev
      subst eH
      obtain ⟨⟨oe, fs, a0, o1, o2, o3, o4, o5, o6, o7⟩, _⟩ := I4.hok e _ upd_same
      refine ⟨rv, e, oe, fs, rfl, I4.kIn, o1, o2, o4, o6, ?_⟩
      have I5 := I4.drop (a := e) upd_same
      have eD : dropH (upd (upd (upd H2 e (ExN e C none)) dx (.xd [(fl, v)])) e (ExN e C (some dx))) e = upd H2 dx (.xd [(fl, v)]) := by
        funext b
        by_cases z : b = e
        · rw [z]
          unfold dropH
          rw [if_pos rfl, upd_ne (Ne.symm ne2), ne]
        · rw [drop_ne z, upd_ne z]
          by_cases z2 : b = dx
          · rw [z2, upd_same, upd_same]
          · rw [upd_ne z2, upd_ne z2, upd_ne z]
      rw [eD] at I5
      exact fly_firstD I5 o1 o4 o6 (I2.up rfl m.new) (by rw [upd_ne (Ne.symm ne2)]; exact ne) (by rw [o2, o3]; exact q dx hdx)
end
end L2
set_option Elab.async false
set_option linter.all false
set_option maxRecDepth 100000
set_option maxHeartbeats 16000000
namespace L2
open PySem PySem.Spec PyProof.Rows
section
variable {X : Cx}
end
end L2
set_option Elab.async false
set_option linter.all false
set_option maxRecDepth 100000
set_option maxHeartbeats 16000000
namespace XC
open PySem
theorem plain_unchain : plainId "proto.unchain" = true := by decide +kernel
theorem entry_unchain : entryFor table "proto.unchain" = some Builtin.«proto.unchain» := entryFor_of_fast (by kernel_rfl)
section
variable {prog : Program} {w : World} {A : Around} {E : Value → Shared → Prop} {s : Shared}
noncomputable def Free2 (h : Heap) (a : Addr) : Prop := ∃ o vs, h.get? a = some o ∧ o.data = .fields vs ∧ vs[2]? = some .none
theorem unchain_ok {v : Value} {a : Addr} {Q : Value → Shared → Prop} (hf : Free2 s.heap a) (q : Q .none s) : wpAny (model prog w) A (runValue (.builtin "proto.unchain" ⟨[v, .ref a, .ref a, .bool false], []⟩)) Q E s := by
  obtain ⟨o, vs, h1, h2, h3⟩ := hf
  refine wpAny_runValue (codeAny_builtin entry_unchain ?_)
  rw [Around.under_plainId plain_unchain _]
  show wpAny _ _ (field (.ref a) 2 >>= _) _ _ s
  refine wpAny_bind (wpAny_field h1 h2 h3 ?_)
  exact wpAny_pure q
theorem raiseNew_in {α : Type} {e a : Addr} {oe : Obj} {vs : Array Value} {Q : α → Shared → Prop} (hh : A.handled = some (.ref a)) (hf : Free2 s.heap a) (ne : e ≠ a) (he : s.heap.get? e = some oe) (hd : oe.data = .fields vs) (hz : 2 < vs.size)
    (h : E (.ref e) { s with heap := s.heap.update e (Obj.mapFields (·.setIfInBounds 2 (.ref a))) }) : wpAny (model prog w) A (raiseNew (.ref e) : Sem α) Q E s := by
  unfold raiseNew
  refine wpAny_bind (wpAny_handled ?_)
  rw [hh]
  show wpAny _ _ (if ((Value.ref a != Value.ref e) = true) then _ else _) _ _ s
  rw [if_pos (by simpa using fun z => ne z.symm)]
  refine wpAny_bind (wpAny_holding (unchain_ok hf ?_))
  simp only [updateField]
  refine wpAny_bind (wpAny_bind (wpAny_load he ?_))
  rw [hd]
  show wpAny _ _ (if 2 < vs.size then _ else _) _ _ s
  rw [if_pos hz]
  exact wpAny_update he (wpAny_throw h)
end
section
variable {prog : Program} {w : World} {A : Around} {E : Value → Shared → Prop} {s : Shared}
end
end XC
namespace L2
open PySem PySem.Spec PyProof.Rows XC
end L2
set_option Elab.async false
set_option linter.all false
set_option maxRecDepth 100000
set_option maxHeartbeats 16000000
namespace L2
open PySem PySem.Spec PyProof.Rows XC
section
variable {X : Cx} {j k : Nat} {f : Str} {ps : List Str} {sp : Sp} {e : Expr} {es : List Expr} {ta : TA} {p pos cpos : Pos}
theorem tb_ret (C : ClE X.prog X.w X.K X.mg X.base j f ps sp) (hr : Room k X.A) (hg : Gl X f) (ha : PA X.nox (e :: es) ta) (hjk : j ≤ k := by decide) (hx : X.ex = [] := by rfl)
    (hdb : (f == ("__debug__" : Str)) = false := by decide) (he : starEach (e :: es) X.env = (false, eval e X.env) :: starEach es X.env := by rfl) (hpl : (backTo cpos (starEach es X.env)).any (·.1) = false := by rfl) :
    TBody X [.Return (some (.Call (.Name f p) (e :: es) [] cpos)) pos] (tbCall sp ta fun v => fun D _ H => D.rt v H) := by
  intro pins s σ H D E xe1 I hu h
  refine wpAny_execs_cons (thn (Q := fun f s1 => SP X pins D f s1) (wpAny_Return_some (thn (call_up C hx hr hg ha hjk hdb he hpl I hu h) fun v s1 ⟨x, H1, I1, r1, q1⟩ => ⟨x, σ, H1, I1, r1, q1⟩)) fun f s1 q => ?_)
  cases f with
  | next => exact wpAny_execs_nil q
  | ret v => exact q
  | brk => exact q
  | cont => exact q
end
theorem raise_from {prog : Program} {w : World} {A : Around} {E : Value → Shared → Prop} {s : Shared} {K : PySem.W.Frag} {C a : Addr} {env : Env} {x c : Sem Value} {Q : Flow → Shared → Prop} (hh : A.handled = some (.ref a)) (k : XK1 K C)
    (hc : ∀ (s1 : Shared) (Q' : Value → Shared → Prop), Q' .none s1 → wpAny (model prog w) A c Q' E s1)
    (h : wpAny (model prog w) A x (fun v s1 => ∃ e oe vs, v = .ref e ∧ e ≠ a ∧ Free2 s1.heap a ∧ s1.heap.get? e = some oe ∧ oe.cls = .ref C ∧ oe.data = .fields vs ∧ 4 < vs.size ∧ vs[1]? = some .none ∧
      (∀ h', (∀ b o, b ≠ e → s1.heap.get? b = some o → h'.get? b = some o) → (∃ u, h'.get? e = some u) → K.In h') ∧
      ∀ h' vs', (∀ b o, b ≠ e → s1.heap.get? b = some o → h'.get? b = some o) → h'.get? e = some { oe with data := .fields vs' } → vs'[1]? = some .none → E (.ref e) { s1 with heap := h' }) E s) :
    wpAny (model prog w) A (raiseStmt env (some x) (some c)) Q E s := by
  unfold raiseStmt
  refine wpAny_bind (wpAny_mono h (fun v s1 z => ?_) fun _ _ z => z)
  obtain ⟨e, oe, vs, rfl, ne, hf, he, hcl, hd, hz, h1, hK, hE⟩ := z
  obtain ⟨hp, g, d, t, os⟩ := s1
  refine wpAny_bind (wpAny_holding (hc _ _ (wpAny_bind (wpAny_pure ?_))))
  have X0 : K.In hp := hK hp (fun b o _ q => q) ⟨_, he⟩
  have LT : ∀ {h' : Heap} {o : Obj}, h'.get? e = some o → o.cls = .ref C → PySem.W.Looks (model prog w) h' (typeOf (.ref e)) (.ref C) := fun q z => z ▸ (PySem.W.Looks.ld q).andThen .now
  have LI : ∀ {h' : Heap} {o : Obj} {ws : Array Value}, h'.get? e = some o → o.data = .fields ws → PySem.W.Looks (model prog w) h' (isType (.ref e)) false := fun q z => by
    intro A' Q' E' s' kp q'
    unfold isType loadHead
    refine wpAny_bind (wpAny_loadPart (kp _ _ q) ?_)
    rw [z]
    exact wpAny_pure q'
  have L2 : PySem.W.Looks (model prog w) hp (isInstance (.ref e) (.type "BaseException")) true := (LT he hcl).andThen (PySem.W.looks_mroIn X0 k.base)
  refine wpAny_bind (wpAny_holding ?_)
  unfold excFromValue isExcClass
  refine wpAny_bind (wpAny_bind ((LI he hd).at ?_))
  simp only [Bool.false_eq_true, if_false]
  refine wpAny_pure (wpAny_bind (L2.at ?_))
  simp only [if_true]
  refine wpAny_pure ?_
  rw [if_pos (by decide)]
  refine wpAny_bind (wpAny_pure ?_)
  have upd1 : ∀ {h' : Heap} {ws : Array Value} (n : Nat) (v : Value), h'.get? e = some { oe with data := .fields ws } → (h'.update e (Obj.mapFields (·.setIfInBounds n v))).get? e = some { oe with data := .fields (ws.setIfInBounds n v) } := fun {h' ws} n v q => by
    have := Heap.get?_update_self (Obj.mapFields (·.setIfInBounds n v)) q (Obj.isFreed_of_fields (Obj.data_mapFields (o := { oe with data := .fields ws }) rfl _))
    rw [this]
    rfl
  have upd2 : ∀ {h' : Heap} (n : Nat) (v : Value), (∀ b o, b ≠ e → hp.get? b = some o → h'.get? b = some o) → ∀ b o, b ≠ e → hp.get? b = some o → (h'.update e (Obj.mapFields (·.setIfInBounds n v))).get? b = some o := fun {h'} n v kp b o z q => by
    rw [Heap.get?_update_other _ _ (Ne.symm z)]
    exact kp b o z q
  obtain ⟨oc, od, oda, osl⟩ := oe
  dsimp only at hcl hd
  subst hcl hd
  have he0 : hp.get? e = some { (⟨.ref C, od, .fields vs, osl⟩ : Obj) with data := .fields vs } := he
  refine wpAny_bind (wpAny_setField he rfl (by omega) ?_)
  have e1 := upd1 3 .none he0
  have k1 := upd2 (h' := hp) 3 .none fun b o _ q => q
  dsimp only
  generalize hp.update e (Obj.mapFields (·.setIfInBounds 3 .none)) = h1' at e1 k1 ⊢
  refine wpAny_bind (wpAny_setField e1 rfl (by rw [Array.size_setIfInBounds]; omega) ?_)
  have e2 := upd1 4 (.bool true) e1
  have k2 := upd2 4 (.bool true) k1
  dsimp only
  generalize h1'.update e (Obj.mapFields (·.setIfInBounds 4 (.bool true))) = h2' at e2 k2 ⊢
  have K2 : K.In h2' := hK h2' k2 ⟨_, e2⟩
  have L3 := PySem.W.looks_typeIn (M := model prog w) K2 k.ty
  refine wpAny_bind ((LI e2 rfl).at ?_)
  simp only [Bool.false_eq_true, if_false]
  unfold raisedInstance
  refine wpAny_bind (wpAny_bind ((LT e2 rfl).at (wpAny_bind (L3.at ?_))))
  rw [if_pos (by decide)]
  refine wpAny_pure (wpAny_bind ?_)
  have v1 : ((vs.setIfInBounds 3 Value.none).setIfInBounds 4 (Value.bool true))[1]? = some .none := by
    rw [Array.getElem?_setIfInBounds_ne (by decide), Array.getElem?_setIfInBounds_ne (by decide)]
    exact h1
  unfold setFlight
  refine wpAny_bind (wpAny_field e2 rfl v1 ?_)
  rw [if_neg (by decide)]
  refine wpAny_pure ?_
  obtain ⟨oa, va, a1, a2, a3⟩ := hf
  refine raiseNew_in hh ⟨oa, va, k2 a oa (Ne.symm ne) a1, a2, a3⟩ ne e2 rfl (by rw [Array.size_setIfInBounds, Array.size_setIfInBounds]; omega) ?_
  refine hE _ _ (upd2 2 (.ref a) k2) (upd1 2 (.ref a) e2) ?_
  rw [Array.getElem?_setIfInBounds_ne (by decide)]
  exact v1
structure RoomN (k : Nat) (A : Around) : Prop where
  dp : A.depth + 3 * k + 5 < recursionLimit
  un : A.units + 16 * k + 200 < cLine
noncomputable def cxOfN (CX : CXT) (P : Program) (w : World) (K : PySem.W.Frag) (mg : Str → Option Value) (base : Heap) (N : List Str) (qual : Str) (scope : Scope) (f : Addr) (cd : Value) (A : Around) (outer : List Env) (s : Shared) (H : Hp) (E : XK) : Cx := { cxOf CX P w K mg base N qual scope f cd A outer s H E with calm := false }
theorem inv_startN {CX : CXT} {P : Program} {w : World} {K : PySem.W.Frag} {mg : Str → Option Value} {base : Heap} {N ps : List Str} {qual : Str} {scope : Scope} {f : Addr} {cd : Value} {A : Around} {outer : List Env} {s s1 : Shared} {H : Hp} {E : XK} {us : List Value} {vs : List V}
    (S : FnScope N ps scope) (e0 : Env0 P w K mg base A outer s H) (hl : vs.length = ps.length) (r : Vals vs us)
    (x : InCallC s s.heap.objs.size (bindL (envOfC qual scope s.heap.objs.size f cd).kindOf (ps.zip us) fun _ => none) (cellsFrom (s.heap.objs.size + 1) scope.names []) (bindC (envOfC qual scope s.heap.objs.size f cd).kindOf (ps.zip us) fun _ => none) s1) :
    Inv (cxOfN CX P w K mg base N qual scope f cd A outer s H E) [] (start N vs) H s1 := by
  have e1 : Env0 P w K mg base { A with handled := none } outer s H := ⟨e0.frames, e0.mod, e0.bs, e0.bsz, e0.funs, e0.frf, e0.hok, e0.bare⟩
  have I := inv_start (CX := CX) (A := { A with handled := none }) (E := E) S rfl e1 hl r x
  exact ⟨⟨I.ok.mod, I.ok.kind, I.ok.glob, I.ok.blt, I.ok.above, I.ok.inj, I.ok.has, I.ok.cab, fun z => absurd (show false = true from z) Bool.false_ne_true, I.ok.frames, I.ok.stk, I.ok.exf, I.ok.bs, I.ok.bsz, I.ok.noex, I.ok.exfs, I.ok.funs, I.ok.frf⟩, I.os, I.bare, I.base, I.loc, I.cell, I.free, I.freeC, I.pin, I.hok, I.len⟩
structure XClN (P : Program) (w : World) (K : PySem.W.Frag) (mg : Str → Option Value) (base : Heap) (k : Nat) (C : Addr) (f : Str) (ps : List Str) : Prop where
  ex : ∃ fI fd, (∀ (A : Around) (outer : List Env) (s : Shared) (H : Hp) (us : List Value) (vs : List V) (Q : VK) (E : XK), RoomN k A → Env0 P w K mg base A outer s H → BindsTo s fd ⟨us, []⟩ (ps.zip us) → Vals vs us → spInit C f vs H Q E →
    codeAny (model P w) A (.call (.ref fI) ⟨us, []⟩) (CR CX0 outer P w H s Q E) s) ∧ XI K C fI ∧ PySem.W.keepIn K (.ref C) = true ∧ Binds K fd ps []
  len : ps.length = 2
theorem XClN.of {P : Program} {w : World} {K : PySem.W.Frag} {mg : Str → Option Value} {base : Heap} {C : Addr} {f qual : Str} {st : Stmt} {N ps : List Str} {k : Nat} (T : HasX K C qual st) (S : FnScope N ps (defScope st)) (hps : ps.length = 2)
    (hb : ∀ (kV doc pm : Value) (an : Option Addr) (cdv ct : Value) (us : List Value), us.length = ps.length → bindArgs (PySem.W.fnOf "__init__" qual (defArgs st) (defBody st) (defScope st) .none kV doc pm an cdv ct) ⟨us, []⟩ = pure (ps.zip us))
    (hbody : ∀ (f' : Addr) (cdv : Value) (A : Around) (outer : List Env) (s : Shared) (H : Hp) (vs : List V) (Q : VK) (E : XK), XI K C f' → spInit C f vs H Q E →
      ∃ t, PSs (cxOfN CX0 P w K mg base N qual (defScope st) f' cdv A outer s H E).nox (defBody st) t ∧ t { nx := fun _ H' => Q .non H', rt := Q } (start N vs) H) : XClN P w K mg base (k + 1) C f ps := by
  obtain ⟨fI, fd, F, x, kp⟩ := T
  have hB := F.binds hb
  obtain ⟨oc, od, kV, doc, pm, an, cdv, ct, osl, rfl, lk, hcd⟩ := F.ex
  refine ⟨⟨fI, _, fun A outer s H us vs Q E hr e0 hbt r hsp => ?_, x, kp, hB⟩, hps⟩
  have hl : vs.length = ps.length := by
    obtain ⟨e, v, rfl, _⟩ := id hsp
    exact hps.symm
  have KX : K.In s.heap := e0.mod.kin.keeps fun b o e => (e0.bs b o e).1
  have lim : s.heap.NoLimit := e0.mod.nolimit.keeps fun b o e => (e0.bs b o e).1
  have hkind : ∀ y ∈ ps.zip us, (defScope st).names.lookup y.1 = some .local ∨ ((defScope st).names.lookup y.1 = some .cell ∧ ((cellsFrom (s.heap.objs.size + 1) (defScope st).names []).lookup y.1).isSome = true) := fun ⟨n, v⟩ hy => by
    rcases S.par n (List.of_mem_zip hy).1 with q | q
    · exact .inl q
    · exact .inr ⟨q, PySem.W.cellsFrom_some _ _ _ (.inl q)⟩
  refine codeAny_call_function (by have := hr.dp; omega) (KX _ _ lk) rfl S.co S.gen rfl (PySem.W.codeRec_of KX hcd) (hbt _ _ _ _ ?_)
  refine wpAny_newFunctionEnv_cells S.kind hkind fun env he s1 x1 => ?_
  subst he
  refine ⟨lim.keeps x1.toInCall.keep, codeAny_func ?_⟩
  obtain ⟨t, ht, hq⟩ := hbody fI cdv A outer s H vs Q E x hsp
  have I : Inv (cxOfN CX0 P w K mg base N qual (defScope st) fI cdv A outer s H E) [] (start N vs) H s1 := inv_startN S e0 hl r x1
  refine wpAny_mono (ht.nox [] s1 (start N vs) H _ I hq) (fun fl s' hs => ?_) fun e s' hs => hs
  have fin : ∀ {σ' : St} {H' : Hp} {v : V} {u : Value}, Inv (cxOfN CX0 P w K mg base N qual (defScope st) fI cdv A outer s H E) [] σ' H' s' → RelV v u → Q v H' → CE outer P w H s Q u s' :=
    fun {σ' H' v u} J rv q => ⟨v, H', J.os, J.bare, J.base, J.hok, rv, q⟩
  cases fl with
  | ret u =>
    obtain ⟨v, σ', H', J, rv, q⟩ := hs
    exact fin J rv q
  | next =>
    obtain ⟨σ', H', J, q⟩ := hs
    exact fin (v := V.non) (u := Value.none) J rfl q
  | brk =>
    obtain ⟨_, _, _, q⟩ := hs
    exact False.elim q
  | cont =>
    obtain ⟨_, _, _, q⟩ := hs
    exact False.elim q
end L2
set_option Elab.async false
set_option linter.all false
set_option maxRecDepth 100000
set_option maxHeartbeats 16000000
namespace L2
open PySem PySem.Spec PyProof.Rows XC
section
variable {M : Model} {A : Around} {E : Value → Shared → Prop} {s : Shared}
theorem came_back {env : Env} {L e T : Addr} {cls fl : Value} {dd : Option Addr} (hf : env.frame = some L) (ht : TrD s.heap e cls dd T fl)
    (h : ∀ h', (∀ b o, b ≠ T → s.heap.get? b = some o → h'.get? b = some o) → TrD h' e cls dd T (rawInt L) → E (.ref e) { s with heap := h' }) : cameBackBy M A env E (.ref e) s := by
  obtain ⟨k, t⟩ := flight_atD (x := rawInt L) ht
  obtain ⟨oe, vs, oT, ts, h1, h2, h2', h3, h4, h5, h6, h7, h8⟩ := ht
  unfold cameBackBy
  refine wpAny_bind (wpAny_field h1 h3 h4 ?_)
  rw [if_neg (show ¬ ((Value.ref T == Value.none) = true) from Bool.false_ne_true)]
  rw [hf]
  unfold setFlight
  refine wpAny_bind (wpAny_field h1 h3 h4 ?_)
  rw [if_pos (show (Value.ref T != Value.none) = true from rfl)]
  refine wpAny_setField h6 h7 (Array.getElem?_eq_some_iff.mp h8).1 ?_
  exact h _ k t
end
section
variable {P : Program} {w : World} {K : PySem.W.Frag} {mg : Str → Option Value} {base : Heap} {N : List Str} {qual : Str} {scope : Scope} {f : Addr} {cd : Value} {A : Around} {outer : List Env} {s : Shared} {H : Hp} {E : XK} {pins : List (Addr × Obj)} {σ : St} {H' : Hp} {s' : Shared}
theorem fly_sameD (I : Inv (cxOf (CXd P w) P w K mg base N qual scope f cd A outer s H E) pins σ H' s') {a T : Addr} {cls : Value} {dd : Option Addr} (ht : TrD s'.heap a cls dd T (rawInt s.heap.objs.size)) (new : s.heap.get? a = none) (newT : s.heap.get? T = none) (fr : H' a = none) (frT : H' T = none) (hE : E cls dd H') :
    (cxOf (CXd P w) P w K mg base N qual scope f cd A outer s H E).xe (.ref a) s' := by
  have nT := ht.notIn I.stack
  show wpAny _ _ (leaving _ (.ref a)) _ _ s'
  unfold leaving
  refine wpAny_bind (note_sameD rfl ht (fly_offD ht fun h' k t => ?_))
  have G0 : Gone (cxOf (CXd P w) P w K mg base N qual scope f cd A outer s H E).stack a [T] s'.heap s'.heap := ⟨fun b o q _ _ _ => q, fun b o q _ => ⟨o.slots, q⟩⟩
  have G := G0.off k (.inr (List.mem_singleton_self _)) nT
  exact ⟨a, T, cls, dd, H', rfl, I.os, I.bare, Un.gone I.base G new (fun b z => by rw [List.mem_singleton.mp z]; exact newT) loc_new I.ok.frf, HOk.gone I.hok G fr (fun b z => by rw [List.mem_singleton.mp z]; exact frT) I.stkFree, new, fr, t, newT, frT, hE⟩
theorem ps_tryRaise {x n2 : Str} {B C : Addr} {fl : Str} {ps : List Str} {j k : Nat} {body : List Stmt} {tb : XK → TS} {e1 : Expr} {ta : TA} {np np2 cpos kp rpos hp pos : Pos} {jc} (hg : Gl (cxOf (CXd P w) P w K mg base N qual scope f cd A outer s H E) x) (hm : mg x = some (.ref B)) (b : XK1 K B) (hb : TBody (cxOf (CXd P w) P w K mg base N qual scope f cd A outer s H E) body tb)
    (Mx : XClN P w K mg base j C fl ps) (hr : Room k (cxOf (CXd P w) P w K mg base N qual scope f cd A outer s H E).A) (hg2 : Gl (cxOf (CXd P w) P w K mg base N qual scope f cd A outer s H E) n2) (hm2 : mg n2 = some (.ref C)) (k1 : XK1 K C)
    (ha : ∀ a, PA ((cxOf (CXd P w) P w K mg base N qual scope f cd A outer s H E).hand a) [e1] ta) (hjk : j + 1 ≤ k := by decide) (hd : (x == ("__debug__" : Str)) = false := by decide) (hd2 : (n2 == ("__debug__" : Str)) = false := by decide)
    (he : starEach [e1] (cxOf (CXd P w) P w K mg base N qual scope f cd A outer s H E).env = (false, eval e1 (cxOf (CXd P w) P w K mg base N qual scope f cd A outer s H E).env) :: starEach [] (cxOf (CXd P w) P w K mg base N qual scope f cd A outer s H E).env := by rfl) :
    PS (cxOf (CXd P w) P w K mg base N qual scope f cd A outer s H E) (.Try body [.ExceptHandler (some (.Name x np)) none [.Raise (some (.Call (.Name n2 np2) [e1] [] cpos)) (some (.Constant .none jc kp)) rpos] hp] [] [] pos)
      (fun D σ H1 => tb (fun cls dd H2 => ∃ C', cls = .ref C' ∧ PySem.W.mroIn K C' (.ref B) = some true ∧ ∀ a, H2 a = none → ta σ (upd H2 a (ExO a C' dd)) fun vs H3 => H3 a = some (ExO a C' dd) ∧ ∃ v, vs = [v] ∧ ∀ dx, H3 dx = none → E (.ref C) (some dx) (upd H3 dx (.xd [(fl, v)]))) D σ H1) := by
  intro pins s0 σ H0 D I h
  refine wpAny_Try_except (thn (hb pins s0 σ H0 D _ _ I (fun e s1 u => ?_) h) fun f s1 q => ?_)
  · obtain ⟨a, T, cls, dd, H2, rfl, I1, fa, fT, na, nT, ht, C', rfl, sub, hth⟩ := u
    have st : s1.heap.FunFrames base (cxOf (CXd P w) P w K mg base N qual scope f cd A outer s H E).stack := I1.stack
    refine note_next (by rw [I1.ok.frames]; rfl) st rfl ht fun h3 T3 G3 n3 t3 => fly_off t3 fun h4 k4 t4 => ?_
    have G4 := G3.off k4 (.inl n3) (new_notIn n3 st)
    have ok4 : HOk P w H2 h4 := HOk.gone I1.hok G4 na (fun b z => by rw [List.mem_singleton.mp z]; exact nT) I1.stkFree
    have I4 : Inv (cxOf (CXd P w) P w K mg base N qual scope f cd A outer s H E) pins σ H2 { s1 with heap := h4 } := I1.flown (t' := s1.toks) rfl rfl rfl G4 fa (fun b z => by rw [List.mem_singleton.mp z]; exact fT) na (.inl rfl) ok4
    obtain ⟨oe, vs, oT, tt, e1', e2, _⟩ := id t4
    refine wpAny_handleBy_cons (codeAny_handlers_test (ld_glob (I4.hand a) hg hm (exc_match I4.kIn b sub e1' e2 (codeAny_handlers_suite (fly_off t4 fun h5 k5 t5 => ?_))) hd)) (by intro q; cases q)
    have G5 := G4.off k5 (.inl n3) (new_notIn n3 st)
    have ok5 : HOk P w H2 h5 := HOk.gone I1.hok G5 na (fun b z => by rw [List.mem_singleton.mp z]; exact nT) I1.stkFree
    have I5 : Inv (cxOf (CXd P w) P w K mg base N qual scope f cd A outer s H E) pins σ (upd H2 a (ExO a C' dd)) { s1 with heap := h5 } := I1.flown (t' := s1.toks) rfl rfl rfl G5 fa (fun b z => by rw [List.mem_singleton.mp z]; exact fT) na (.inr ⟨_, rfl⟩) (ok5.take na (exo_ok t5))
    obtain ⟨fI, fd, F, xi, kp', hbd⟩ := Mx.ex
    refine wpAny_execs_cons (wpAny_mono (Q := fun _ _ => False) ?_ (fun _ _ z => z.elim) fun _ _ z => z)
    rw [arm_exec_Raise]
    refine wpAny_bind (wpAny_standAt (raise_from (K := K) (C := C) (a := a) rfl k1 (fun s1 Q' q => wpAny_bind (Constant_none (wpAny_bind (wpAny_standAt (wpAny_pure q))))) ?_))
    refine wpAny_bind (wpAny_mono (wpAny_Call_Name_kw (ld_glob (I5.hand a) hg2 hm2 ?_ hd2)) (fun v s2 z => wpAny_bind (wpAny_standAt (wpAny_pure z))) fun _ _ z => z)
    refine PySem.W.callWith_K (h₀ := base) I5.ok.mod.kin kp' (wpAny_mono (ha a cpos pins _ σ _ _ (I5.hand a) (hth a na)) (fun us s2 ⟨vs2, H3, I2, r, hxa, v, ev, q⟩ => ⟨I2.kIn, ?_⟩) fun _ _ z => z.elim) he rfl
    subst ev
    obtain ⟨u, rfl, ru⟩ := vals1 r
    obtain ⟨N', nm, q', bs, bm, hdct, sn, sub', ab, col, dd', k0, k1', k2, k3, k5', hC, Tl⟩ := xi.here I2.kIn
    have tf : PySem.W.typeIn K (.ref fI) = some (.type "function") := beq_iff_eq.mp xi.fn
    obtain ⟨oI, hI, cI⟩ := Option.map_eq_some_iff.mp tf
    obtain ⟨hh, g, d, t, os⟩ := s2
    refine exc_make hC Tl (PySem.W.looks_findIn I2.kIn xi.ini) (I2.kIn _ _ hI) cI (by show 1 ≤ sizeLine; decide) fun h' e m => ?_
    have J2 := I2.unhand I.ok
    have G : Gone (cxOf (CXd P w) P w K mg base N qual scope f cd A outer s H E).stack e [] hh h' := ⟨fun b o q _ _ _ => m.keeps b o q, fun b o q _ => ⟨o.slots, m.keeps b o q⟩⟩
    have ne : H3 e = none := HOk.un_at J2.hok m.new
    have nea : e ≠ a := fun z => by rw [z, hxa] at ne; cases ne
    obtain ⟨t0, ge, _⟩ := m.there
    have fe := J2.fr1 rfl m.new
    have I3 : Inv (cxOf (CXd P w) P w K mg base N qual scope f cd A outer s H E) pins σ (upd H3 e (ExN e C none)) ⟨h', g, d, t, os⟩ := J2.flown (t' := t) rfl rfl rfl G fe (fun b z => by cases z) ne (.inr ⟨_, rfl⟩) ((J2.hok.kept m.keeps).take ne ⟨⟨_, _, t0, ge, rfl, rfl, rfl, rfl, rfl, rfl, (by show 4 < 6; decide)⟩, ⟨_, ge⟩, fun g1 g2 ⟨o, vs, a0, q, r⟩ k => ⟨o, vs, a0, k o q, r⟩⟩)
    have hsp : spInit C fl [.ref e, v] (upd H3 e (ExN e C none)) (fun v' H' => v' = .non ∧ ∃ dx, H3 dx = none ∧ dx ≠ e ∧ H' = upd (upd (upd H3 e (ExN e C none)) dx (.xd [(fl, v)])) e (ExN e C (some dx))) E0 := ⟨e, v, rfl, upd_same, fun dx hdx => by
      have z : dx ≠ e := fun z => by rw [z, upd_same] at hdx; cases hdx
      rw [upd_ne z] at hdx
      exact ⟨rfl, dx, hdx, z, rfl⟩⟩
    have hrn : RoomN j (((cxOf (CXd P w) P w K mg base N qual scope f cd A outer s H E).hand a).A.under (.builtin "type.__call__" ⟨.ref C :: [u], []⟩)) := ⟨by
      have := hr.dp
      rw [make_depth]
      show (cxOf (CXd P w) P w K mg base N qual scope f cd A outer s H E).A.depth + _ + 3 * j + 5 < _
      omega, by
      have := hr.un
      rw [make_units]
      show (cxOf (CXd P w) P w K mg base N qual scope f cd A outer s H E).A.units + _ + 16 * j + 200 < _
      omega⟩
    have hlen : [Value.ref e, u].length = ps.length := Mx.len.symm
    refine wpAny_call (codeAny_mono (F _ (cxOf (CXd P w) P w K mg base N qual scope f cd A outer s H E).stack ⟨h', g, d, t, os⟩ _ [.ref e, u] [.ref e, v] _ E0 hrn ((I3.hand a).env0.make C [u] []) (hbd _ [.ref e, u] I3.kIn hlen) (.cons rfl (.cons ru .nil)) hsp) fun r s3 hq => ?_)
    cases r with
    | error z => exact False.elim hq
    | ok fw =>
      cases fw with
      | next => exact False.elim hq
      | brk => exact False.elim hq
      | cont => exact False.elim hq
      | ret uu =>
        obtain ⟨v', H', I6, rv, ev, dx, hdx, ne2, eH⟩ := I3.after hq
        subst ev
        subst eH
        obtain ⟨⟨oe, fs, a0, o1, o2, o3, o4, o5, o6, o7, o8⟩, _⟩ := I6.hok e _ upd_same
        have hda : dx ≠ a := fun z => by rw [z, hxa] at hdx; cases hdx
        have ha6 : upd (upd (upd H3 e (ExN e C none)) dx (.xd [(fl, v)])) e (ExN e C (some dx)) a = some (ExO a C' dd) := by rw [upd_ne (Ne.symm nea), upd_ne (Ne.symm hda), upd_ne (Ne.symm nea)]; exact hxa
        obtain ⟨⟨oa, va, p1, p2, p3, p4, p5⟩, _⟩ := I6.hok a _ ha6
        refine ⟨rv, e, oe, fs, rfl, nea, ⟨oa, va, p1, p4, p5⟩, o1, o2, o4, o8, o6, fun h6 kp6 he6 => ?_, fun h6 fs6 kp6 he6 h16 => ?_⟩
        · have Iw := I6.write (t' := s3.toks) (h' := h6) (o := .ext fun h => ∃ o, h.get? e = some o) (e := e) (x := e) (by rw [upd_same]; trivial) (.inl rfl) kp6 he6 ⟨he6, he6, fun g1 g2 ⟨o, q⟩ k => ⟨o, k o q⟩⟩
          exact Iw.kIn
        · have I7 := I6.drop (a := e) upd_same
          have eD : dropH (upd (upd (upd H3 e (ExN e C none)) dx (.xd [(fl, v)])) e (ExN e C (some dx))) e = upd H3 dx (.xd [(fl, v)]) := by
            funext b
            by_cases z : b = e
            · rw [z]
              unfold dropH
              rw [if_pos rfl, upd_ne (Ne.symm ne2), ne]
            · rw [drop_ne z, upd_ne z]
              by_cases z2 : b = dx
              · rw [z2, upd_same, upd_same]
              · rw [upd_ne z2, upd_ne z2, upd_ne z]
          rw [eD] at I7
          have neD : upd H3 dx (.xd [(fl, v)]) e = none := by rw [upd_ne (Ne.symm ne2)]; exact ne
          have G6 : Gone (cxOf (CXd P w) P w K mg base N qual scope f cd A outer s H E).stack e [] s3.heap h6 := ⟨fun b o q z _ _ => kp6 b o z q, fun b o q z => ⟨o.slots, kp6 b o (fun y => by
            obtain ⟨_, o', q', n'⟩ := frames_free I7.stack b z
            rw [y, o1] at q'
            cases q'
            exact n' _ o4) q⟩⟩
          have ok6 : HOk P w (upd H3 dx (.xd [(fl, v)])) h6 := HOk.gone I7.hok G6 neD (fun b z => by cases z) I7.stkFree
          have I8 : Inv (cxOf (CXd P w) P w K mg base N qual scope f cd A outer s H E) pins σ (upd H3 dx (.xd [(fl, v)])) { s3 with heap := h6 } := I7.flown (t' := s3.toks) rfl rfl rfl G6 fe (fun b z => by cases z) neD (.inl rfl) ok6
          unfold notedBy
          refine note_firstD (base := base) (outer := outer) (by rw [show ((cxOf (CXd P w) P w K mg base N qual scope f cd A outer s H E).A.mark (some (Value.ref a))).frames = (cxOf (CXd P w) P w K mg base N qual scope f cd A outer s H E).A.frames from rfl, I8.ok.frames]; rfl) I8.stack rfl he6 rfl h16 fun h7 T7 G7 n7 t7 => ?_
          have ok7 : HOk P w (upd H3 dx (.xd [(fl, v)])) h7 := HOk.gone I8.hok G7 neD (fun b z => by cases z) I8.stkFree
          have I9 : Inv (cxOf (CXd P w) P w K mg base N qual scope f cd A outer s H E) pins σ (upd H3 dx (.xd [(fl, v)])) { s3 with heap := h7 } := I8.flown (t' := s3.toks) rfl rfl rfl G7 fe (fun b z => by cases z) neD (.inl rfl) ok7
          have fT7 := I8.fr1 rfl n7
          have nT7 : upd H3 dx (.xd [(fl, v)]) T7 = none := HOk.un_at I8.hok n7
          refine came_back rfl t7 fun h8 k8 t8 => ?_
          have G80 : Gone (cxOf (CXd P w) P w K mg base N qual scope f cd A outer s H E).stack e [T7] h7 h7 := ⟨fun b o q _ _ _ => q, fun b o q _ => ⟨o.slots, q⟩⟩
          have G8 := G80.off k8 (.inr (List.mem_singleton_self _)) (t7.notIn I9.stack)
          have ok8 : HOk P w (upd H3 dx (.xd [(fl, v)])) h8 := HOk.gone I9.hok G8 neD (fun b z => by rw [List.mem_singleton.mp z]; exact nT7) I9.stkFree
          have I10 : Inv (cxOf (CXd P w) P w K mg base N qual scope f cd A outer s H E) pins σ (upd H3 dx (.xd [(fl, v)])) { s3 with heap := h8 } := I9.flown (t' := s3.toks) rfl rfl rfl G8 fe (fun b z => by rw [List.mem_singleton.mp z]; exact fT7) neD (.inl rfl) ok8
          refine fly_sameD I10 t8 fe.s0 fT7.s0 neD nT7 ?_
          rw [show ({ oe with data := Data.fields fs6 } : Obj).cls = .ref C from o2, show ({ oe with data := Data.fields fs6 } : Obj).dict = some dx from o3]
          exact q dx hdx
  · cases f with
    | next => exact wpAny_execs_nil q
    | ret v => exact q
    | brk => exact q
    | cont => exact q
end
end L2
set_option Elab.async false
set_option linter.all false
set_option maxRecDepth 100000
set_option maxHeartbeats 16000000
namespace L2
open PySem PySem.Spec PyProof.Rows
section
variable {X : Cx}
end
end L2
set_option Elab.async false
set_option linter.all false
set_option maxRecDepth 100000
set_option maxHeartbeats 16000000
namespace L2
open PySem PySem.Spec PyProof.Rows
theorem all_getS {α : Type} [DecidableEq α] {d d' : List α} (h : d.length = d'.length) : ((List.range d.length).all fun j => decide (d[j]? = d'[j]?)) = decide (d = d') := by
  rw [Bool.eq_iff_iff]
  simp only [List.all_eq_true, List.mem_range, decide_eq_true_eq]
  refine ⟨fun z => List.ext_getElem? fun i => ?_, fun z => by rw [z]; simp⟩
  rcases Nat.lt_or_ge i d.length with c | c
  · exact z i c
  · rw [List.getElem?_eq_none c, List.getElem?_eq_none (by omega)]
theorem vals_atS {xs : List V} {its : List Value} (r : Vals xs its) {j : Nat} {x : V} (h : xs[j]? = some x) (hj : j < its.toArray.size) : RelV x its.toArray[j] := by
  obtain ⟨w1, g1, rw1⟩ := r.get h
  have : its[j]? = some its.toArray[j] := by simp at hj; simp [hj]
  rw [g1] at this
  rw [← Option.some.inj this]
  exact rw1
theorem op_eqL_S {X : Cx} (hu : X.A.units < cLine) : OpR X (compareOp .Eq) (fun x y H Q => ∃ (a b : Addr) (xs ys : List Str), x = .ref a ∧ y = .ref b ∧ SqL X.K H a (xs.map V.str) ∧ SqL X.K H b (ys.map V.str) ∧ Q (.bl (decide (xs = ys))) H) := by
  intro pins s σ H x y v u Q I rx ry h
  obtain ⟨a, b, xs, ys, rfl, rfl, ha, hb, q⟩ := h
  cases rx
  cases ry
  obtain ⟨its, r1, p1, _⟩ := I.list ha
  obtain ⟨its2, r2, p2, _⟩ := I.list hb
  have hl1 := r1.length
  have hl2 := r2.length
  rw [List.length_map] at hl1 hl2
  by_cases hl : xs.length = ys.length
  · refine SeqAt.eq_listAt (e := fun j => decide (xs[j]? = ys[j]?)) p1.isList p2.isList (by simp; omega) hu (fun j j1 j2 => ?_) ?_
    · have k1 : j < xs.length := by simp at j1; omega
      have k2 : j < ys.length := by simp at j2; omega
      have r1 := vals_atS r1 (x := .str xs[j]) (by rw [List.getElem?_map, List.getElem?_eq_getElem k1]; rfl) j1
      have r2 := vals_atS r2 (x := .str ys[j]) (by rw [List.getElem?_map, List.getElem?_eq_getElem k2]; rfl) j2
      have := eqAt_V (A := X.A.in1) (s := s) r1 r2 rfl rfl
      have e : eqV (.str xs[j]) (.str ys[j]) = decide (xs[j]? = ys[j]?) := by
        rw [List.getElem?_eq_getElem k1, List.getElem?_eq_getElem k2]
        show (xs[j] == ys[j]) = _
        rw [Bool.eq_iff_iff]
        simp
      rw [e] at this
      exact this
    have e1 : its.toArray.size = xs.length := by simp; omega
    rw [e1, all_getS hl]
    exact ⟨.bl _, H, I, rfl, q⟩
  · refine SeqAt.eq_list_lengthsAt p1.isList p2.isList (by rw [bne_iff_ne]; intro z; simp only [List.size_toArray] at z; omega) hu ⟨.bl false, H, I, rfl, ?_⟩
    rw [decide_eq_false (fun z => hl (by rw [z]))] at q
    exact q
end L2
set_option Elab.async false
set_option linter.all false
set_option maxRecDepth 100000
set_option maxHeartbeats 16000000
namespace K07
open PySem L2 PyProof.Rows
noncomputable def top (i : Nat) : Stmt := PySem.Challenge.pw_bundlehouse_k07_first_bad_row.main.body.getD i (.Pass ⟨0, 0, 0, 0⟩)
noncomputable abbrev s_NoRow___init__ : Stmt := inClass (top 3) 0
theorem sc_NoRow___init__ : FnScope ["self", "number"] ["self", "number"] (defScope s_NoRow___init__) := ⟨rfl, rfl, rfl, by decide +kernel, rfl, by decide +kernel, by decide +kernel⟩
noncomputable abbrev s_read_row : Stmt := top 14
theorem sc_read_row : FnScope ["text", "words", "kind", "rest"] ["text"] (defScope s_read_row) := ⟨rfl, rfl, rfl, by decide +kernel, rfl, by decide +kernel, by decide +kernel⟩
noncomputable abbrev s_read_bring : Stmt := top 15
theorem sc_read_bring : FnScope ["words", "pairs"] ["words"] (defScope s_read_bring) := ⟨rfl, rfl, rfl, by decide +kernel, rfl, by decide +kernel, by decide +kernel⟩
noncomputable abbrev s_read_pair : Stmt := top 16
theorem sc_read_pair : FnScope ["words"] ["words"] (defScope s_read_pair) := ⟨rfl, rfl, rfl, by decide +kernel, rfl, by decide +kernel, by decide +kernel⟩
noncomputable abbrev s_read_set : Stmt := top 17
theorem sc_read_set : FnScope ["words"] ["words"] (defScope s_read_set) := ⟨rfl, rfl, rfl, by decide +kernel, rfl, by decide +kernel, by decide +kernel⟩
noncomputable abbrev s_read_say : Stmt := top 18
theorem sc_read_say : FnScope ["words"] ["words"] (defScope s_read_say) := ⟨rfl, rfl, rfl, by decide +kernel, rfl, by decide +kernel, by decide +kernel⟩
noncomputable abbrev s_read_ask : Stmt := top 19
theorem sc_read_ask : FnScope ["words"] ["words"] (defScope s_read_ask) := ⟨rfl, rfl, rfl, by decide +kernel, rfl, by decide +kernel, by decide +kernel⟩
noncomputable abbrev s_has_when : Stmt := top 20
theorem sc_has_when : FnScope ["words"] ["words"] (defScope s_has_when) := ⟨rfl, rfl, rfl, by decide +kernel, rfl, by decide +kernel, by decide +kernel⟩
noncomputable abbrev s_read_sum : Stmt := top 21
theorem sc_read_sum : FnScope ["words", "terms", "k"] ["words"] (defScope s_read_sum) := ⟨rfl, rfl, rfl, by decide +kernel, rfl, by decide +kernel, by decide +kernel⟩
noncomputable abbrev s_read_sign : Stmt := top 22
theorem sc_read_sign : FnScope ["word"] ["word"] (defScope s_read_sign) := ⟨rfl, rfl, rfl, by decide +kernel, rfl, by decide +kernel, by decide +kernel⟩
noncomputable abbrev s_read_thing : Stmt := top 23
theorem sc_read_thing : FnScope ["word"] ["word"] (defScope s_read_thing) := ⟨rfl, rfl, rfl, by decide +kernel, rfl, by decide +kernel, by decide +kernel⟩
noncomputable abbrev s_read_only_name : Stmt := top 24
theorem sc_read_only_name : FnScope ["words"] ["words"] (defScope s_read_only_name) := ⟨rfl, rfl, rfl, by decide +kernel, rfl, by decide +kernel, by decide +kernel⟩
noncomputable abbrev s_read_name : Stmt := top 25
theorem sc_read_name : FnScope ["word"] ["word"] (defScope s_read_name) := ⟨rfl, rfl, rfl, by decide +kernel, rfl, by decide +kernel, by decide +kernel⟩
noncomputable abbrev s_is_name : Stmt := top 26
theorem sc_is_name : FnScope ["word"] ["word"] (defScope s_is_name) := ⟨rfl, rfl, rfl, by decide +kernel, rfl, by decide +kernel, by decide +kernel⟩
noncomputable abbrev s_is_number : Stmt := top 27
theorem sc_is_number : FnScope ["word"] ["word"] (defScope s_is_number) := ⟨rfl, rfl, rfl, by decide +kernel, rfl, by decide +kernel, by decide +kernel⟩
noncomputable abbrev s_read : Stmt := top 29
theorem sc_read : FnScope ["text", "parts", "number", "line", "row"] ["text"] (defScope s_read) := ⟨rfl, rfl, rfl, by decide +kernel, rfl, by decide +kernel, by decide +kernel⟩
noncomputable abbrev s_read_line : Stmt := top 30
theorem sc_read_line : FnScope ["line", "number"] ["line", "number"] (defScope s_read_line) := ⟨rfl, rfl, rfl, by decide +kernel, rfl, by decide +kernel, by decide +kernel⟩
noncomputable abbrev s_law_cell_at : Stmt := top 32
theorem sc_law_cell_at : FnScope ["_law_script", "_law_k"] ["_law_script", "_law_k"] (defScope s_law_cell_at) := ⟨rfl, rfl, rfl, by decide +kernel, rfl, by decide +kernel, by decide +kernel⟩
noncomputable abbrev s_law_name : Stmt := top 33
theorem sc_law_name : FnScope ["_law_cell", "_law_signs", "_law_number", "_law_size", "_law_name_here", "_law_k"] ["_law_cell"] (defScope s_law_name) := ⟨rfl, rfl, rfl, by decide +kernel, rfl, by decide +kernel, by decide +kernel⟩
noncomputable abbrev s_law_good : Stmt := top 34
theorem sc_law_good : FnScope ["_law_kind", "_law_name_here", "_law_some"] ["_law_kind", "_law_name_here"] (defScope s_law_good) := ⟨rfl, rfl, rfl, by decide +kernel, rfl, by decide +kernel, by decide +kernel⟩
noncomputable abbrev s_law_bad : Stmt := top 35
theorem sc_law_bad : FnScope ["_law_kind", "_law_name_here", "_law_some"] ["_law_kind", "_law_name_here"] (defScope s_law_bad) := ⟨rfl, rfl, rfl, by decide +kernel, rfl, by decide +kernel, by decide +kernel⟩
noncomputable abbrev s_law_lines : Stmt := top 36
theorem sc_law_lines : FnScope ["_law_script", "_law_lines_here", "_law_bad_here", "_law_heads", "_law_counts", "_law_cell", "_law_way", "_law_name_here", "_law_line"] ["_law_script"] (defScope s_law_lines) := ⟨rfl, rfl, rfl, by decide +kernel, rfl, by decide +kernel, by decide +kernel⟩
noncomputable abbrev s_law_read : Stmt := top 37
theorem sc_law_read : FnScope ["_law_text", "_law_parts", "e"] ["_law_text"] (defScope s_law_read) := ⟨rfl, rfl, rfl, by decide +kernel, rfl, by decide +kernel, by decide +kernel⟩
noncomputable abbrev s_law_alone : Stmt := top 38
theorem sc_law_alone : FnScope ["_law_text", "e"] ["_law_text"] (defScope s_law_alone) := ⟨rfl, rfl, rfl, by decide +kernel, rfl, by decide +kernel, by decide +kernel⟩
noncomputable abbrev s_law_right : Stmt := top 39
theorem sc_law_right : FnScope ["_law_found", "_law_bad_here", "_law_heads", "_law_counts", "_law_k", "_law_part"] ["_law_found", "_law_bad_here", "_law_heads", "_law_counts"] (defScope s_law_right) := ⟨rfl, rfl, rfl, by decide +kernel, rfl, by decide +kernel, by decide +kernel⟩
noncomputable abbrev s_law : Stmt := top 40
theorem sc_law : FnScope ["_law_script", "_law_lines_here", "_law_bad_here", "_law_heads", "_law_counts", "_law_text"] ["_law_script"] (defScope s_law) := ⟨rfl, rfl, rfl, by decide +kernel, rfl, by decide +kernel, by decide +kernel⟩
structure Adr where
  BundleError : Addr
  NoRow : Addr
  Twice : Addr
  NoPart : Addr
  NoName : Addr
structure XTxt (K : PySem.W.Frag) (mg : Str → Option Value) (A : Adr) : Prop where
  m_BundleError : mg "BundleError" = some (.ref A.BundleError)
  m_NoRow : mg "NoRow" = some (.ref A.NoRow)
  m_Twice : mg "Twice" = some (.ref A.Twice)
  m_NoPart : mg "NoPart" = some (.ref A.NoPart)
  m_NoName : mg "NoName" = some (.ref A.NoName)
  k_BundleError : XK1 K A.BundleError
  k_NoRow : XK1 K A.NoRow
  s_NoRow : PySem.W.mroIn K A.NoRow (.ref A.NoRow) = some true
  s_Base : PySem.W.mroIn K A.NoRow (.ref A.BundleError) = some true
  i_Twice : PySem.W.kitOne K (.ref A.NoRow) (.ref A.Twice) = some false
  i_NoPart : PySem.W.kitOne K (.ref A.NoRow) (.ref A.NoPart) = some false
  i_NoName : PySem.W.kitOne K (.ref A.NoRow) (.ref A.NoName) = some false
  x_NoRow : HasX K A.NoRow "NoRow.__init__" s_NoRow___init__
  f_NoRow : XF K A.NoRow "number"
  b_BundleError : XB K A.BundleError
structure Txt (K : PySem.W.Frag) (mg : Str → Option Value) : Prop where
  n_len : mg "len" = none
  n_range : mg "range" = none
  n_int : mg "int" = none
  n_bool : mg "bool" = none
  n_tuple : mg "tuple" = none
  n_list : mg "list" = none
  n_isinstance : mg "isinstance" = none
  n_all : mg "all" = none
  n_enumerate : mg "enumerate" = none
  g_LETTERS : ∃ u, mg "LETTERS" = some u ∧ RelV (.str "abcdefghijklmnopqrstuvwxyz") u
  g_FIGURES : ∃ u, mg "FIGURES" = some u ∧ RelV (.str "0123456789") u
  g_MOST_SIGNS : ∃ u, mg "MOST_SIGNS" = some u ∧ RelV (.int 8) u
  g_MOST_FIGURES : ∃ u, mg "MOST_FIGURES" = some u ∧ RelV (.int 60) u
  g_MOST_TERMS : ∃ u, mg "MOST_TERMS" = some u ∧ RelV (.int 6) u
  g_MOST_PAIRS : ∃ u, mg "MOST_PAIRS" = some u ∧ RelV (.int 6) u
  d_read_row : HasDef K mg "read_row" s_read_row
  d_read_bring : HasDef K mg "read_bring" s_read_bring
  d_read_pair : HasDef K mg "read_pair" s_read_pair
  d_read_set : HasDef K mg "read_set" s_read_set
  d_read_say : HasDef K mg "read_say" s_read_say
  d_read_ask : HasDef K mg "read_ask" s_read_ask
  d_has_when : HasDef K mg "has_when" s_has_when
  d_read_sum : HasDef K mg "read_sum" s_read_sum
  d_read_sign : HasDef K mg "read_sign" s_read_sign
  d_read_thing : HasDef K mg "read_thing" s_read_thing
  d_read_only_name : HasDef K mg "read_only_name" s_read_only_name
  d_read_name : HasDef K mg "read_name" s_read_name
  d_is_name : HasDef K mg "is_name" s_is_name
  d_is_number : HasDef K mg "is_number" s_is_number
  d_read : HasDef K mg "read" s_read
  d_read_line : HasDef K mg "read_line" s_read_line
  d_law_cell_at : HasDef K mg "_law_cell_at" s_law_cell_at
  d_law_name : HasDef K mg "_law_name" s_law_name
  d_law_good : HasDef K mg "_law_good" s_law_good
  d_law_bad : HasDef K mg "_law_bad" s_law_bad
  d_law_lines : HasDef K mg "_law_lines" s_law_lines
  d_law_read : HasDef K mg "_law_read" s_law_read
  d_law_alone : HasDef K mg "_law_alone" s_law_alone
  d_law_right : HasDef K mg "_law_right" s_law_right
  xs : ∃ A : Adr, XTxt K mg A
theorem pe_globS {X : Cx} {x : Str} {v : V} {pos : Pos} (h : ∃ u, X.mg x = some u ∧ RelV v u) (hg : Gl X x) (hd : (x == ("__debug__" : Str)) = false := by decide) : PE X (.Name x pos) (tC v) := by
  obtain ⟨u, hm, r⟩ := h
  exact pe_glob hg hm r hd
noncomputable def spIsName : Sp := fun vs H Q _ => ∃ x : Str, vs = [.str x] ∧ x.length ≤ 100000 ∧ ∀ H' : Hp, Same H H' → Q (.bl (isNm x.cps.toList)) H'
noncomputable def spIsNumber : Sp := fun vs H Q _ => ∃ x : Str, vs = [.str x] ∧ x.length ≤ 100000 ∧ ∀ H' : Hp, Same H H' → Q (.bl (isNumL x.cps.toList)) H'
noncomputable def spHasWhen : Sp := fun vs H Q _ => ∃ (l : Addr) (ws : List Str), vs = [.ref l] ∧ H l = some (.lst (ws.map V.str)) ∧ ((∃ (us : List Str) (w : Str), ws = us ++ [("when" : Str), w] ∧ us ≠ [] ∧ Q (.bl true) H) ∨ (ws.length ≤ 2 ∧ Q (.bl false) H) ∨ (∃ (us : List Str) (a b : Str), ws = us ++ [a, b] ∧ us ≠ [] ∧ a ≠ "when" ∧ Q (.bl false) H))
noncomputable def spCell (K : PySem.W.Frag) : Sp := fun vs H Q _ => ∃ (a : Addr) (ns : List Int) (k : Int), vs = [.ref a, .int k] ∧ SqL K H a (ns.map V.int) ∧ 0 ≤ k ∧ ∀ c : Int, Q (.int c) H
noncomputable def spName : Sp := fun vs H Q _ => ∃ c : Int, vs = [.int c] ∧ ∀ (x : Str) (H' : Hp), Same H H' → NameOk x → Q (.str x) H'
theorem cps_app (a b : Str) : (a ++ b).cps.toList = a.cps.toList ++ b.cps.toList := by
  show (a.cps ++ b.cps).toList = _
  simp
noncomputable def Thing (y : Str) : Prop := isNm y.cps.toList = true ∨ isNumL y.cps.toList = true
noncomputable instance (y : Str) : Decidable (Thing y) := inferInstanceAs (Decidable (_ ∨ _))
section
variable {P : Program} {w : World} {K : PySem.W.Frag} {mg : Str → Option Value} {base : Heap}
theorem ok_is_name (T : Txt K mg) : Cl P w K mg base 1 "is_name" ["word"] spIsName := by
  refine Cl.of T.d_is_name sc_is_name (fun vs H Q E h => ?_) (fun _ _ _ _ _ _ us hl => by obtain ⟨a, rfl⟩ := len1 hl; rfl) (fun f cdv A outer s H vs Q E hr h => ?_)
  · obtain ⟨x, rfl, _⟩ := h
    rfl
  · obtain ⟨x, rfl, hx, q⟩ := h
    have hsz : x.length ≤ sizeLine := by have : sizeLine = 16777216 := sizeLine_eq; omega
    refine ⟨_, (pss_cons (ps_if (PW.pt (pw_or (pt_not (pt_chain op_le op_le pe_int (pe_callB call_len_str (by rfl) T.n_len PySem.boot_len (pa_cons (pv 0) pa_nil)) (pe_globS T.g_MOST_SIGNS (by rfl)))) (pw_or1 (pt_cmpR op_notin_str (pe_ix ix_str (pv 0) pe_int (fun _ _ => rfl)) (pe_globS T.g_LETTERS (by rfl)) (by with_unfolding_all rfl)))))
        (pss_one (ps_ret pe_bl)) pss_nil)
      (pss_one (ps_ret (pe_callB (call_all rfl) (by rfl) T.n_all boot_all (pa_cons (pe_comp (M := ["sign"]) (ρ := [none]) (defScope s_is_name) ["word"] ⟨rfl, by decide +kernel, by decide +kernel, by decide +kernel, rfl, by decide +kernel, by decide +kernel⟩ (pi_str (pv 0)) (fun _ _ _ _ _ _ => (pg_name (i := 0) (show (["sign"] : List Str).Nodup by decide +kernel) rfl (Or.inl rfl))) (fun _ _ _ _ _ _ => pts_nil) (fun _ _ _ _ _ _ => (pe_or (pe_cmpR op_in_str (pv 0) (pe_globS T.g_LETTERS (by rfl)) (by with_unfolding_all rfl)) (pe_one (pe_cmpR op_in_str (pv 0) (pe_globS T.g_FIGURES (by rfl)) (by with_unfolding_all rfl)))))) pa_nil))))), ?_⟩
    refine ⟨_, rfl, x, rfl, hsz, _, _, rfl, rfl, _, rfl, ?_⟩
    have hlen : x.length = x.cps.toList.length := by simp [Str.length]
    by_cases h1 : (1 : Int) ≤ x.length
    · refine iteDP h1 ⟨_, _, rfl, rfl, _, rfl, ?_⟩
      by_cases h8 : (x.length : Int) ≤ 8
      · show if (!decide ((x.length : Int) ≤ 8)) = true then _ else _
        refine iteNS h8 ?_
        cases e : x.cps.toList with
        | nil => rw [e] at hlen; simp at hlen; omega
        | cons c r =>
        have hr7 : r.length ≤ 7 := by rw [e] at hlen; simp only [List.length_cons] at hlen; omega
        refine ⟨_, rfl, _, _, _, rfl, rfl, hsz, (by rw [e]; exact atI_nat (j := 0) (v := c) rfl), _, _, rfl, rfl, _, rfl, ?_⟩
        rw [in_let]
        cases hc : isLet c with
        | false =>
          refine iteT ?_
          have := q H (Same.refl H)
          rw [e, show isNm (c :: r) = false by show (isLet c && r.all isSg && decide (r.length ≤ 7)) = false; rw [hc]; rfl] at this
          exact this
        | true =>
        refine iteF ?_
        refine ⟨_, rfl, x, rfl, fun D hD => ?_⟩
        refine comp_by x.cps.size (fun i σ H2 => ∃ v0 : Option V, σ = [v0] ∧ Same H H2 ∧ H2 D = some (.lst ((x.cps.toList.take i).map fun c => V.bl (isSg c)))) ⟨_, rfl, (Same.refl H).new hD, upd_same⟩ ?_ ?_
        · rintro i σ H2 hi ⟨v0, rfl, s2, hD2⟩
          refine ⟨hi, ?_⟩
          rintro v H3 ⟨rfl, d, hd, rfl⟩
          refine ntG ?_
          refine ⟨_, rfl, _, _, rfl, rfl, _, rfl, ?_⟩
          have hlt : (x.cps.toList.take i).length = i := by
            have : x.cps.toList.length = x.cps.size := by simp
            rw [List.length_take]; omega
          have step : ∀ b : Bool, b = isSg d → ∃ ys, H3 D = some (.lst ys) ∧ ys.length < sizeLine ∧ ∃ v0 : Option V, [some (V.str ⟨#[d]⟩)] = [v0] ∧ Same H (upd H3 D (.lst (ys ++ [.bl b]))) ∧ upd H3 D (.lst (ys ++ [.bl b])) D = some (.lst ((x.cps.toList.take (i + 1)).map fun c => V.bl (isSg c))) := fun b hb => by
            refine ⟨_, hD2, small1000 (by rw [List.length_map, hlt]; have : x.cps.size = x.length := rfl; omega), _, rfl, s2.put hD, ?_⟩
            rw [upd_same, take_succ_get hd, hb]
            simp
          rw [in_let]
          cases hl : isLet d with
          | true => exact iteT (step true (by unfold isSg; rw [hl]; rfl))
          | false =>
            refine iteF ⟨_, rfl, _, _, rfl, rfl, ?_⟩
            rw [in_fig]
            exact step (isFig d) (by unfold isSg; rw [hl]; rfl)
        · rintro σ H2 ⟨v0, rfl, s2, hD2⟩
          refine ⟨Nat.le_refl _, D, x.cps.toList.map isSg, rfl, ?_, ?_⟩
          · rw [List.take_of_length_le (by simp)] at hD2
            rw [List.map_map]
            exact SqL.of hD2
          · have := q H2 s2
            rw [e] at this ⊢
            rw [show ((c :: r).map isSg).all id = isNm (c :: r) by
              show _ = (isLet c && r.all isSg && decide (r.length ≤ 7))
              rw [hc, decide_eq_true hr7, List.map_cons, List.all_cons, List.all_map]
              simp [isSg, hc]]
            exact this
      · show if (!decide ((x.length : Int) ≤ 8)) = true then _ else _
        rw [decide_eq_false h8]
        refine iteT ?_
        have := q H (Same.refl H)
        rw [show isNm x.cps.toList = false by
          cases e : x.cps.toList with
          | nil => rfl
          | cons c r =>
            show (isLet c && r.all isSg && decide (r.length ≤ 7)) = false
            rw [decide_eq_false (by rw [e] at hlen; simp only [List.length_cons] at hlen; omega)]
            simp] at this
        exact this
    · refine iteDN h1 ⟨_, rfl, ?_⟩
      refine iteT ?_
      have := q H (Same.refl H)
      rw [show isNm x.cps.toList = false by
        cases e : x.cps.toList with
        | nil => rfl
        | cons c r => rw [e] at hlen; simp only [List.length_cons] at hlen; omega] at this
      exact this
theorem ok_is_number (T : Txt K mg) : Cl P w K mg base 1 "is_number" ["word"] spIsNumber := by
  refine Cl.of T.d_is_number sc_is_number (fun vs H Q E h => ?_) (fun _ _ _ _ _ _ us hl => by obtain ⟨a, rfl⟩ := len1 hl; rfl) (fun f cdv A outer s H vs Q E hr h => ?_)
  · obtain ⟨x, rfl, _⟩ := h
    rfl
  · obtain ⟨x, rfl, hx, q⟩ := h
    have hsz : x.length ≤ sizeLine := by have : sizeLine = 16777216 := sizeLine_eq; omega
    have hlen : x.length = x.cps.toList.length := by simp [Str.length]
    have no : isNumL x.cps.toList = false → Q (.bl false) H := fun e => by
      have := q H (Same.refl H)
      rw [e] at this
      exact this
    refine ⟨_, (pss_cons (ps_if (PW.pt (pw_or (pt_not (pt_chain op_le op_le pe_int (pe_callB call_len_str (by rfl) T.n_len PySem.boot_len (pa_cons (pv 0) pa_nil)) (pe_globS T.g_MOST_FIGURES (by rfl)))) (pw_or1 (PW.pt (pw_and (pt_cmpR op_eq (pe_ix ix_str (pv 0) pe_int (fun _ _ => rfl)) pe_str (nomark _)) (pw_and1 (pt_cmpR op_ne (pv 0) pe_str (nomark _))))))))
        (pss_one (ps_ret pe_bl)) pss_nil)
      (pss_one (ps_ret (pe_callB (call_all rfl) (by rfl) T.n_all boot_all (pa_cons (pe_comp (M := ["sign"]) (ρ := [none]) (defScope s_is_number) ["word"] ⟨rfl, by decide +kernel, by decide +kernel, by decide +kernel, rfl, by decide +kernel, by decide +kernel⟩ (pi_str (pv 0)) (fun _ _ _ _ _ _ => (pg_name (i := 0) (show (["sign"] : List Str).Nodup by decide +kernel) rfl (Or.inl rfl))) (fun _ _ _ _ _ _ => pts_nil) (fun _ _ _ _ _ _ => (pe_cmpR op_in_str (pv 0) (pe_globS T.g_FIGURES (by rfl)) (by with_unfolding_all rfl)))) pa_nil))))), ?_⟩
    refine ⟨_, rfl, x, rfl, hsz, _, _, rfl, rfl, _, rfl, ?_⟩
    by_cases h1 : (1 : Int) ≤ x.length
    · refine iteDP h1 ⟨_, _, rfl, rfl, _, rfl, ?_⟩
      by_cases h8 : (x.length : Int) ≤ 60
      · show if (!decide ((x.length : Int) ≤ 60)) = true then _ else _
        refine iteNS h8 ?_
        cases e : x.cps.toList with
        | nil => rw [e] at hlen; simp at hlen; omega
        | cons c r =>
        have zero : ("0" : Str) = ⟨#[48]⟩ := by decide +kernel
        have hx0 : x = ⟨#[48]⟩ ↔ c :: r = [48] := ⟨fun z => by rw [z] at e; exact e.symm, fun z => str_ext (by rw [e, z])⟩
        refine ⟨_, rfl, _, _, _, rfl, rfl, hsz, (by rw [e]; exact atI_nat (j := 0) (v := c) rfl), rfl, _, rfl, ?_⟩
        have body : ¬ (c = 48 ∧ ¬ c :: r = [48]) → ∀ D, H D = none → _ := fun hg D hD =>
          comp_by (J := Its x) (g := gName 0) (tt := tNoTest) (te := tOp (fun x y H Q => ∃ i j, x = V.str i ∧ y = V.str j ∧ Q (V.bl !(Builtin.Str.occurrences j i 0 j.length 1).isEmpty) H) (tVar 0) (tC (V.str "0123456789"))) (Q := fun H2 => ∃ (p : Addr) (bs : List Bool), [V.ref D] = [.ref p] ∧ SqL K H2 p (bs.map V.bl) ∧ Q (.bl (bs.all id)) H2) (σ := [none]) (H := H) x.cps.size
            (fun i σ H2 => ∃ v0 : Option V, σ = [v0] ∧ Same H H2 ∧ H2 D = some (.lst ((x.cps.toList.take i).map fun c => V.bl (isFig c)))) ⟨_, rfl, (Same.refl H).new hD, upd_same⟩ (by
              rintro i σ H2 hi ⟨v0, rfl, s2, hD2⟩
              refine ⟨hi, ?_⟩
              rintro v H3 ⟨rfl, d, hd, rfl⟩
              refine ntG ?_
              refine ⟨_, rfl, _, _, rfl, rfl, ?_⟩
              have hlt : (x.cps.toList.take i).length = i := by
                have : x.cps.toList.length = x.cps.size := by simp
                rw [List.length_take]; omega
              refine ⟨_, hD2, small1000 (by rw [List.length_map, hlt]; have : x.cps.size = x.length := rfl; omega), _, rfl, s2.put hD, ?_⟩
              rw [in_fig, upd_same, take_succ_get hd]
              simp) (by
              rintro σ H2 ⟨v0, rfl, s2, hD2⟩
              refine ⟨Nat.le_refl _, D, x.cps.toList.map isFig, rfl, ?_, ?_⟩
              · rw [List.take_of_length_le (by simp)] at hD2
                rw [List.map_map]
                exact SqL.of hD2
              · have := q H2 s2
                rw [e] at this ⊢
                rw [show ((c :: r).map isFig).all id = isNumL (c :: r) by
                  unfold isNumL
                  rw [decide_eq_true (by simp), decide_eq_true (by rw [e] at hlen; omega), List.all_map]
                  rw [show (decide ((c :: r).head? = some 48) && !decide (c :: r = [48])) = false by
                    rw [Bool.and_eq_false_iff]
                    by_cases hc : c = 48
                    · refine .inr ?_
                      have : c :: r = [48] := by
                        by_cases z : c :: r = [48]
                        · exact z
                        · exact absurd ⟨hc, z⟩ hg
                      rw [decide_eq_true this]; rfl
                    · exact .inl (decide_eq_false (by simpa using hc))]
                  rfl]
                exact this)
        have bad : c = 48 ∧ ¬ c :: r = [48] → isNumL x.cps.toList = false := fun ⟨hc, hn⟩ => by
          rw [e]
          unfold isNumL
          rw [show (decide ((c :: r).head? = some 48) && !decide (c :: r = [48])) = true by rw [decide_eq_true (by simpa using hc), decide_eq_false hn]; rfl]
          simp
        by_cases hc : c = 48
        · rw [zero, hc]
          refine iteSE ⟨_, rfl, rfl, _, rfl, ?_⟩
          by_cases hn : c :: r = [48]
          · rw [hx0.mpr hn]
            refine iteNS rfl ?_
            rw [← hx0.mpr hn]
            exact ⟨_, rfl, x, rfl, body fun z => z.2 hn⟩
          · rw [decide_eq_false fun z => hn (hx0.mp (V.str.inj z))]
            exact iteT (no (bad ⟨hc, hn⟩))
        · rw [zero]
          refine iteSN (fun z => hc (by simpa using z)) ?_
          exact ⟨_, rfl, x, rfl, body fun z => hc z.1⟩
      · show if (!decide ((x.length : Int) ≤ 60)) = true then _ else _
        rw [decide_eq_false h8]
        refine iteT (no ?_)
        unfold isNumL
        rw [decide_eq_false (p := x.cps.toList.length ≤ 60) (by rw [← hlen]; omega)]
        simp
    · refine iteDN h1 ⟨_, rfl, ?_⟩
      refine iteT (no ?_)
      unfold isNumL
      rw [decide_eq_false (p := 1 ≤ x.cps.toList.length) (by rw [← hlen]; omega)]
      simp
theorem atI_m2 {α : Type} (us : List α) (a b : α) : atI (us ++ [a, b]) (-2) = some a := by
  have h : (us ++ [a, b]).length = us.length + 2 := by simp
  unfold atI ixN
  rw [h, if_neg (by omega), if_pos (by omega)]
  show (us ++ [a, b])[((-2 : Int) + ((us.length + 2 : Nat) : Int)).toNat]? = some a
  rw [show ((-2 : Int) + ((us.length + 2 : Nat) : Int)).toNat = us.length by omega]
  simp
theorem ok_has_when (T : Txt K mg) : Cl P w K mg base 1 "has_when" ["words"] spHasWhen := by
  refine Cl.of T.d_has_when sc_has_when (fun vs H Q E h => ?_) (fun _ _ _ _ _ _ us hl => by obtain ⟨a, rfl⟩ := len1 hl; rfl) (fun f cdv A outer s H vs Q E hr h => ?_)
  · obtain ⟨l, ws, rfl, _⟩ := h
    rfl
  · obtain ⟨l, ws, rfl, hl, q⟩ := h
    refine ⟨_, (pss_one (ps_ret (pe_and (pe_cmpR op_gt (pe_callB call_len_seq (by rfl) T.n_len PySem.boot_len (pa_cons (pv 0) pa_nil)) pe_int (nomark _)) (pe_one (pe_cmpR op_eq (pe_ix ix_list (pv 0) (pe_un un_neg pe_int) (fun _ _ => rfl)) pe_str (nomark _)))))), ?_⟩
    refine ⟨_, rfl, l, _, rfl, .inl (SqL.of hl), _, _, rfl, rfl, _, rfl, ?_⟩
    rcases q with ⟨us, z, rfl, hne, q⟩ | ⟨h2, q⟩ | ⟨us, a, b, rfl, hne, hab, q⟩
    · have h3 : 1 ≤ us.length := by cases us with | nil => exact absurd rfl hne | cons _ _ => simp
      rw [List.map_append] at hl
      refine iteDP (by simp; omega) ⟨_, rfl, _, rfl, l, _, _, _, rfl, rfl, SqL.of hl, atI_m2 .., rfl, ?_⟩
      rw [decide_eq_true rfl]
      exact q
    · exact iteDN (by simp; omega) q
    · have h3 : 1 ≤ us.length := by cases us with | nil => exact absurd rfl hne | cons _ _ => simp
      rw [List.map_append] at hl
      refine iteDP (by simp; omega) ⟨_, rfl, _, rfl, l, _, _, _, rfl, rfl, SqL.of hl, atI_m2 .., rfl, ?_⟩
      rw [decide_eq_false fun e => hab (V.str.inj e)]
      exact q
theorem for_range3 {lo c : Int} {n : Nat} {g : TG} {tb : TS} {D : Ends} {σ : L2.St} {H : Hp} (Pv : Nat → L2.St → Hp → Prop) (h0 : Pv 0 σ H)
    (hs : ∀ i σ H, i < n → Pv i σ H → g (.int (lo + i * c)) σ H fun σ2 H2 => tb { D with nx := Pv (i + 1), ct := Pv (i + 1), bk := D.nx } σ2 H2) (hd : ∀ σ H, Pv n σ H → D.nx σ H) :
    ∃ W : Nat → Nat → L2.St → Hp → Prop, (∃ m, W 0 m σ H) ∧ ∀ i m σ H, W i m σ H →
      ((Itr3 lo c n).stop i H ∧ D.nx σ H) ∨ ((Itr3 lo c n).go i H ∧ ∃ N : L2.St → Hp → Prop, (∀ σ' H', N σ' H' → ∃ m', m' < m ∧ W (i + 1) m' σ' H') ∧ ∀ x H', (Itr3 lo c n).yld i H x H' → g x σ H' fun σ2 H2 => tb { D with nx := N, ct := N, bk := D.nx } σ2 H2) := by
  refine ⟨fun i m σ H => m = n - i ∧ i ≤ n ∧ Pv i σ H, ⟨n, by simp, Nat.zero_le _, h0⟩, ?_⟩
  rintro i m σ H ⟨rfl, hi, p⟩
  by_cases hlt : i < n
  · refine .inr ⟨hlt, Pv (i + 1), fun σ' H' p' => ⟨n - (i + 1), by omega, rfl, hlt, p'⟩, fun x H' y => ?_⟩
    obtain ⟨e, y⟩ := y
    subst e y
    exact hs i σ _ hlt p
  · have e : i = n := by omega
    subst e
    exact .inl ⟨Nat.le_refl _, hd σ H p⟩
theorem rsize {n c : Nat} (hc : 0 < c) : (Builtin.Range.rangeSize 1 ((c * n + 1 : Nat) : Int) (c : Int)).toNat = n := by
  unfold Builtin.Range.rangeSize
  rw [if_pos (by omega)]
  by_cases hn : n = 0
  · subst hn
    rw [if_neg (by simp)]
    rfl
  · have h1 : 1 ≤ c * n := Nat.mul_pos hc (by omega)
    rw [if_pos (by omega)]
    have : (((c * n + 1 : Nat) : Int) - 1 - 1) / (c : Int) = ((n - 1 : Nat) : Int) := by
      have e : ((c * n + 1 : Nat) : Int) - 1 - 1 = ((c * (n - 1) + (c - 1) : Nat) : Int) := by
        have : c * n = c * (n - 1) + c := by
          rw [← Nat.mul_succ]
          congr 1
          omega
        omega
      rw [e, ← Int.natCast_ediv]
      congr 1
      rw [Nat.mul_add_div hc, Nat.div_eq_of_lt (by omega)]
      omega
    rw [this]
    omega
theorem cut_from (xs : List V) (k : Nat) (hk : k ≤ xs.length) : cutV xs (some (k : Int)) none = xs.drop k := by
  unfold cutV
  rw [HT.sIx_none, HT.sIx_nat, Nat.min_eq_left hk, List.take_of_length_le (by simp)]
theorem cut_mid (xs : List V) (i j : Nat) (hij : i ≤ j) (hj : j ≤ xs.length) : cutV xs (some (i : Int)) (some (j : Int)) = (xs.drop i).take (j - i) := by
  unfold cutV
  rw [HT.sIx_nat, HT.sIx_nat, Nat.min_eq_left hj, Nat.min_eq_left (Nat.le_trans hij hj)]
theorem cut_m2 (us : List V) (a b : V) : cutV (us ++ [a, b]) none (some (-2)) = us := by
  unfold cutV
  rw [HT.sIx_none]
  have e : HT.sIx (us ++ [a, b]).length (us ++ [a, b]).length (some (-2)) = us.length := by
    unfold HT.sIx
    simp only [List.length_append, List.length_cons, List.length_nil]
    split <;> omega
  rw [e]
  simp
noncomputable def valR : List Nat → Nat
  | [] => 0
  | c :: r => valR r * 10 + (c - 48)
theorem valR_pos : ∀ r : List Nat, r ≠ [] → (∀ c ∈ r, 48 ≤ c ∧ c ≤ 57) → r.getLast? ≠ some 48 → 1 ≤ valR r
  | [], h, _, _ => absurd rfl h
  | [c], _, hf, h => by
    have h1 := hf c List.mem_cons_self
    have : c ≠ 48 := fun z => h (by rw [z]; rfl)
    show 1 ≤ 0 * 10 + (c - 48)
    omega
  | c :: d :: r, _, hf, h => by
    have := valR_pos (d :: r) (by simp) (fun x hx => hf x (List.mem_cons_of_mem _ hx)) (by rw [List.getLast?_cons_cons] at h; exact h)
    show 1 ≤ valR (d :: r) * 10 + (c - 48)
    omega
theorem digitC : ∀ d : Nat, d < 10 → (Nat.digitChar d).toNat = 48 + d := by decide
theorem digits_valR : ∀ r : List Nat, r ≠ [] → (∀ c ∈ r, 48 ≤ c ∧ c ≤ 57) → (1 < r.length → r.getLast? ≠ some 48) → (Nat.toDigits 10 (valR r)).map Char.toNat = r.reverse
  | [], h, _, _ => absurd rfl h
  | [c], _, hf, _ => by
    have h1 := hf c List.mem_cons_self
    have e : valR [c] = c - 48 := by show 0 * 10 + (c - 48) = _; omega
    rw [e, Nat.toDigits_of_lt_base (by omega)]
    show [(Nat.digitChar (c - 48)).toNat] = [c]
    rw [digitC _ (by omega)]
    congr 1
    omega
  | c :: d :: r, _, hf, h => by
    have h1 := hf c List.mem_cons_self
    have hl := h (by simp)
    rw [List.getLast?_cons_cons] at hl
    have hf' : ∀ x ∈ d :: r, 48 ≤ x ∧ x ≤ 57 := fun x hx => hf x (List.mem_cons_of_mem _ hx)
    have h2 := valR_pos (d :: r) (by simp) hf' hl
    have ih := digits_valR (d :: r) (by simp) hf' fun _ => hl
    have e : valR (c :: d :: r) = valR (d :: r) * 10 + (c - 48) := rfl
    rw [e, Nat.toDigits_of_base_le (by decide) (by omega), List.map_append, show (valR (d :: r) * 10 + (c - 48)) / 10 = valR (d :: r) by omega, show (valR (d :: r) * 10 + (c - 48)) % 10 = c - 48 by omega, ih]
    show (d :: r).reverse ++ [(Nat.digitChar (c - 48)).toNat] = _
    rw [digitC _ (by omega), show 48 + (c - 48) = c by omega, List.reverse_cons (a := c)]
theorem valR_lt : ∀ r : List Nat, (∀ c ∈ r, 48 ≤ c ∧ c ≤ 57) → valR r < 10 ^ r.length
  | [], _ => by decide
  | c :: r, h => by
    have h1 := valR_lt r fun x hx => h x (List.mem_cons_of_mem _ hx)
    have h2 := h c List.mem_cons_self
    show valR r * 10 + (c - 48) < 10 ^ (r.length + 1)
    rw [Nat.pow_succ]
    omega
theorem num_of {x : Str} (h : isNumL x.cps.toList = true) : ∃ n : Int, ThOk (.num n) ∧ thS (.num n) = x := by
  unfold isNumL at h
  simp only [Bool.and_eq_true, decide_eq_true_eq, List.all_eq_true, Bool.not_eq_true', Bool.and_eq_false_iff, decide_eq_false_iff_not] at h
  obtain ⟨⟨⟨h1, h60⟩, hz⟩, hf⟩ := h
  have hf' : ∀ c ∈ x.cps.toList.reverse, 48 ≤ c ∧ c ≤ 57 := fun c hc => by
    have := hf c (List.mem_reverse.mp hc)
    unfold isFig at this
    simpa using this
  have hlast : 1 < x.cps.toList.reverse.length → x.cps.toList.reverse.getLast? ≠ some 48 := fun hl e => by
    rw [List.getLast?_reverse] at e
    rw [List.length_reverse] at hl
    rcases hz with z | z
    · exact z e
    · have z' : x.cps.toList = [48] := by simpa using z
      rw [z'] at hl
      simp at hl
  have hd := digits_valR x.cps.toList.reverse (fun z => by have := congrArg List.length z; rw [List.length_reverse] at this; simp at this; rw [this] at h1; simp at h1) hf' hlast
  have hlt := valR_lt x.cps.toList.reverse hf'
  have hlt2 : valR x.cps.toList.reverse < 10 ^ 60 := Nat.lt_of_lt_of_le hlt (Nat.pow_le_pow_right (by decide) (by rw [List.length_reverse]; exact h60))
  rw [List.reverse_reverse] at hd
  generalize valR x.cps.toList.reverse = v at hd hlt2
  have h0 : (0 : Int) ≤ (v : Int) := by omega
  have hv : (v : Int) < 10 ^ 60 := by
    have : ((10 ^ 60 : Nat) : Int) = 10 ^ 60 := by norm_cast
    omega
  refine ⟨(v : Int), ⟨h0, hv⟩, str_ext ?_⟩
  have := (num_text h0 hv).1
  rw [show ((v : Int)).toNat = v by omega, hd] at this
  exact this
noncomputable def Ref (A : Adr) (H : Hp) (E : XK) : Prop := ∀ (H' : Hp) (dx : Addr), Same H H' → H' dx = some (.xd [("number", .int 0)]) → E (.ref A.NoRow) (some dx) H'
theorem Ref.on {A : Adr} {H H1 : Hp} {E : XK} (h : Ref A H E) (s : Same H H1) : Ref A H1 E := fun H' dx s' hd => h H' dx (s.trans s') hd
theorem Ref.rais {A : Adr} {H : Hp} {E : XK} (h : Ref A H E) : ∃ v, [V.int 0] = [v] ∧ ∀ dx, H dx = none → E (.ref A.NoRow) (some dx) (upd H dx (.xd [("number", v)])) := ⟨_, rfl, fun dx hd => h _ dx ((Same.refl H).new hd) upd_same⟩
theorem ok_initN {A : Adr} (hX : XTxt K mg A) : XCl P w K mg base 1 A.NoRow "number" ["self", "number"] := by
  refine XCl.of hX.x_NoRow sc_NoRow___init__ rfl (fun _ _ _ _ _ _ us hl => by obtain ⟨a, b, rfl⟩ := len2 hl; rfl) (fun f' cdv A0 outer s H vs Q E xi hr h => ?_)
  obtain ⟨e, v, rfl, he, q⟩ := h
  refine ⟨_, (pss_cons (ps_initB (by rfl) hX.m_BundleError hX.b_BundleError (pa_cons (pv 0) (pa_cons (pv 1) pa_nil)))
      (pss_one (ps_fldX (pv 0) (pv 1) rfl))), ?_⟩
  exact ⟨_, rfl, _, rfl, e, A.NoRow, f', v, rfl, he, xi, _, rfl, _, rfl, e, A.NoRow, rfl, he, hX.k_NoRow, hX.f_NoRow, fun dx hdx => q dx hdx⟩
noncomputable def Wok (ws : List Str) : Prop := ws.length ≤ 900 ∧ ∀ x ∈ ws, x.length ≤ 900
theorem Wok.mem {ws : List Str} (h : Wok ws) {i : Nat} {x : Str} (hx : ws[i]? = some x) : x.length ≤ 900 := h.2 x (List.mem_of_getElem? hx)
theorem strs_at {ws : List Str} {i : Nat} {x : Str} (h : ws[i]? = some x) : atI (ws.map V.str) (i : Int) = some (.str x) := atI_nat (by rw [List.getElem?_map, h]; rfl)
theorem inV_strs (x : Str) : ∀ l : List Str, inV (.str x) (l.map V.str) = decide (x ∈ l)
  | [] => by simp [inV]
  | a :: r => by
    have ih := inV_strs x r
    unfold inV at ih ⊢
    rw [List.map_cons, List.any_cons, ih]
    by_cases e : a = x
    · subst e; simp [eqV]
    · have h2 : ¬ x = a := fun z => e z.symm
      simp [eqV, e, h2]
noncomputable def RefN (A : Adr) (H : Hp) (E : XK) (ok : Prop) : Prop := ¬ ok → Ref A H E
theorem RefN.on {A : Adr} {H H1 : Hp} {E : XK} {ok ok' : Prop} (h : RefN A H E ok) (s : Same H H1) (k : ok → ok') : RefN A H1 E ok' := fun z => (h fun y => z (k y)).on s
noncomputable def Any (H : Hp) (Q : VK) : Prop := ∀ (v : V) (H' : Hp), Same H H' → Q v H'
noncomputable def AnyK (k : Str) (H : Hp) (Q : VK) : Prop := ∀ (r : Addr) (xs : List V) (H' : Hp), Same H H' → H' r = some (.tup (.str k :: xs)) → Q (.ref r) H'
noncomputable def spName1 (A : Adr) : Sp := fun vs H Q E => ∃ x : Str, vs = [.str x] ∧ x.length ≤ 900 ∧ (NameOk x → ∀ (v : V) (H' : Hp), Same H H' → v = .str x → Q v H') ∧ RefN A H E (NameOk x)
theorem ok_name1 (T : Txt K mg) {A : Adr} (hX : XTxt K mg A) : L2.ClE P w K mg base 3 "read_name" ["word"] (spName1 A) := by
  have C_is_name := ok_is_name (P := P) (w := w) (base := base) T
  have X_NoRow := ok_initN (P := P) (w := w) (base := base) hX
  refine ClE.of T.d_read_name sc_read_name (fun vs H Q E h => ?_) (fun _ _ _ _ _ _ us hl => by obtain ⟨a, rfl⟩ := len1 hl; rfl) (fun f cdv A0 outer s H vs Q E hr h => ?_)
  · obtain ⟨x, rfl, _⟩ := h
    rfl
  · obtain ⟨x, rfl, hx, q, hE⟩ := h
    refine ⟨_, (pss_cons (ps_if (pt_not (pt_val (pe_fn C_is_name hr (by rfl) (pa_cons (pv 0) pa_nil))))
        (pss_one (ps_raise1 X_NoRow hr (by rfl) hX.m_NoRow hX.k_NoRow (pa_cons pe_int pa_nil))) pss_nil)
      (pss_one (ps_ret (pv 0)))), ?_⟩
    refine ⟨_, rfl, x, rfl, (by omega), fun H1 s1 => ⟨_, rfl, ?_⟩⟩
    cases e : isNm x.cps.toList with
    | true => exact iteF ⟨_, rfl, q e _ H1 s1 rfl⟩
    | false => exact iteT ((hE fun z => by rw [show isNm x.cps.toList = true from z] at e; cases e).on s1).rais
noncomputable def spThing1 (A : Adr) : Sp := fun vs H Q E => ∃ x : Str, vs = [.str x] ∧ x.length ≤ 900 ∧ (Thing x → Any H Q) ∧ RefN A H E (Thing x)
theorem ok_thing1 (T : Txt K mg) {A : Adr} (hX : XTxt K mg A) : L2.ClE P w K mg base 4 "read_thing" ["word"] (spThing1 A) := by
  have C_is_number := ok_is_number (P := P) (w := w) (base := base) T
  have C_read_name := ok_name1 (P := P) (w := w) (base := base) T hX
  refine ClE.of T.d_read_thing sc_read_thing (fun vs H Q E h => ?_) (fun _ _ _ _ _ _ us hl => by obtain ⟨a, rfl⟩ := len1 hl; rfl) (fun f cdv A0 outer s H vs Q E hr h => ?_)
  · obtain ⟨x, rfl, _⟩ := h
    rfl
  · obtain ⟨x, rfl, hx, q, hE⟩ := h
    refine ⟨_, (pss_cons (ps_if (pt_val (pe_fn C_is_number hr (by rfl) (pa_cons (pv 0) pa_nil)))
        (pss_one (ps_ret (pe_callTy call_int_text (by rfl) T.n_int boot_int (pa_cons (pv 0) pa_nil)))) pss_nil)
      (pss_one (ps_ret (pe_fnE C_read_name passE hr (by rfl) (pa_cons (pv 0) pa_nil))))), ?_⟩
    refine ⟨_, rfl, _, rfl, (by omega), fun H1 s1 => ⟨_, rfl, ?_⟩⟩
    cases e : isNumL x.cps.toList with
    | true =>
      obtain ⟨n, hok, en⟩ := num_of e
      exact iteT ⟨_, rfl, _, n, rfl, (by rw [← en]; exact (num_reads hok).1), (by rw [← en]; exact (num_reads hok).2), q (.inr e) _ H1 s1⟩
    | false => exact iteF ⟨_, rfl, x, rfl, hx, (fun hn v H2 s2 _ => q (.inl hn) v H2 (s1.trans s2)), hE.on s1 fun z => z.elim id fun y => by rw [y] at e; cases e⟩
noncomputable def Sg1 (x : Str) : Prop := x = "+" ∨ x = "-"
noncomputable def spSign1 (A : Adr) : Sp := fun vs H Q E => ∃ x : Str, vs = [.str x] ∧ (Sg1 x → ∀ v, Q v H) ∧ RefN A H E (Sg1 x)
theorem ok_sign1 (T : Txt K mg) {A : Adr} (hX : XTxt K mg A) : L2.ClE P w K mg base 3 "read_sign" ["word"] (spSign1 A) := by
  have X_NoRow := ok_initN (P := P) (w := w) (base := base) hX
  refine ClE.of T.d_read_sign sc_read_sign (fun vs H Q E h => ?_) (fun _ _ _ _ _ _ us hl => by obtain ⟨a, rfl⟩ := len1 hl; rfl) (fun f cdv A0 outer s H vs Q E hr h => ?_)
  · obtain ⟨x, rfl, _⟩ := h
    rfl
  · obtain ⟨x, rfl, q, hE⟩ := h
    refine ⟨_, (pss_cons (ps_if (pt_cmpR op_eq (pv 0) pe_str (nomark _))
        (pss_one (ps_ret pe_int)) pss_nil)
      (pss_cons (ps_if (pt_cmpR op_eq (pv 0) pe_str (nomark _))
        (pss_one (ps_ret (pe_un un_neg pe_int))) pss_nil)
      (pss_one (ps_raise1 X_NoRow hr (by rfl) hX.m_NoRow hX.k_NoRow (pa_cons pe_int pa_nil))))), ?_⟩
    by_cases e : x = "+"
    · subst e
      exact ⟨_, rfl, rfl, _, rfl, iteSE (q (.inl rfl) _)⟩
    · refine ⟨_, rfl, rfl, _, rfl, iteSN e ?_⟩
      by_cases e2 : x = "-"
      · subst e2
        exact ⟨_, rfl, rfl, _, rfl, iteSE ⟨_, rfl, q (.inr rfl) _⟩⟩
      · exact ⟨_, rfl, rfl, _, rfl, iteSN e2 (hE fun z => z.elim e e2).rais⟩
noncomputable def Only1 (ws : List Str) : Prop := ∃ x, ws = [x] ∧ NameOk x
noncomputable def spWs (A : Adr) (ok : List Str → Prop) : Sp := fun vs H Q E => ∃ (l : Addr) (ws : List Str), vs = [.ref l] ∧ H l = some (.lst (ws.map V.str)) ∧ Wok ws ∧ (ok ws → Any H Q) ∧ RefN A H E (ok ws)
noncomputable def spOnly1 (A : Adr) : Sp := fun vs H Q E => ∃ (l : Addr) (ws : List Str), vs = [.ref l] ∧ H l = some (.lst (ws.map V.str)) ∧ Wok ws ∧ (Only1 ws → ∀ (v : V) (H' : Hp), Same H H' → (∃ x, ws = [x] ∧ v = .str x) → Q v H') ∧ RefN A H E (Only1 ws)
noncomputable def spWsK (A : Adr) (k : Str) (ok : List Str → Prop) : Sp := fun vs H Q E => ∃ (l : Addr) (ws : List Str), vs = [.ref l] ∧ H l = some (.lst (ws.map V.str)) ∧ Wok ws ∧ (ok ws → AnyK k H Q) ∧ RefN A H E (ok ws)
theorem ok_only1 (T : Txt K mg) {A : Adr} (hX : XTxt K mg A) : L2.ClE P w K mg base 4 "read_only_name" ["words"] (spOnly1 A) := by
  have C_read_name := ok_name1 (P := P) (w := w) (base := base) T hX
  have X_NoRow := ok_initN (P := P) (w := w) (base := base) hX
  refine ClE.of T.d_read_only_name sc_read_only_name (fun vs H Q E h => ?_) (fun _ _ _ _ _ _ us hl => by obtain ⟨a, rfl⟩ := len1 hl; rfl) (fun f cdv A0 outer s H vs Q E hr h => ?_)
  · obtain ⟨l, x, rfl, _⟩ := h
    rfl
  · obtain ⟨l, ws, rfl, hl, hw, q, hE⟩ := h
    refine ⟨_, (pss_cons (ps_if (pt_cmpR op_ne (pe_callB call_len_seq (by rfl) T.n_len PySem.boot_len (pa_cons (pv 0) pa_nil)) pe_int (nomark _))
        (pss_one (ps_raise1 X_NoRow hr (by rfl) hX.m_NoRow hX.k_NoRow (pa_cons pe_int pa_nil))) pss_nil)
      (pss_one (ps_ret (pe_fnE C_read_name passE hr (by rfl) (pa_cons (pe_ix ix_list (pv 0) pe_int (fun _ _ => rfl)) pa_nil))))), ?_⟩
    refine ⟨_, rfl, l, _, rfl, .inl (SqL.of hl), rfl, _, rfl, ?_⟩
    rw [List.length_map]
    match ws, hl, hw, q, hE with
    | [x], hl, hw, q, hE => exact iteNS rfl ⟨_, rfl, l, _, _, _, rfl, rfl, SqL.of hl, atI_nat (j := 0) rfl, x, rfl, hw.2 x List.mem_cons_self, (fun hn v H' s e => q ⟨x, rfl, hn⟩ v H' s ⟨x, rfl, e⟩), hE.on (Same.refl H) fun ⟨y, e, h⟩ => by cases e; exact h⟩
    | [], hl, hw, q, hE => exact iteT (hE fun ⟨y, e, _⟩ => by cases e).rais
    | a :: b :: r, hl, hw, q, hE =>
      show if (!decide (V.int ((r.length + 1 + 1 : Nat) : Int) = V.int 1)) = true then _ else _
      rw [decide_eq_false (fun z => by have := V.int.inj z; omega)]
      exact iteT (hE fun ⟨y, e, _⟩ => by cases e).rais
noncomputable def Pair1 (ws : List Str) : Prop := ∃ g o, ws = [g, ("as" : Str), o] ∧ NameOk g ∧ NameOk o
theorem ok_pair1 (T : Txt K mg) {A : Adr} (hX : XTxt K mg A) : L2.ClE P w K mg base 4 "read_pair" ["words"] (fun vs H Q E => ∃ (l : Addr) (ws : List Str), vs = [.ref l] ∧ H l = some (.lst (ws.map V.str)) ∧ Wok ws ∧ (Pair1 ws → ∀ (p : Addr) (xs : List V) (H' : Hp), Same H H' → H' p = some (.tup xs) → xs.length = 2 → Q (.ref p) H') ∧ RefN A H E (Pair1 ws)) := by
  have C_read_name := ok_name1 (P := P) (w := w) (base := base) T hX
  have X_NoRow := ok_initN (P := P) (w := w) (base := base) hX
  refine ClE.of T.d_read_pair sc_read_pair (fun vs H Q E h => ?_) (fun _ _ _ _ _ _ us hl => by obtain ⟨a, rfl⟩ := len1 hl; rfl) (fun f cdv A0 outer s H vs Q E hr h => ?_)
  · obtain ⟨l, x, rfl, _⟩ := h
    rfl
  · obtain ⟨l, ws, rfl, hl, hw, q, hE⟩ := h
    refine ⟨_, (pss_cons (ps_if (PW.pt (pw_or (pt_cmpR op_ne (pe_callB call_len_seq (by rfl) T.n_len PySem.boot_len (pa_cons (pv 0) pa_nil)) pe_int (nomark _)) (pw_or1 (pt_cmpR op_ne (pe_ix ix_list (pv 0) pe_int (fun _ _ => rfl)) pe_str (nomark _)))))
        (pss_one (ps_raise1 X_NoRow hr (by rfl) hX.m_NoRow hX.k_NoRow (pa_cons pe_int pa_nil))) pss_nil)
      (pss_one (ps_ret (pe_tup (pa_cons (pe_fnE C_read_name passE hr (by rfl) (pa_cons (pe_ix ix_list (pv 0) pe_int (fun _ _ => rfl)) pa_nil)) (pa_cons (pe_fnE C_read_name passE hr (by rfl) (pa_cons (pe_ix ix_list (pv 0) pe_int (fun _ _ => rfl)) pa_nil)) pa_nil)))))), ?_⟩
    refine ⟨_, rfl, l, _, rfl, .inl (SqL.of hl), rfl, _, rfl, ?_⟩
    rw [List.length_map]
    by_cases h3 : ws.length = 3
    · obtain ⟨g, m, o, rfl⟩ : ∃ a b c, ws = [a, b, c] := by
        match ws, h3 with
        | [a, b, c], _ => exact ⟨a, b, c, rfl⟩
      refine iteNS rfl ⟨_, rfl, l, _, _, _, rfl, rfl, SqL.of hl, atI_nat (j := 1) rfl, rfl, _, rfl, ?_⟩
      by_cases e : m = "as"
      · subst e
        refine iteNS rfl ?_
        refine ⟨_, rfl, l, _, _, _, rfl, rfl, SqL.of hl, atI_nat (j := 0) rfl, g, rfl, hw.2 g (by simp), (fun hg v1 H1 s1 _ => ?_), hE.on (Same.refl H) fun ⟨g', o', e, h, _⟩ => by cases e; exact h⟩
        refine ⟨_, rfl, l, _, _, _, rfl, rfl, SqL.of (s1 _ _ hl), atI_nat (j := 2) rfl, o, rfl, hw.2 o (by simp), (fun ho v2 H2 s2 _ => ⟨(by show 2 ≤ sizeLine; decide), fun p hp => ?_⟩), hE.on s1 fun ⟨g', o', e, _, h⟩ => by cases e; exact h⟩
        exact q ⟨g, o, rfl, hg, ho⟩ p _ _ ((s1.trans s2).new hp) upd_same rfl
      · show if (!decide (V.str m = V.str "as")) = true then _ else _
        rw [decide_eq_false (fun z => e (V.str.inj z))]
        exact iteT (hE fun ⟨g', o', e2, _⟩ => by cases e2; exact e rfl).rais
    · show if (!decide (V.int (ws.length : Int) = V.int 3)) = true then _ else _
      rw [decide_eq_false (fun z => h3 (by have := V.int.inj z; omega))]
      exact iteT (hE fun ⟨g', o', e2, _⟩ => h3 (by rw [e2]; rfl)).rais
structure Sum1 (ws : List Str) : Prop where
  odd : ws.length % 2 = 1
  few : ws.length ≤ 11
  hd : ∀ x, ws[0]? = some x → Thing x
  tl : ∀ i x y, ws[2 * i + 1]? = some x → ws[2 * i + 2]? = some y → Sg1 x ∧ Thing y
theorem ok_sum1 (T : Txt K mg) {A : Adr} (hX : XTxt K mg A) : L2.ClE P w K mg base 5 "read_sum" ["words"] (spWs A Sum1) := by
  have C_read_thing := ok_thing1 (P := P) (w := w) (base := base) T hX
  have C_read_sign := ok_sign1 (P := P) (w := w) (base := base) T hX
  have X_NoRow := ok_initN (P := P) (w := w) (base := base) hX
  refine ClE.of T.d_read_sum sc_read_sum (fun vs H Q E h => ?_) (fun _ _ _ _ _ _ us hl => by obtain ⟨a, rfl⟩ := len1 hl; rfl) (fun f cdv A0 outer s H vs Q E hr h => ?_)
  · obtain ⟨l, ws, rfl, _⟩ := h
    rfl
  · obtain ⟨l, ws, rfl, hl, hw, q, hE⟩ := h
    refine ⟨_, (pss_cons (ps_if (PW.pt (pw_or (pt_cmpR op_ne (pe_op op_mod (pe_callB call_len_seq (by rfl) T.n_len PySem.boot_len (pa_cons (pv 0) pa_nil)) pe_int) pe_int (nomark _)) (pw_or1 (pt_cmpR op_gt (pe_callB call_len_seq (by rfl) T.n_len PySem.boot_len (pa_cons (pv 0) pa_nil)) (pe_op op_sub (pe_op op_mul pe_int (pe_globS T.g_MOST_TERMS (by rfl))) pe_int) (nomark _)))))
        (pss_one (ps_raise1 X_NoRow hr (by rfl) hX.m_NoRow hX.k_NoRow (pa_cons pe_int pa_nil))) pss_nil)
      (pss_cons (ps_set (i := 1) sc_read_sum.nd rfl (Or.inl rfl) (pe_lst (pa_cons (pe_tup (pa_cons pe_int (pa_cons (pe_fnE C_read_thing passE hr (by rfl) (pa_cons (pe_ix ix_list (pv 0) pe_int (fun _ _ => rfl)) pa_nil)) pa_nil))) pa_nil)))
      (pss_cons (ps_for passOwn rfl (pi_range3 (by rfl) T.n_range (pa_cons pe_int (pa_cons (pe_callB call_len_seq (by rfl) T.n_len PySem.boot_len (pa_cons (pv 0) pa_nil)) (pa_cons pe_int pa_nil)))) (pg_name (i := 2) sc_read_sum.nd rfl (Or.inl rfl))
        (pss_one (ps_expr (pe_bm PySem.F.plainAttrs_list PySem.F.slot_list_append PySem.F.type_list_append mt_append (pv 1) (pa_cons (pe_tup (pa_cons (pe_fnE C_read_sign passE hr (by rfl) (pa_cons (pe_ix ix_list (pv 0) (pv 2) (fun _ _ => rfl)) pa_nil)) (pa_cons (pe_fnE C_read_thing passE hr (by rfl) (pa_cons (pe_ix ix_list (pv 0) (pe_op op_add (pv 2) pe_int) (fun _ _ => rfl)) pa_nil)) pa_nil))) pa_nil)))))
      (pss_one (ps_ret (pe_callTy call_tuple_of (by rfl) T.n_tuple boot_tuple (pa_cons (pv 1) pa_nil))))))), ?_⟩
    refine ⟨_, rfl, l, _, rfl, .inl (SqL.of hl), _, _, rfl, rfl, (by show (0 : Int) < 2; decide), rfl, _, rfl, ?_⟩
    rw [List.length_map]
    by_cases hodd : ws.length % 2 = 1
    · refine iteNS (show V.int ((ws.length : Int) % 2) = V.int 1 from congrArg V.int (by omega)) ?_
      refine ⟨_, rfl, l, _, rfl, .inl (SqL.of hl), _, _, rfl, rfl, .inl ⟨by decide, by decide⟩, _, _, rfl, rfl, _, _, rfl, rfl, _, rfl, ?_⟩
      rw [List.length_map]
      by_cases hmany : ws.length ≤ 11
      · refine iteDN (by omega) ?_
        have h0 : ws[0]? = some (ws[0]'(by omega)) := List.getElem?_eq_getElem (by omega)
        refine ⟨_, rfl, l, _, _, _, rfl, rfl, SqL.of hl, strs_at h0, _, rfl, hw.mem h0, (fun ht0 v0 H1 s1 => ⟨(by show 2 ≤ sizeLine; decide), fun a ha => ⟨(by show 1 ≤ sizeLine; decide), fun d hd => ?_⟩⟩), hE.on (Same.refl H) fun z => z.hd _ h0⟩
        have s2 := (s1.new (o := .tup [.int 1, v0]) ha).new (o := .lst [.ref a]) hd
        have hd0 : H d = none := (s1.new ha).free hd
        refine ⟨_, rfl, l, _, rfl, .inl (SqL.of (s2 _ _ hl)), 1, _, 2, rfl, ⟨by decide, by decide, by rw [List.length_map]; omega, by rw [List.length_map]; omega, by decide, by decide⟩, ?_⟩
        obtain ⟨n, hn⟩ : ∃ n, ws.length = 2 * n + 1 := ⟨ws.length / 2, by omega⟩
        have hrs : (Builtin.Range.rangeSize 1 ((ws.map V.str).length : Int) 2).toNat = n := by
          rw [List.length_map, hn]
          exact rsize (c := 2) (by decide)
        rw [hrs]
        refine for_range3 (fun i σ H2 => ∃ (vs : List V) (v2 : Option V), σ = [some (.ref l), some (.ref d), v2] ∧ Same H H2 ∧ H2 d = some (.lst vs) ∧ vs.length = i + 1 ∧ ∀ j x y, j < i → ws[2 * j + 1]? = some x → ws[2 * j + 2]? = some y → Sg1 x ∧ Thing y)
          ⟨[.ref a], none, rfl, s2, upd_same, rfl, fun j x y h => absurd h (Nat.not_lt_zero _)⟩ ?_ ?_
        · rintro i σ H2 hi ⟨vs, v2, rfl, s3, hd3, hvl, hall⟩
          have g1 : ws[2 * i + 1]? = some (ws[2 * i + 1]'(by omega)) := List.getElem?_eq_getElem (by omega)
          have g2 : ws[2 * i + 2]? = some (ws[2 * i + 2]'(by omega)) := List.getElem?_eq_getElem (by omega)
          refine ⟨_, rfl, .inl ⟨rfl, _, SqL.of hd3⟩, _, rfl, _, rfl, l, _, _, _, rfl, rfl, SqL.of (s3 _ _ hl), ?_, ws[2 * i + 1]'(by omega), rfl, (fun hz v3 => ?_), hE.on s3 fun z => (z.tl i _ _ g1 g2).1⟩
          · rw [show (1 : Int) + i * 2 = ((2 * i + 1 : Nat) : Int) by omega]
            exact strs_at g1
          refine ⟨_, rfl, _, rfl, _, _, rfl, rfl, l, _, _, _, rfl, rfl, SqL.of (s3 _ _ hl), ?_, ws[2 * i + 2]'(by omega), rfl, hw.mem g2, (fun hth v4 H4 s4 => ?_), hE.on s3 fun z => (z.tl i _ _ g1 g2).2⟩
          · rw [show (1 : Int) + i * 2 + 1 = ((2 * i + 2 : Nat) : Int) by omega]
            exact strs_at g2
          refine ⟨(by show 2 ≤ sizeLine; decide), fun b hb => ⟨d, _, _, rfl, rfl, upd_keep (s4 _ _ hd3) hb, small1000 (by omega), ?_⟩⟩
          refine ⟨vs ++ [.ref b], _, rfl, ((s3.trans s4).new hb).put hd0, upd_same, by rw [List.length_append, hvl]; rfl, fun j x y hj e1 e2 => ?_⟩
          by_cases e : j = i
          · subst e
            rw [g1] at e1
            rw [g2] at e2
            cases e1
            cases e2
            exact ⟨hz, hth⟩
          · exact hall j x y (by omega) e1 e2
        · rintro σ H2 ⟨vs, v2, rfl, s3, hd3, hvl, hall⟩
          refine ⟨_, rfl, d, _, rfl, .inl ⟨SqL.of hd3, fun t gt => q ⟨hodd, hmany, fun x hx => ?_, fun i x y e1 e2 => ?_⟩ _ _ (s3.new gt)⟩⟩
          · rw [h0] at hx
            cases hx
            exact ht0
          · have := (List.getElem?_eq_some_iff.mp e2).1
            exact hall i x y (by omega) e1 e2
      · exact iteDP (by omega) (hE fun z => hmany z.few).rais
    · show if (!decide (V.int ((ws.length : Int) % 2) = V.int 1)) = true then _ else _
      rw [decide_eq_false (fun z => hodd (by have := V.int.inj z; omega))]
      exact iteT (hE fun z => hodd z.odd).rais
noncomputable def Set1 (ws : List Str) : Prop := ∃ o us, ws = o :: ("=" : Str) :: us ∧ us ≠ [] ∧ NameOk o ∧ Sum1 us
theorem Wok.drop {ws : List Str} (h : Wok ws) (k : Nat) : Wok (ws.drop k) := ⟨by rw [List.length_drop]; have := h.1; omega, fun x hx => h.2 x (List.mem_of_mem_drop hx)⟩
theorem ok_set1 (T : Txt K mg) {A : Adr} (hX : XTxt K mg A) : L2.ClE P w K mg base 6 "read_set" ["words"] (spWsK A "set" Set1) := by
  have C_read_name := ok_name1 (P := P) (w := w) (base := base) T hX
  have C_read_sum := ok_sum1 (P := P) (w := w) (base := base) T hX
  have X_NoRow := ok_initN (P := P) (w := w) (base := base) hX
  refine ClE.of T.d_read_set sc_read_set (fun vs H Q E h => ?_) (fun _ _ _ _ _ _ us hl => by obtain ⟨a, rfl⟩ := len1 hl; rfl) (fun f cdv A0 outer s H vs Q E hr h => ?_)
  · obtain ⟨l, ws, rfl, _⟩ := h
    rfl
  · obtain ⟨l, ws, rfl, hl, hw, q, hE⟩ := h
    refine ⟨_, (pss_cons (ps_if (PW.pt (pw_or (pt_cmpR op_lt (pe_callB call_len_seq (by rfl) T.n_len PySem.boot_len (pa_cons (pv 0) pa_nil)) pe_int (nomark _)) (pw_or1 (pt_cmpR op_ne (pe_ix ix_list (pv 0) pe_int (fun _ _ => rfl)) pe_str (nomark _)))))
        (pss_one (ps_raise1 X_NoRow hr (by rfl) hX.m_NoRow hX.k_NoRow (pa_cons pe_int pa_nil))) pss_nil)
      (pss_one (ps_ret (pe_tup (pa_cons pe_str (pa_cons (pe_fnE C_read_name passE hr (by rfl) (pa_cons (pe_ix ix_list (pv 0) pe_int (fun _ _ => rfl)) pa_nil)) (pa_cons (pe_fnE C_read_sum passE hr (by rfl) (pa_cons (pe_slice sl_list (pv 0) (po_some pe_int) po_none) pa_nil)) pa_nil))))))), ?_⟩
    refine ⟨_, rfl, l, _, rfl, .inl (SqL.of hl), _, _, rfl, rfl, _, rfl, ?_⟩
    rw [List.length_map]
    by_cases h3 : 3 ≤ ws.length
    · refine iteDN (by omega) ?_
      obtain ⟨o, m, us, rfl⟩ : ∃ o m us, ws = o :: m :: us := by
        match ws, h3 with
        | a :: b :: r, _ => exact ⟨a, b, r, rfl⟩
      have hne : us ≠ [] := fun z => by rw [z] at h3; exact absurd h3 (by simp)
      refine ⟨_, rfl, l, _, _, _, rfl, rfl, SqL.of hl, atI_nat (j := 1) (v := .str m) rfl, rfl, _, rfl, ?_⟩
      by_cases e : m = "="
      · subst e
        refine iteNS rfl ?_
        refine ⟨_, rfl, l, _, _, _, rfl, rfl, SqL.of hl, atI_nat (j := 0) (v := .str o) rfl, o, rfl, hw.2 o (by simp), (fun ho v1 H1 s1 _ => ?_), hE.on (Same.refl H) fun ⟨o', us', e, _, h, _⟩ => by cases e; exact h⟩
        refine ⟨_, rfl, _, rfl, l, _, rfl, SqL.of (s1 _ _ hl), fun d hd => ?_⟩
        have s2 := s1.new (o := .lst (cutV ((o :: "=" :: us).map V.str) (some 2) none)) hd
        refine ⟨d, us, rfl, ?_, hw.drop 2, (fun hok v2 H2 s3 => ⟨(by show 3 ≤ sizeLine; decide), fun r hr => q ⟨o, us, rfl, hne, ho, hok⟩ _ _ _ ((s2.trans s3).new hr) upd_same⟩), hE.on s2 fun ⟨o', us', e, _, _, h⟩ => by cases e; exact h⟩
        rw [upd_same]
        exact congrArg (fun z => some (HO.lst z)) (cut_from ((o :: "=" :: us).map V.str) 2 (by simp))
      · show if (!decide (V.str m = V.str "=")) = true then _ else _
        rw [decide_eq_false (fun z => e (V.str.inj z))]
        exact iteT (hE fun ⟨o', us', e2, _⟩ => by cases e2; exact e rfl).rais
    · refine iteDP (by omega) (hE fun ⟨o', us', e2, hn, _⟩ => h3 ?_).rais
      rw [e2]
      cases us' with
      | nil => exact absurd rfl hn
      | cons a r => simp
noncomputable def W1 (ok : List Str → Prop) (ws : List Str) : Prop := (∃ us x, ws = us ++ [("when" : Str), x] ∧ us ≠ [] ∧ ok us ∧ NameOk x) ∨ ((¬ ∃ us x, ws = us ++ [("when" : Str), x] ∧ us ≠ []) ∧ ok ws)
theorem when_cases (ws : List Str) : (∃ (us : List Str) (w : Str), ws = us ++ [("when" : Str), w] ∧ us ≠ []) ∨ ws.length ≤ 2 ∨ ∃ (us : List Str) (a b : Str), ws = us ++ [a, b] ∧ us ≠ [] ∧ a ≠ ("when" : Str) := by
  by_cases h : ws.length ≤ 2
  · exact .inr (.inl h)
  · obtain ⟨us, a, b, rfl⟩ : ∃ (us : List Str) (a b : Str), ws = us ++ [a, b] := by
      refine ⟨ws.take (ws.length - 2), ws[ws.length - 2]'(by omega), ws[ws.length - 1]'(by omega), ?_⟩
      have e1 := take_succ_get (List.getElem?_eq_getElem (l := ws) (i := ws.length - 2) (by omega))
      have e2 := take_succ_get (List.getElem?_eq_getElem (l := ws) (i := ws.length - 1) (by omega))
      rw [show ws.length - 2 + 1 = ws.length - 1 by omega] at e1
      rw [show ws.length - 1 + 1 = ws.length by omega, List.take_length, e1] at e2
      rw [List.append_assoc] at e2
      exact e2
    have hu : us ≠ [] := fun z => by rw [z] at h; simp at h
    by_cases e : a = "when"
    · exact .inl ⟨us, b, by rw [e], hu⟩
    · exact .inr (.inr ⟨us, a, b, rfl, hu, e⟩)
theorem Wok.front {us : List Str} {a b : Str} (h : Wok (us ++ [a, b])) : Wok us ∧ b.length ≤ 900 := ⟨⟨by have := h.1; rw [List.length_append] at this; omega, fun x hx => h.2 x (List.mem_append_left _ hx)⟩, h.2 b (by simp)⟩
theorem app2_inj {us us' : List Str} {a b a' b' : Str} (h : us ++ [a, b] = us' ++ [a', b']) : us = us' ∧ a = a' ∧ b = b' := by
  have h1 := List.append_inj' h rfl
  refine ⟨h1.1, ?_⟩
  have h2 := h1.2
  simp at h2
  exact h2
theorem w1_when {ok : List Str → Prop} {us : List Str} {x : Str} (hne : us ≠ []) (h : W1 ok (us ++ [("when" : Str), x])) : ok us ∧ NameOk x := by
  rcases h with ⟨us', x', e, _, h1, h2⟩ | ⟨h, _⟩
  · obtain ⟨rfl, _, rfl⟩ := app2_inj e
    exact ⟨h1, h2⟩
  · exact absurd ⟨us, x, rfl, hne⟩ h
theorem w1_bare {ok : List Str → Prop} {ws : List Str} (hn : ¬ ∃ us x, ws = us ++ [("when" : Str), x] ∧ us ≠ []) : W1 ok ws ↔ ok ws :=
  ⟨fun h => h.elim (fun ⟨us, x, e, hne, _⟩ => absurd ⟨us, x, e, hne⟩ hn) fun h => h.2, fun h => .inr ⟨hn, h⟩⟩
theorem no_when2 {ws : List Str} (h : ws.length ≤ 2) : ¬ ∃ us x, ws = us ++ [("when" : Str), x] ∧ us ≠ [] := fun ⟨us, x, e, hne⟩ => by
  rw [e, List.length_append] at h
  cases us with
  | nil => exact hne rfl
  | cons a r => simp at h
theorem no_whenA {us : List Str} {a b : Str} (hab : a ≠ ("when" : Str)) : ¬ ∃ us' x, us ++ [a, b] = us' ++ [("when" : Str), x] ∧ us' ≠ [] := fun ⟨us', x, e, _⟩ => hab (app2_inj e).2.1
theorem ok_say1 (T : Txt K mg) {A : Adr} (hX : XTxt K mg A) : L2.ClE P w K mg base 6 "read_say" ["words"] (spWsK A "say" (W1 Sum1)) := by
  have C_has_when := ok_has_when (P := P) (w := w) (base := base) T
  have C_read_name := ok_name1 (P := P) (w := w) (base := base) T hX
  have C_read_sum := ok_sum1 (P := P) (w := w) (base := base) T hX
  refine ClE.of T.d_read_say sc_read_say (fun vs H Q E h => ?_) (fun _ _ _ _ _ _ us hl => by obtain ⟨a, rfl⟩ := len1 hl; rfl) (fun f cdv A0 outer s H vs Q E hr h => ?_)
  · obtain ⟨l, ws, rfl, _⟩ := h
    rfl
  · obtain ⟨l, ws, rfl, hl, hw, q, hE⟩ := h
    refine ⟨_, (pss_cons (ps_if (pt_val (pe_fn C_has_when hr (by rfl) (pa_cons (pv 0) pa_nil)))
        (pss_one (ps_ret (pe_tup (pa_cons pe_str (pa_cons (pe_fnE C_read_sum passE hr (by rfl) (pa_cons (pe_slice sl_list (pv 0) po_none (po_some (pe_un un_neg pe_int))) pa_nil)) (pa_cons (pe_fnE C_read_name passE hr (by rfl) (pa_cons (pe_ix ix_list (pv 0) (pe_un un_neg pe_int) (fun _ _ => rfl)) pa_nil)) pa_nil)))))) pss_nil)
      (pss_one (ps_ret (pe_tup (pa_cons pe_str (pa_cons (pe_fnE C_read_sum passE hr (by rfl) (pa_cons (pv 0) pa_nil)) (pa_cons pe_non pa_nil))))))), ?_⟩
    rcases when_cases ws with ⟨us, x, rfl, hne⟩ | h2 | ⟨us, a, b, rfl, hne, hab⟩
    · refine ⟨_, rfl, l, _, rfl, hl, .inl ⟨us, x, rfl, hne, ⟨_, rfl, iteT ?_⟩⟩⟩
      have hl' : H l = some (.lst (us.map V.str ++ [V.str "when", V.str x])) := by rw [hl, List.map_append]; rfl
      refine ⟨_, rfl, _, rfl, _, rfl, l, _, rfl, SqL.of hl', fun d hd => ?_⟩
      have s1 := (Same.refl H).new (o := .lst (cutV (us.map V.str ++ [V.str "when", V.str x]) none (some (-2)))) hd
      refine ⟨d, us, rfl, (by rw [upd_same]; exact congrArg (fun z => some (HO.lst z)) (cut_m2 ..)), hw.front.1, (fun hok v2 H2 s2 => ?_), hE.on s1 fun z => (w1_when hne z).1⟩
      have s3 := s1.trans s2
      exact ⟨_, rfl, _, rfl, l, _, _, _, rfl, rfl, SqL.of (s3 _ _ hl'), (by rw [show us.map V.str ++ [V.str "when", V.str x] = (us.map V.str ++ [V.str "when"]) ++ [V.str x] by simp]; exact atI_last ..), x, rfl, hw.front.2, (fun hx v4 H4 s4 _ => ⟨(by show 3 ≤ sizeLine; decide), fun r hr => q (.inl ⟨us, x, rfl, hne, hok, hx⟩) _ _ _ ((s3.trans s4).new hr) upd_same⟩), hE.on s3 fun z => (w1_when hne z).2⟩
    · have hb := w1_bare (ok := Sum1) (no_when2 h2)
      exact ⟨_, rfl, l, _, rfl, hl, .inr (.inl ⟨h2, _, rfl, iteF ⟨_, rfl, l, _, rfl, hl, hw, (fun hok v2 H2 s2 => ⟨(by show 3 ≤ sizeLine; decide), fun r hr => q (hb.mpr hok) _ _ _ (s2.new hr) upd_same⟩), hE.on (Same.refl H) hb.mp⟩⟩)⟩
    · have hb := w1_bare (ok := Sum1) (no_whenA (us := us) (b := b) hab)
      exact ⟨_, rfl, l, _, rfl, hl, .inr (.inr ⟨us, a, b, rfl, hne, hab, _, rfl, iteF ⟨_, rfl, l, _, rfl, hl, hw, (fun hok v2 H2 s2 => ⟨(by show 3 ≤ sizeLine; decide), fun r hr => q (hb.mpr hok) _ _ _ (s2.new hr) upd_same⟩), hE.on (Same.refl H) hb.mp⟩⟩)⟩
theorem ok_ask1 (T : Txt K mg) {A : Adr} (hX : XTxt K mg A) : L2.ClE P w K mg base 5 "read_ask" ["words"] (spWsK A "ask" (W1 Only1)) := by
  have C_has_when := ok_has_when (P := P) (w := w) (base := base) T
  have C_read_name := ok_name1 (P := P) (w := w) (base := base) T hX
  have C_read_only_name := ok_only1 (P := P) (w := w) (base := base) T hX
  refine ClE.of T.d_read_ask sc_read_ask (fun vs H Q E h => ?_) (fun _ _ _ _ _ _ us hl => by obtain ⟨a, rfl⟩ := len1 hl; rfl) (fun f cdv A0 outer s H vs Q E hr h => ?_)
  · obtain ⟨l, ws, rfl, _⟩ := h
    rfl
  · obtain ⟨l, ws, rfl, hl, hw, q, hE⟩ := h
    refine ⟨_, (pss_cons (ps_if (pt_val (pe_fn C_has_when hr (by rfl) (pa_cons (pv 0) pa_nil)))
        (pss_one (ps_ret (pe_tup (pa_cons pe_str (pa_cons (pe_fnE C_read_only_name passE hr (by rfl) (pa_cons (pe_slice sl_list (pv 0) po_none (po_some (pe_un un_neg pe_int))) pa_nil)) (pa_cons (pe_fnE C_read_name passE hr (by rfl) (pa_cons (pe_ix ix_list (pv 0) (pe_un un_neg pe_int) (fun _ _ => rfl)) pa_nil)) pa_nil)))))) pss_nil)
      (pss_one (ps_ret (pe_tup (pa_cons pe_str (pa_cons (pe_fnE C_read_only_name passE hr (by rfl) (pa_cons (pv 0) pa_nil)) (pa_cons pe_non pa_nil))))))), ?_⟩
    rcases when_cases ws with ⟨us, x, rfl, hne⟩ | h2 | ⟨us, a, b, rfl, hne, hab⟩
    · refine ⟨_, rfl, l, _, rfl, hl, .inl ⟨us, x, rfl, hne, ⟨_, rfl, iteT ?_⟩⟩⟩
      have hl' : H l = some (.lst (us.map V.str ++ [V.str "when", V.str x])) := by rw [hl, List.map_append]; rfl
      refine ⟨_, rfl, _, rfl, _, rfl, l, _, rfl, SqL.of hl', fun d hd => ?_⟩
      have s1 := (Same.refl H).new (o := .lst (cutV (us.map V.str ++ [V.str "when", V.str x]) none (some (-2)))) hd
      refine ⟨d, us, rfl, (by rw [upd_same]; exact congrArg (fun z => some (HO.lst z)) (cut_m2 ..)), hw.front.1, (fun hok v2 H2 s2 _ => ?_), hE.on s1 fun z => (w1_when hne z).1⟩
      have s3 := s1.trans s2
      exact ⟨_, rfl, _, rfl, l, _, _, _, rfl, rfl, SqL.of (s3 _ _ hl'), (by rw [show us.map V.str ++ [V.str "when", V.str x] = (us.map V.str ++ [V.str "when"]) ++ [V.str x] by simp]; exact atI_last ..), x, rfl, hw.front.2, (fun hx v4 H4 s4 _ => ⟨(by show 3 ≤ sizeLine; decide), fun r hr => q (.inl ⟨us, x, rfl, hne, hok, hx⟩) _ _ _ ((s3.trans s4).new hr) upd_same⟩), hE.on s3 fun z => (w1_when hne z).2⟩
    · have hb := w1_bare (ok := Only1) (no_when2 h2)
      exact ⟨_, rfl, l, _, rfl, hl, .inr (.inl ⟨h2, _, rfl, iteF ⟨_, rfl, l, _, rfl, hl, hw, (fun hok v2 H2 s2 _ => ⟨(by show 3 ≤ sizeLine; decide), fun r hr => q (hb.mpr hok) _ _ _ (s2.new hr) upd_same⟩), hE.on (Same.refl H) hb.mp⟩⟩)⟩
    · have hb := w1_bare (ok := Only1) (no_whenA (us := us) (b := b) hab)
      exact ⟨_, rfl, l, _, rfl, hl, .inr (.inr ⟨us, a, b, rfl, hne, hab, _, rfl, iteF ⟨_, rfl, l, _, rfl, hl, hw, (fun hok v2 H2 s2 _ => ⟨(by show 3 ≤ sizeLine; decide), fun r hr => q (hb.mpr hok) _ _ _ (s2.new hr) upd_same⟩), hE.on (Same.refl H) hb.mp⟩⟩)⟩
structure Bring1 (ws : List Str) : Prop where
  m3 : ws.length % 3 = 1
  few : ws.length ≤ 19
  hd : ∀ x, ws[0]? = some x → NameOk x
  tl : ∀ i, 3 * i + 1 < ws.length → Pair1 ((ws.drop (3 * i + 1)).take 3)
theorem ok_bring1 (T : Txt K mg) {A : Adr} (hX : XTxt K mg A) : L2.ClE P w K mg base 5 "read_bring" ["words"] (spWsK A "bring" Bring1) := by
  have C_read_name := ok_name1 (P := P) (w := w) (base := base) T hX
  have C_read_pair := ok_pair1 (P := P) (w := w) (base := base) T hX
  have X_NoRow := ok_initN (P := P) (w := w) (base := base) hX
  refine ClE.of T.d_read_bring sc_read_bring (fun vs H Q E h => ?_) (fun _ _ _ _ _ _ us hl => by obtain ⟨a, rfl⟩ := len1 hl; rfl) (fun f cdv A0 outer s H vs Q E hr h => ?_)
  · obtain ⟨l, ws, rfl, _⟩ := h
    rfl
  · obtain ⟨l, ws, rfl, hl, hw, q, hE⟩ := h
    refine ⟨_, (pss_cons (ps_if (PW.pt (pw_or (pt_cmpR op_ne (pe_op op_mod (pe_callB call_len_seq (by rfl) T.n_len PySem.boot_len (pa_cons (pv 0) pa_nil)) pe_int) pe_int (nomark _)) (pw_or1 (pt_cmpR op_gt (pe_callB call_len_seq (by rfl) T.n_len PySem.boot_len (pa_cons (pv 0) pa_nil)) (pe_op op_add pe_int (pe_op op_mul pe_int (pe_globS T.g_MOST_PAIRS (by rfl)))) (nomark _)))))
        (pss_one (ps_raise1 X_NoRow hr (by rfl) hX.m_NoRow hX.k_NoRow (pa_cons pe_int pa_nil))) pss_nil)
      (pss_cons (ps_setCE (j := 1) (M := ["k", "words"]) (ρ := [none, some 0]) (defScope s_read_bring) ["words", "pairs"] ⟨rfl, by decide +kernel, by decide +kernel, by decide +kernel, rfl, by decide +kernel, by decide +kernel⟩ sc_read_bring.nd rfl (Or.inl rfl) (pi_range3 (by rfl) T.n_range (pa_cons pe_int (pa_cons (pe_callB call_len_seq (by rfl) T.n_len PySem.boot_len (pa_cons (pv 0) pa_nil)) (pa_cons pe_int pa_nil)))) (fun _ _ _ _ _ _ => (pg_name (i := 0) (show (["k", "words"] : List Str).Nodup by decide +kernel) rfl (Or.inl rfl))) (fun _ _ _ _ _ _ => pts_nil) (fun _ _ _ _ _ _ hp => (pe_fnE C_read_pair hp hr (by rfl) (pa_cons (pe_slice (sl_listK (K := K) rfl) (pv 1) (po_some (pv 0)) (po_some (pe_op op_add (pv 0) pe_int))) pa_nil))))
      (pss_one (ps_ret (pe_tup (pa_cons pe_str (pa_cons (pe_fnE C_read_name passE hr (by rfl) (pa_cons (pe_ix ix_list (pv 0) pe_int (fun _ _ => rfl)) pa_nil)) (pa_cons (pe_callTy call_tuple_of (by rfl) T.n_tuple boot_tuple (pa_cons (pv 1) pa_nil)) pa_nil)))))))), ?_⟩
    refine ⟨_, rfl, l, _, rfl, .inl (SqL.of hl), _, _, rfl, rfl, (by show (0 : Int) < 3; decide), rfl, _, rfl, ?_⟩
    rw [List.length_map]
    by_cases h1 : ws.length % 3 = 1
    · refine iteNS (show V.int ((ws.length : Int) % 3) = V.int 1 from congrArg V.int (by omega)) ?_
      refine ⟨_, rfl, l, _, rfl, .inl (SqL.of hl), _, _, rfl, rfl, .inl ⟨by decide, by decide⟩, _, _, rfl, rfl, _, _, rfl, rfl, _, rfl, ?_⟩
      rw [List.length_map]
      by_cases hmany : ws.length ≤ 19
      · refine iteDN (by omega) ?_
        obtain ⟨n, hn⟩ : ∃ n, ws.length = 3 * n + 1 := ⟨ws.length / 3, by omega⟩
        have h0 : ws[0]? = some (ws[0]'(by omega)) := List.getElem?_eq_getElem (by omega)
        have hlen : ((ws.map V.str).length : Int) = ((3 * n + 1 : Nat) : Int) := by rw [List.length_map, hn]
        refine ⟨_, rfl, l, _, rfl, .inl (SqL.of hl), 1, _, 3, rfl, ⟨by decide, by decide, by rw [hlen]; omega, by rw [hlen]; omega, by decide, by decide⟩, fun D hD => ?_⟩
        have hrs : (Builtin.Range.rangeSize 1 ((3 * n + 1 : Nat) : Int) 3).toNat = n := rsize (c := 3) (by decide)
        rw [hlen, hrs]
        refine comp_by n (fun i σ H2 => ∃ (v0 : Option V) (vs : List V), σ = [v0, some (.ref l)] ∧ Same H H2 ∧ H2 D = some (.lst vs) ∧ vs.length = i ∧ ∀ j, j < i → Pair1 ((ws.drop (3 * j + 1)).take 3)) ⟨_, [], rfl, (Same.refl H).new hD, upd_same, rfl, fun j h => absurd h (Nat.not_lt_zero _)⟩ ?_ ?_
        · rintro i σ H2 hi ⟨v0, vs, rfl, s2, hD2, hvl, hall⟩
          refine ⟨hi, ?_⟩
          rintro v H3 ⟨rfl, rfl⟩
          refine ntG ?_
          refine ⟨_, rfl, _, rfl, _, rfl, _, rfl, _, _, rfl, rfl, _, rfl, l, _, rfl, SqL.of (s2 _ _ hl), fun a ha => ?_⟩
          have s3 := s2.new (o := .lst (cutV (ws.map V.str) (some (1 + i * 3)) (some (1 + i * 3 + 3)))) ha
          refine ⟨a, (ws.drop (3 * i + 1)).take 3, rfl, ?_, ⟨by rw [List.length_take]; omega, fun x hx => hw.2 x (List.mem_of_mem_drop (List.mem_of_mem_take hx))⟩, (fun hp b xs H4 s4 hb _ => ?_), hE.on s3 fun z => z.tl i (by omega)⟩
          · rw [upd_same, show (1 : Int) + i * 3 = ((3 * i + 1 : Nat) : Int) by omega, show ((3 * i + 1 : Nat) : Int) + 3 = ((3 * i + 4 : Nat) : Int) by omega, cut_mid _ _ _ (by omega) (by rw [List.length_map]; omega)]
            refine congrArg (fun z => some (HO.lst z)) ?_
            rw [show 3 * i + 4 - (3 * i + 1) = 3 by omega, ← List.map_drop, ← List.map_take]
          · have hD3 := upd_keep (o := .lst (cutV (ws.map V.str) (some (1 + i * 3)) (some (1 + i * 3 + 3)))) hD2 ha
            refine ⟨vs, s4 _ _ hD3, small1000 (by omega), _, vs ++ [.ref b], rfl, (s3.trans s4).put hD, upd_same, by rw [List.length_append, hvl]; rfl, fun j hj => ?_⟩
            by_cases e : j = i
            · rw [e]; exact hp
            · exact hall j (by omega)
        · rintro σ H2 ⟨v0, vs, rfl, s2, hD2, hvl, hall⟩
          refine ⟨Nat.le_refl _, ?_⟩
          refine ⟨_, rfl, l, _, _, _, rfl, rfl, SqL.of (s2 _ _ hl), strs_at h0, _, rfl, hw.mem h0, (fun hp v4 H4 s4 _ => ?_), hE.on s2 fun z => z.hd _ h0⟩
          refine ⟨_, rfl, D, _, rfl, .inl ⟨SqL.of (s4 _ _ hD2), fun t gt => ⟨(by show 3 ≤ sizeLine; decide), fun r gr => q ⟨h1, hmany, fun x hx => ?_, fun i hi => hall i (by omega)⟩ _ _ _ (((s2.trans s4).new gt).new gr) upd_same⟩⟩⟩
          rw [h0] at hx
          cases hx
          exact hp
      · exact iteDP (by omega) (hE fun z => hmany z.few).rais
    · show if (!decide (V.int ((ws.length : Int) % 3) = V.int 1)) = true then _ else _
      rw [decide_eq_false (fun z => h1 (by have := V.int.inj z; omega))]
      exact iteT (hE fun z => h1 z.m3).rais
noncomputable def KRow1 (k : Str) (us : List Str) : Prop := (k = "bring" → Bring1 us) ∧ (k = "give" → Pair1 us) ∧ (k = "set" → Set1 us) ∧ (k = "say" → W1 Sum1 us) ∧ (k = "need" → Sum1 us) ∧ (k = "ask" → W1 Only1 us) ∧ ((k = "take" ∨ k = "part" ∨ k = "do") → Only1 us) ∧ k ∈ (["bring", "give", "set", "say", "need", "ask", "take", "part", "do"] : List Str)
noncomputable def Row1 (ws : List Str) : Prop := ∃ k us, ws = k :: us ∧ KRow1 k us
theorem split_ne1 (x : Str) : PySem.Txt.split x " " ≠ [] := fun z => by
  have h := StrLaws.join_split x " "
  rw [z] at h
  rw [← h] at z
  exact absurd z (by decide +kernel)
theorem kin {k : Str} {us : List Str} {P' : Prop} (h : KRow1 k us → P') : Row1 (k :: us) → P' := fun ⟨k', us', e, hk⟩ => by
  cases e
  exact h hk
noncomputable def spRow1 (A : Adr) : Sp := fun vs H Q E => ∃ x : Str, vs = [.str x] ∧ x.length ≤ 100000 ∧ Wok (PySem.Txt.split x " ") ∧ (Row1 (PySem.Txt.split x " ") → ∀ (k : Str) (us : List Str) (r : Addr) (xs : List V) (H' : Hp), PySem.Txt.split x " " = k :: us → Same H H' → H' r = some (.tup (.str k :: xs)) → (k = "part" → xs = us.map V.str) → Q (.ref r) H') ∧ RefN A H E (Row1 (PySem.Txt.split x " "))
theorem ok_row1 (T : Txt K mg) {A : Adr} (hX : XTxt K mg A) : L2.ClE P w K mg base 7 "read_row" ["text"] (spRow1 A) := by
  have C_read_bring := ok_bring1 (P := P) (w := w) (base := base) T hX
  have C_read_pair := ok_pair1 (P := P) (w := w) (base := base) T hX
  have C_read_set := ok_set1 (P := P) (w := w) (base := base) T hX
  have C_read_say := ok_say1 (P := P) (w := w) (base := base) T hX
  have C_read_sum := ok_sum1 (P := P) (w := w) (base := base) T hX
  have C_read_ask := ok_ask1 (P := P) (w := w) (base := base) T hX
  have C_read_only_name := ok_only1 (P := P) (w := w) (base := base) T hX
  have X_NoRow := ok_initN (P := P) (w := w) (base := base) hX
  refine ClE.of T.d_read_row sc_read_row (fun vs H Q E h => ?_) (fun _ _ _ _ _ _ us hl => by obtain ⟨a, rfl⟩ := len1 hl; rfl) (fun f cdv A0 outer s H vs Q E hr h => ?_)
  · obtain ⟨x, rfl, _⟩ := h
    rfl
  · obtain ⟨x, rfl, hx, hw, q, hE⟩ := h
    have hne := split_ne1 x
    refine ⟨_, (pss_cons (ps_set (i := 1) sc_read_row.nd rfl (Or.inl rfl) (pe_bm PySem.F.plainAttrs_str PySem.F.slot_str_split PySem.F.type_str_split mt_split (pv 0) (pa_cons pe_str pa_nil)))
      (pss_cons (ps_set (i := 2) sc_read_row.nd rfl (Or.inl rfl) (pe_ix ix_list (pv 1) pe_int (fun _ _ => rfl)))
      (pss_cons (ps_set (i := 3) sc_read_row.nd rfl (Or.inl rfl) (pe_slice sl_list (pv 1) (po_some pe_int) po_none))
      (pss_cons (ps_if (pt_cmpR op_eq (pv 2) pe_str (nomark _))
        (pss_one (ps_ret (pe_fnE C_read_bring passE hr (by rfl) (pa_cons (pv 3) pa_nil)))) pss_nil)
      (pss_cons (ps_if (pt_cmpR op_eq (pv 2) pe_str (nomark _))
        (pss_one (ps_ret (pe_op op_catA (pe_tup (pa_cons pe_str pa_nil)) (pe_fnE C_read_pair passE hr (by rfl) (pa_cons (pv 3) pa_nil))))) pss_nil)
      (pss_cons (ps_if (pt_cmpR op_eq (pv 2) pe_str (nomark _))
        (pss_one (ps_ret (pe_fnE C_read_set passE hr (by rfl) (pa_cons (pv 3) pa_nil)))) pss_nil)
      (pss_cons (ps_if (pt_cmpR op_eq (pv 2) pe_str (nomark _))
        (pss_one (ps_ret (pe_fnE C_read_say passE hr (by rfl) (pa_cons (pv 3) pa_nil)))) pss_nil)
      (pss_cons (ps_if (pt_cmpR op_eq (pv 2) pe_str (nomark _))
        (pss_one (ps_ret (pe_tup (pa_cons pe_str (pa_cons (pe_fnE C_read_sum passE hr (by rfl) (pa_cons (pv 3) pa_nil)) pa_nil))))) pss_nil)
      (pss_cons (ps_if (pt_cmpR op_eq (pv 2) pe_str (nomark _))
        (pss_one (ps_ret (pe_fnE C_read_ask passE hr (by rfl) (pa_cons (pv 3) pa_nil)))) pss_nil)
      (pss_cons (ps_if (pt_cmpR op_in_seq (pv 2) (pe_tup (pa_cons pe_str (pa_cons pe_str (pa_cons pe_str pa_nil)))) (by with_unfolding_all rfl))
        (pss_one (ps_ret (pe_tup (pa_cons (pv 2) (pa_cons (pe_fnE C_read_only_name passE hr (by rfl) (pa_cons (pv 3) pa_nil)) pa_nil))))) pss_nil)
      (pss_one (ps_raise1 X_NoRow hr (by rfl) hX.m_NoRow hX.k_NoRow (pa_cons pe_int pa_nil))))))))))))), ?_⟩
    refine ⟨_, rfl, rfl, _, _, rfl, rfl, (by decide +kernel), hx, fun l hl => ?_⟩
    generalize PySem.Txt.split x " " = ws at hw q hne hE ⊢
    obtain ⟨k, us, rfl⟩ : ∃ k us, ws = k :: us := by
      cases ws with
      | nil => exact absurd rfl hne
      | cons a b => exact ⟨a, b, rfl⟩
    refine ⟨_, rfl, l, _, _, _, rfl, rfl, SqL.of upd_same, atI_nat (j := 0) (v := .str k) rfl, ?_⟩
    refine ⟨_, rfl, _, rfl, l, _, rfl, SqL.of upd_same, fun d hd => ?_⟩
    have s1 := ((Same.refl H).new (o := .lst ((k :: us).map V.str)) hl).new (o := .lst (cutV ((k :: us).map V.str) (some 1) none)) hd
    have hd1 : upd (upd H l (.lst ((k :: us).map V.str))) d (.lst (cutV ((k :: us).map V.str) (some 1) none)) d = some (.lst (us.map V.str)) := by
      rw [upd_same]
      exact congrArg (fun z => some (HO.lst z)) (cut_from _ 1 (by simp))
    generalize upd (upd H l (.lst ((k :: us).map V.str))) d (.lst (cutV ((k :: us).map V.str) (some 1) none)) = H1 at s1 hd1 ⊢
    have hwu : Wok us := hw.drop 1
    have q1 : ∀ {H2 : Hp} {r : Addr} {xs : List V}, Same H1 H2 → KRow1 k us → H2 r = some (.tup (.str k :: xs)) → (k = "part" → xs = us.map V.str) → Q (.ref r) H2 := fun s2 hk hr' hp => q ⟨k, us, rfl, hk⟩ k us _ _ _ rfl (s1.trans s2) hr' hp
    by_cases e1 : k = "bring"
    · subst e1
      exact ⟨_, rfl, rfl, _, rfl, iteSE ⟨_, rfl, d, us, rfl, hd1, hwu, (fun h r xs H2 s2 hr' => q1 s2 ⟨fun _ => h, fun z => absurd z (by decide), fun z => absurd z (by decide), fun z => absurd z (by decide), fun z => absurd z (by decide), fun z => absurd z (by decide), fun z => absurd z (by decide), by decide⟩ hr' (fun z => absurd z (by decide))), hE.on s1 (kin fun h => h.1 rfl)⟩⟩
    refine ⟨_, rfl, rfl, _, rfl, iteSN e1 ?_⟩
    by_cases e2 : k = "give"
    · subst e2
      refine ⟨_, rfl, rfl, _, rfl, iteSE ?_⟩
      refine ⟨(by show 1 ≤ sizeLine; decide), fun a ha => ⟨_, rfl, d, us, rfl, upd_keep hd1 ha, hwu, (fun h b xs H2 s2 hb hx2 => ?_), hE.on (s1.new ha) (kin fun h => h.2.1 rfl)⟩⟩
      exact ⟨a, b, _, _, rfl, rfl, SqT.of (s2 _ _ upd_same), SqT.of hb, (by show 1 + xs.length ≤ sizeLine; rw [hx2]; decide), (fun z => by cases z), (fun _ z => by rw [z] at hx2; cases hx2), fun _ _ r hr' => q1 ((((Same.refl H1).new ha).trans s2).new hr') ⟨fun z => absurd z (by decide), fun _ => h, fun z => absurd z (by decide), fun z => absurd z (by decide), fun z => absurd z (by decide), fun z => absurd z (by decide), fun z => absurd z (by decide), by decide⟩ upd_same (fun z => absurd z (by decide))⟩
    refine ⟨_, rfl, rfl, _, rfl, iteSN e2 ?_⟩
    by_cases e3 : k = "set"
    · subst e3
      exact ⟨_, rfl, rfl, _, rfl, iteSE ⟨_, rfl, d, us, rfl, hd1, hwu, (fun h r xs H2 s2 hr' => q1 s2 ⟨fun z => absurd z (by decide), fun z => absurd z (by decide), fun _ => h, fun z => absurd z (by decide), fun z => absurd z (by decide), fun z => absurd z (by decide), fun z => absurd z (by decide), by decide⟩ hr' (fun z => absurd z (by decide))), hE.on s1 (kin fun h => h.2.2.1 rfl)⟩⟩
    refine ⟨_, rfl, rfl, _, rfl, iteSN e3 ?_⟩
    by_cases e4 : k = "say"
    · subst e4
      exact ⟨_, rfl, rfl, _, rfl, iteSE ⟨_, rfl, d, us, rfl, hd1, hwu, (fun h r xs H2 s2 hr' => q1 s2 ⟨fun z => absurd z (by decide), fun z => absurd z (by decide), fun z => absurd z (by decide), fun _ => h, fun z => absurd z (by decide), fun z => absurd z (by decide), fun z => absurd z (by decide), by decide⟩ hr' (fun z => absurd z (by decide))), hE.on s1 (kin fun h => h.2.2.2.1 rfl)⟩⟩
    refine ⟨_, rfl, rfl, _, rfl, iteSN e4 ?_⟩
    by_cases e5 : k = "need"
    · subst e5
      exact ⟨_, rfl, rfl, _, rfl, iteSE ⟨_, rfl, d, us, rfl, hd1, hwu, (fun h v H2 s2 => ⟨(by show 2 ≤ sizeLine; decide), fun r hr' => q1 (s2.new hr') ⟨fun z => absurd z (by decide), fun z => absurd z (by decide), fun z => absurd z (by decide), fun z => absurd z (by decide), fun _ => h, fun z => absurd z (by decide), fun z => absurd z (by decide), by decide⟩ upd_same (fun z => absurd z (by decide))⟩), hE.on s1 (kin fun h => h.2.2.2.2.1 rfl)⟩⟩
    refine ⟨_, rfl, rfl, _, rfl, iteSN e5 ?_⟩
    by_cases e6 : k = "ask"
    · subst e6
      exact ⟨_, rfl, rfl, _, rfl, iteSE ⟨_, rfl, d, us, rfl, hd1, hwu, (fun h r xs H2 s2 hr' => q1 s2 ⟨fun z => absurd z (by decide), fun z => absurd z (by decide), fun z => absurd z (by decide), fun z => absurd z (by decide), fun z => absurd z (by decide), fun _ => h, fun z => absurd z (by decide), by decide⟩ hr' (fun z => absurd z (by decide))), hE.on s1 (kin fun h => h.2.2.2.2.2.1 rfl)⟩⟩
    refine ⟨_, rfl, rfl, _, rfl, iteSN e6 ?_⟩
    refine ⟨_, rfl, (by show 3 ≤ sizeLine; decide), fun a ha => ⟨a, _, rfl, .inr (SqT.of upd_same), rfl, rfl, _, rfl, ?_⟩⟩
    by_cases e7 : k = "take" ∨ k = "part" ∨ k = "do"
    · rw [show (if false = true then !inV (V.str k) [V.str "take", V.str "part", V.str "do"] else inV (V.str k) [V.str "take", V.str "part", V.str "do"]) = true by rcases e7 with e | e | e <;> subst e <;> decide +kernel]
      refine iteT ⟨_, rfl, _, rfl, d, us, rfl, upd_keep hd1 ha, hwu, (fun h v H2 s2 ⟨x', eu, ev⟩ => ⟨(by show 2 ≤ sizeLine; decide), fun r hr' => q1 ((((Same.refl H1).new ha).trans s2).new hr') ⟨fun z => absurd z e1, fun z => absurd z e2, fun z => absurd z e3, fun z => absurd z e4, fun z => absurd z e5, fun z => absurd z e6, fun _ => h, ?_⟩ upd_same (fun _ => by rw [eu, ev]; rfl)⟩), hE.on (s1.new ha) (kin fun h => h.2.2.2.2.2.2.1 e7)⟩
      rcases e7 with e | e | e <;> subst e <;> decide
    · have n1 : k ≠ "take" := fun z => e7 (.inl z)
      have n2 : k ≠ "part" := fun z => e7 (.inr (.inl z))
      have n3 : k ≠ "do" := fun z => e7 (.inr (.inr z))
      rw [show (if false = true then !inV (V.str k) [V.str "take", V.str "part", V.str "do"] else inV (V.str k) [V.str "take", V.str "part", V.str "do"]) = false by
        rw [if_neg Bool.false_ne_true, show [V.str "take", V.str "part", V.str "do"] = ([("take" : Str), "part", "do"]).map V.str from rfl, inV_strs]
        exact decide_eq_false (by simp [n1, n2, n3])]
      refine iteF ((hE (kin fun h => ?_)).on (s1.new ha)).rais
      have hm := h.2.2.2.2.2.2.2
      simp only [List.mem_cons, List.not_mem_nil, or_false] at hm
      rcases hm with z | z | z | z | z | z | z | z | z
      · exact e1 z
      · exact e2 z
      · exact e3 z
      · exact e4 z
      · exact e5 z
      · exact e6 z
      · exact n1 z
      · exact n2 z
      · exact n3 z
theorem ok_cell (T : Txt K mg) : Cl P w K mg base 1 "_law_cell_at" ["_law_script", "_law_k"] (spCell K) := by
  refine Cl.of T.d_law_cell_at sc_law_cell_at (fun vs H Q E h => ?_) (fun _ _ _ _ _ _ us hl => by obtain ⟨a, b, rfl⟩ := len2 hl; rfl) (fun f cdv A outer s H vs Q E hr h => ?_)
  · obtain ⟨a, ns, k, rfl, _⟩ := h
    rfl
  · obtain ⟨a, ns, k, rfl, hS, h0, q⟩ := h
    refine ⟨_, (pss_cons (ps_if (pt_cmpR op_lt (pv 1) (pe_callB call_len_seq (by rfl) T.n_len PySem.boot_len (pa_cons (pv 0) pa_nil)) (nomark _))
        (pss_one (ps_ret (pe_ix ix_list (pv 0) (pv 1) (fun _ _ => rfl)))) pss_nil)
      (pss_one (ps_ret pe_int))), ?_⟩
    refine ⟨_, rfl, _, rfl, a, _, rfl, .inl hS, _, _, rfl, rfl, _, rfl, ?_⟩
    refine ite2 (fun hlt => ?_) (fun hlt => ?_)
    · have hlt' : k < (ns.length : Int) := by simpa using hlt
      refine ⟨_, rfl, _, rfl, a, _, _, _, rfl, rfl, hS, atI_map V.int ns 0 h0 hlt', ?_⟩
      exact q _
    · exact q 0
theorem signs_let : ∀ i : Nat, i < 26 → isLet (("abcdefghijklmnopqrstuvwxyz0123456789" : Str).cps.toList.getD i 0) = true := by decide +kernel
theorem signs_sg : ∀ i : Nat, i < 36 → isSg (("abcdefghijklmnopqrstuvwxyz0123456789" : Str).cps.toList.getD i 0) = true := by decide +kernel
theorem signs_len : ("abcdefghijklmnopqrstuvwxyz0123456789" : Str).cps.toList.length = 36 := by decide +kernel
theorem signs_len' : ("abcdefghijklmnopqrstuvwxyz0123456789" : Str).length ≤ sizeLine := by decide +kernel
theorem ok_name (T : Txt K mg) : Cl P w K mg base 1 "_law_name" ["_law_cell"] spName := by
  refine Cl.of T.d_law_name sc_law_name (fun vs H Q E h => ?_) (fun _ _ _ _ _ _ us hl => by obtain ⟨a, rfl⟩ := len1 hl; rfl) (fun f cdv A outer s H vs Q E hr h => ?_)
  · obtain ⟨c, rfl, _⟩ := h
    rfl
  · obtain ⟨c, rfl, q⟩ := h
    refine ⟨_, (pss_cons (ps_set (i := 1) sc_law_name.nd rfl (Or.inl rfl) pe_str)
      (pss_cons (ps_set (i := 2) sc_law_name.nd rfl (Or.inl rfl) (pe_op op_mod (pv 0) (pe_op op_mul (pe_op op_mul pe_int pe_int) (pe_op op_pow pe_int pe_int))))
      (pss_cons (ps_set (i := 3) sc_law_name.nd rfl (Or.inl rfl) (pe_op op_add pe_int (pe_op op_mod (pv 2) pe_int)))
      (pss_cons (ps_set (i := 2) sc_law_name.nd rfl (Or.inl rfl) (pe_op op_fdiv (pv 2) pe_int))
      (pss_cons (ps_set (i := 4) sc_law_name.nd rfl (Or.inl rfl) (pe_ix ix_str (pv 1) (pe_op op_mod (pv 2) pe_int) (fun _ _ => rfl)))
      (pss_cons (ps_set (i := 2) sc_law_name.nd rfl (Or.inl rfl) (pe_op op_fdiv (pv 2) pe_int))
      (pss_cons (ps_for PassesOwn.never rfl (pi_range1 (by rfl) T.n_range (pa_cons (pe_op op_sub (pv 3) pe_int) pa_nil)) (pg_name (i := 5) sc_law_name.nd rfl (Or.inl rfl))
        (pss_cons (ps_set (i := 4) sc_law_name.nd rfl (Or.inl rfl) (pe_op op_add_str (pv 4) (pe_ix ix_str (pv 1) (pe_op op_mod (pv 2) pe_int) (fun _ _ => rfl))))
        (pss_one (ps_set (i := 2) sc_law_name.nd rfl (Or.inl rfl) (pe_op op_fdiv (pv 2) pe_int)))))
      (pss_one (ps_ret (pv 4)))))))))), ?_⟩
    refine ⟨_, rfl, _, _, rfl, rfl, .inl ⟨by decide, by decide⟩, _, _, rfl, rfl, ⟨by decide, by decide, by decide⟩, _, _, rfl, rfl, .inl ⟨by decide, by decide⟩, _, _, rfl, rfl, (by show (0 : Int) < 8 * 26 * 36 ^ (7 : Int).toNat; decide), ?_⟩
    show gName 2 (V.int (c % (8 * 26 * 36 ^ (7 : Int).toNat))) _ _ _
    generalize c % (8 * 26 * 36 ^ (7 : Int).toNat) = n
    refine ⟨_, rfl, _, _, rfl, rfl, (by show (0 : Int) < 8; decide), _, _, rfl, rfl, ?_⟩
    refine ⟨_, rfl, _, _, rfl, rfl, ⟨by decide, by decide⟩, ?_⟩
    have h1 : 0 ≤ n / 8 % 26 := by omega
    have h2 : n / 8 % 26 < 26 := by omega
    refine ⟨_, rfl, _, rfl, _, _, rfl, rfl, (by show (0 : Int) < 26; decide), _, _, _, rfl, rfl, signs_len', atI_getD _ 0 h1 (by rw [signs_len]; omega), ?_⟩
    have l0 := signs_let (n / 8 % 26).toNat (by omega)
    show gName 4 (V.str ⟨#[("abcdefghijklmnopqrstuvwxyz0123456789" : Str).cps.toList.getD (n / 8 % 26).toNat 0]⟩) _ _ _
    generalize ("abcdefghijklmnopqrstuvwxyz0123456789" : Str).cps.toList.getD (n / 8 % 26).toNat 0 = c0 at l0 ⊢
    refine ⟨_, rfl, _, _, rfl, rfl, ⟨by decide, by decide⟩, ?_⟩
    refine ⟨_, rfl, _, _, rfl, rfl, _, rfl, (by omega), (by omega), for_range (fun i σ H2 => H2 = H ∧ ∃ (z : Int) (x : Str) (kv : Option V), σ = [some (.int c), some (.str "abcdefghijklmnopqrstuvwxyz0123456789"), some (.int z), some (.int (1 + n % 8)), some (.str x), kv] ∧ NameOk x ∧ x.length = i + 1)
      ⟨rfl, _, _, _, rfl, nameOk_one l0, rfl⟩ ?_ ?_⟩
    · rintro i σ H2 hi ⟨rfl, z, x, kv, rfl, hx, hl⟩
      have g1 : 0 ≤ z % 36 := by omega
      have g2 : z % 36 < 36 := by omega
      refine ⟨_, rfl, _, rfl, _, rfl, _, _, rfl, rfl, (by show (0 : Int) < 36; decide), _, _, _, rfl, rfl, signs_len', atI_getD _ 0 g1 (by rw [signs_len]; omega), _, _, rfl, rfl, (by show x.length + 1 ≤ sizeLine; rw [hl]; exact Nat.le_of_lt (small1000 (by omega))), ?_⟩
      have l1 := signs_sg (z % 36).toNat (by omega)
      refine ⟨_, rfl, _, _, rfl, rfl, ⟨by decide, by decide⟩, ?_⟩
      obtain ⟨g3, g4⟩ := nameOk_snoc hx l1 (by omega)
      exact ⟨rfl, _, _, _, rfl, g3, by rw [g4, hl]⟩
    · rintro σ H2 ⟨rfl, z, x, kv, rfl, hx, hl⟩
      exact ⟨_, rfl, q x _ (Same.refl _) hx⟩
theorem ok_initM {A : Adr} (hX : XTxt K mg A) : XClN P w K mg base 1 A.NoRow "number" ["self", "number"] := by
  refine XClN.of hX.x_NoRow sc_NoRow___init__ rfl (fun _ _ _ _ _ _ us hl => by obtain ⟨a, b, rfl⟩ := len2 hl; rfl) (fun f' cdv A0 outer s H vs Q E xi h => ?_)
  obtain ⟨e, v, rfl, he, q⟩ := h
  refine ⟨_, (pss_cons (ps_initB (by rfl) hX.m_BundleError hX.b_BundleError (pa_cons (pv 0) (pa_cons (pv 1) pa_nil)))
      (pss_one (ps_fldX (pv 0) (pv 1) rfl))), ?_⟩
  exact ⟨_, rfl, _, rfl, e, A.NoRow, f', v, rfl, he, xi, _, rfl, _, rfl, e, A.NoRow, rfl, he, hX.k_NoRow, hX.f_NoRow, fun dx hdx => q dx hdx⟩
noncomputable def RefL (A : Adr) (n : Int) (H : Hp) (E : XK) : Prop := ∀ (H' : Hp) (dx : Addr), Same H H' → H' dx = some (.xd [("number", .int n)]) → E (.ref A.NoRow) (some dx) H'
noncomputable def spLine (A : Adr) : Sp := fun vs H Q E => ∃ (x : Str) (n : Int), vs = [.str x, .int n] ∧ x.length ≤ 100000 ∧ Wok (PySem.Txt.split x " ") ∧ (Row1 (PySem.Txt.split x " ") → ∀ (k : Str) (us : List Str) (r : Addr) (xs : List V) (H' : Hp), PySem.Txt.split x " " = k :: us → Same H H' → H' r = some (.tup (.str k :: xs)) → (k = "part" → xs = us.map V.str) → Q (.ref r) H') ∧ (¬ Row1 (PySem.Txt.split x " ") → RefL A n H E)
theorem ok_line (T : Txt K mg) {A : Adr} (hX : XTxt K mg A) : L2.ClD P w K mg base 8 "read_line" ["line", "number"] (spLine A) := by
  have C_read_row := ok_row1 (P := P) (w := w) (base := base) T hX
  have XN_NoRow := ok_initM (P := P) (w := w) (base := base) hX
  refine ClD.of T.d_read_line sc_read_line (fun vs H Q E h => ?_) (fun _ _ _ _ _ _ us hl => by obtain ⟨a, b, rfl⟩ := len2 hl; rfl) (fun f cdv A0 outer s H vs Q E hr h => ?_)
  · obtain ⟨x, n, rfl, _⟩ := h
    rfl
  · obtain ⟨x, n, rfl, hx, hw, q, hE⟩ := h
    refine ⟨_, (pss_one (ps_tryRaise (by rfl) hX.m_NoRow hX.k_NoRow (tb_ret C_read_row hr (by rfl) (pa_cons (pv 0) pa_nil)) XN_NoRow hr (by rfl) hX.m_NoRow hX.k_NoRow (fun a => (pa_cons (pv 1) pa_nil)))), ?_⟩
    refine ⟨_, rfl, x, rfl, hx, hw, q, fun hn H' dx s hd => ?_⟩
    refine ⟨A.NoRow, rfl, hX.s_NoRow, fun a ha => ⟨_, rfl, ?_⟩⟩
    exact ⟨upd_same, _, rfl, fun d2 hd2 => hE hn _ d2 ((s.new ha).new hd2) upd_same⟩
inductive LK where
  | head (n : Str)
  | work
  | bad
structure LineIs (x : Str) (k : LK) : Prop where
  len : x.length ≤ 1000
  wok : Wok (PySem.Txt.split x " ")
  nl : 10 ∉ x.cps.toList
  is : match k with
    | .head n => PySem.Txt.split x " " = [("part" : Str), n] ∧ NameOk n
    | .work => Row1 (PySem.Txt.split x " ") ∧ ∃ k' us, PySem.Txt.split x " " = k' :: us ∧ k' ≠ "part" ∧ k' ≠ "do"
    | .bad => ¬ Row1 (PySem.Txt.split x " ") ∨ ∃ us, PySem.Txt.split x " " = ("do" : Str) :: us
noncomputable def bump : List (Str × Nat) → List (Str × Nat)
  | [] => []
  | [(n, c)] => [(n, c + 1)]
  | p :: q :: r => p :: bump (q :: r)
theorem bump_snoc (n : Str) (c : Nat) : ∀ us : List (Str × Nat), bump (us ++ [(n, c)]) = us ++ [(n, c + 1)]
  | [] => rfl
  | [p] => rfl
  | p :: q :: r => congrArg (p :: ·) (bump_snoc n c (q :: r))
noncomputable def accS (acc : List (Str × Nat)) : LK → List (Str × Nat)
  | .head n => acc ++ [(n, 0)]
  | .work => bump acc
  | .bad => acc
noncomputable def isB (acc : List (Str × Nat)) : LK → Bool
  | .head _ => false
  | .work => acc.isEmpty
  | .bad => true
noncomputable def accL (ks : List LK) : List (Str × Nat) := ks.foldl accS []
theorem accL_snoc {ks : List LK} {i : Nat} {k : LK} (h : ks[i]? = some k) : accL (ks.take (i + 1)) = accS (accL (ks.take i)) k := by
  unfold accL
  rw [List.take_add_one, h, List.foldl_append]
  rfl
noncomputable def FirstBad (ks : List LK) (i : Nat) : Prop := (∃ k, ks[i]? = some k ∧ isB (accL (ks.take i)) k = true) ∧ ∀ j, j < i → ∀ k, ks[j]? = some k → isB (accL (ks.take j)) k = false
noncomputable def NoBad (ks : List LK) : Prop := ∀ (j : Nat) (k : LK), ks[j]? = some k → isB (accL (ks.take j)) k = false
structure It7 where
  n : Str
  rs : List V
  t : Addr
  l : Addr
noncomputable def ItAt (H0 H : Hp) (ex : List Addr) (i : It7) : Prop := H i.t = some (.tup [.str i.n, .ref i.l]) ∧ H i.l = some (.lst i.rs) ∧ i.l ∉ ex ∧ H0 i.l = none
structure Its (H0 H : Hp) (ex : List Addr) (is : List It7) : Prop where
  as : ∀ i ∈ is, ItAt H0 H ex i
  nd : (is.map (·.l)).Nodup
theorem ItAt.mono {H0 H H' : Hp} {ex : List Addr} {i : It7} (h : ItAt H0 H ex i) (s : Same H H') : ItAt H0 H' ex i := ⟨s _ _ h.1, s _ _ h.2.1, h.2.2.1, h.2.2.2⟩
theorem Its.mono {H0 H H' : Hp} {ex : List Addr} {is : List It7} (h : Its H0 H ex is) (s : Same H H') : Its H0 H' ex is := ⟨fun i hi => (h.as i hi).mono s, h.nd⟩
theorem Its.put {H0 H : Hp} {ex : List Addr} {is : List It7} {a : Addr} {ys zs : List V} (h : Its H0 H ex is) (ha : a ∈ ex) (hl : H a = some (.lst zs)) : Its H0 (upd H a (.lst ys)) ex is := ⟨fun i hi => by
  obtain ⟨h1, h2, h3, h4⟩ := h.as i hi
  refine ⟨?_, ?_, h3, h4⟩
  · rw [upd_ne (fun z => by rw [z, hl] at h1; cases h1)]; exact h1
  · rw [upd_ne (fun z => h3 (by rw [z]; exact ha))]; exact h2, h.nd⟩
noncomputable def accI (is : List It7) : List (Str × Nat) := is.map fun i => (i.n, i.rs.length)
theorem Its.row {H0 H : Hp} {ex : List Addr} {is : List It7} {i : It7} {x : V} (h : Its H0 H ex (is ++ [i])) : Its H0 (upd H i.l (.lst (i.rs ++ [x]))) ex (is ++ [{ i with rs := i.rs ++ [x] }]) := by
  have hi := h.as i (by simp)
  have hn := h.nd
  rw [List.map_append, List.nodup_append] at hn
  refine ⟨fun j hj => ?_, ?_⟩
  · rcases List.mem_append.mp hj with z | z
    · obtain ⟨h1, h2, h3, h4⟩ := h.as j (List.mem_append_left _ z)
      have ne : j.l ≠ i.l := hn.2.2 _ (List.mem_map_of_mem z) _ (by simp)
      refine ⟨?_, ?_, h3, h4⟩
      · rw [upd_ne (fun y => by rw [y, hi.2.1] at h1; cases h1)]; exact h1
      · rw [upd_ne ne]; exact h2
    · rw [List.mem_singleton.mp z]
      refine ⟨?_, upd_same, hi.2.2.1, hi.2.2.2⟩
      show upd H i.l (.lst (i.rs ++ [x])) i.t = _
      rw [upd_ne (fun y => by have := hi.1; rw [y, hi.2.1] at this; cases this)]
      exact hi.1
  · have := h.nd
    rw [List.map_append] at this ⊢
    exact this
theorem Its.part {H0 H : Hp} {ex : List Addr} {is : List It7} {n : Str} {t l : Addr} (h : Its H0 H ex is) (hl : H l = none) (ht : upd H l (.lst []) t = none) (hx : l ∉ ex) (h0 : H0 l = none) : Its H0 (upd (upd H l (.lst [])) t (.tup [.str n, .ref l])) ex (is ++ [⟨n, [], t, l⟩]) := by
  have s : Same H (upd (upd H l (.lst [])) t (.tup [.str n, .ref l])) := ((Same.refl H).new hl).new ht
  refine ⟨fun j hj => ?_, ?_⟩
  · rcases List.mem_append.mp hj with z | z
    · exact (h.as j z).mono s
    · rw [List.mem_singleton.mp z]
      exact ⟨upd_same, upd_keep upd_same ht, hx, h0⟩
  · rw [List.map_append, List.nodup_append]
    refine ⟨h.nd, by simp, fun a ha b hb => ?_⟩
    obtain ⟨i, hi, rfl⟩ := List.mem_map.mp ha
    rw [List.mem_singleton.mp hb]
    intro z
    have := (h.as i hi).2.1
    rw [show i.l = l from z, hl] at this
    cases this
noncomputable def PartL (H : Hp) (v : V) (p : Str × Nat) : Prop := ∃ t u rs, v = .ref t ∧ H t = some (.tup [.str p.1, .ref u]) ∧ H u = some (.tup rs) ∧ rs.length = p.2
noncomputable def PartsL (H : Hp) (r : Addr) (acc : List (Str × Nat)) : Prop := ∃ vs, H r = some (.tup vs) ∧ vs.length = acc.length ∧ ∀ (i : Nat) (p : Str × Nat), acc[i]? = some p → ∃ v, vs[i]? = some v ∧ PartL H v p
theorem PartL.mono {H H' : Hp} {v : V} {p : Str × Nat} (h : PartL H v p) (s : Same H H') : PartL H' v p := by
  obtain ⟨t, u, rs, e, h1, h2, h3⟩ := h
  exact ⟨t, u, rs, e, s _ _ h1, s _ _ h2, h3⟩
noncomputable def spRead7 (A : Adr) : Sp := fun vs H Q E => ∃ (xs : List Str) (ks : List LK), vs = [.str (Str.join "\n" xs)] ∧ xs ≠ [] ∧ xs.length = ks.length ∧ xs.length ≤ 41 ∧ (∀ (i : Nat) (x : Str), xs[i]? = some x → ∃ k, ks[i]? = some k ∧ LineIs x k) ∧
  ((Str.join "\n" xs = "" → ∀ (r : Addr) (H' : Hp), Same H H' → PartsL H' r [] → Q (.ref r) H')) ∧
  (Str.join "\n" xs ≠ "" → (∀ i, FirstBad ks i → RefL A i H E) ∧ (NoBad ks → ∀ (r : Addr) (H' : Hp), Same H H' → PartsL H' r (accL ks) → Q (.ref r) H'))
theorem nlS : ("\n" : Str) = ⟨#[10]⟩ := by decide +kernel
theorem lines_split {xs : List Str} (h : xs ≠ []) (hn : ∀ x ∈ xs, 10 ∉ x.cps.toList) : PySem.Txt.split (Str.join "\n" xs) "\n" = xs := by
  rw [nlS]
  exact split_join h hn
theorem lines_short {xs : List Str} (h : xs.length ≤ 41) (hl : ∀ x ∈ xs, x.length ≤ 1000) : (Str.join "\n" xs).length ≤ 50000 := by
  have h1 := StrLaws.join_length_le "\n" xs
  have h4 : ("\n" : Str).length = 1 := by decide +kernel
  have h2 : (xs.map (·.length)).sum ≤ 1000 * xs.length := by
    clear h h1
    induction xs with
    | nil => exact Nat.zero_le _
    | cons a r ih =>
      have := hl a (by simp)
      have := ih fun x hx => hl x (by simp [hx])
      simp only [List.map_cons, List.sum_cons, List.length_cons]
      omega
  rw [h4] at h1
  omega
theorem kind_row {x : Str} {k : LK} (h : LineIs x k) (hk : k ≠ .bad) : Row1 (PySem.Txt.split x " ") := by
  cases k with
  | head n =>
    obtain ⟨e, hn⟩ := h.is
    rw [e]
    exact ⟨_, _, rfl, fun z => absurd z (by decide), fun z => absurd z (by decide), fun z => absurd z (by decide), fun z => absurd z (by decide), fun z => absurd z (by decide), fun z => absurd z (by decide), fun _ => ⟨n, rfl, hn⟩, by decide⟩
  | work => exact h.is.1
  | bad => exact absurd rfl hk
theorem ok_read7 (T : Txt K mg) {A : Adr} (hX : XTxt K mg A) : L2.ClD P w K mg base 9 "read" ["text"] (spRead7 A) := by
  have C_read_line := ok_line (P := P) (w := w) (base := base) T hX
  have X_NoRow := ok_initN (P := P) (w := w) (base := base) hX
  refine ClD.of T.d_read sc_read (fun vs H Q E h => ?_) (fun _ _ _ _ _ _ us hl => by obtain ⟨a, rfl⟩ := len1 hl; rfl) (fun f cdv A0 outer s H vs Q E hr h => ?_)
  · obtain ⟨xs, ks, rfl, _⟩ := h
    rfl
  · obtain ⟨xs, ks, rfl, hne, hxk, hfew, hls, q0, q1⟩ := h
    refine ⟨_, (pss_cons (ps_if (pt_cmpR op_eq (pv 0) pe_str (nomark _))
        (pss_one (ps_ret (pe_tup pa_nil))) pss_nil)
      (pss_cons (ps_set (i := 1) sc_read.nd rfl (Or.inl rfl) (pe_lst pa_nil))
      (pss_cons (ps_for passOwnD rfl (pi_enumL (by rfl) T.n_enumerate (pa_cons (pe_bm PySem.F.plainAttrs_str PySem.F.slot_str_split PySem.F.type_str_split mt_split (pv 0) (pa_cons pe_str pa_nil)) pa_nil)) (pg_tup rfl (pgs_cons (pg_name (i := 2) sc_read.nd rfl (Or.inl rfl)) (pgs_cons (pg_name (i := 3) sc_read.nd rfl (Or.inl rfl)) pgs_nil)))
        (pss_cons (ps_set (i := 4) sc_read.nd rfl (Or.inl rfl) (pe_fnED C_read_line passED hr (by rfl) (pa_cons (pv 3) (pa_cons (pv 2) pa_nil))))
        (pss_one (ps_if (pt_cmpR op_eq (pe_ix ix_tup (pv 4) pe_int (fun _ _ => rfl)) pe_str (nomark _))
          (pss_one (ps_expr (pe_bm PySem.F.plainAttrs_list PySem.F.slot_list_append PySem.F.type_list_append mt_append (pv 1) (pa_cons (pe_tup (pa_cons (pe_ix ix_tup (pv 4) pe_int (fun _ _ => rfl)) (pa_cons (pe_lst pa_nil) pa_nil))) pa_nil)))) (pss_one (ps_if (PW.pt (pw_or (pt_cmpR op_eq (pe_ix ix_tup (pv 4) pe_int (fun _ _ => rfl)) pe_str (nomark _)) (pw_or1 (pt_not (pt_truth (pv 1) (fun _ => rfl))))))
            (pss_one (ps_raise1D X_NoRow hr (by rfl) hX.m_NoRow hX.k_NoRow (pa_cons (pv 2) pa_nil))) (pss_one (ps_expr (pe_bm PySem.F.plainAttrs_list PySem.F.slot_list_append PySem.F.type_list_append mt_append (pe_ix ix_tup (pe_ix ix_list (pv 1) (pe_un un_neg pe_int) (fun _ _ => rfl)) pe_int (fun _ _ => rfl)) (pa_cons (pv 4) pa_nil))))))))))
      (pss_one (ps_ret (pe_callTy call_tuple_of (by rfl) T.n_tuple boot_tuple (pa_cons (pe_comp (M := ["name", "rows"]) (ρ := [none, none]) (defScope s_read) ["text", "parts", "number", "line", "row"] ⟨rfl, by decide +kernel, by decide +kernel, by decide +kernel, rfl, by decide +kernel, by decide +kernel⟩ (pi_list (pv 1)) (fun _ _ _ _ _ _ => (pg_tupK (K := K) (n := 2) rfl rfl (pgs_cons (pg_name (i := 0) (show (["name", "rows"] : List Str).Nodup by decide +kernel) rfl (Or.inl rfl)) (pgs_cons (pg_name (i := 1) (show (["name", "rows"] : List Str).Nodup by decide +kernel) rfl (Or.inl rfl)) pgs_nil)))) (fun _ _ _ _ _ _ => pts_nil) (fun _ _ _ _ _ _ => (pe_tup (pa_cons (pv 0) (pa_cons (pe_callTy (call_tuple_ofK (K := K) rfl) (by rfl) T.n_tuple boot_tuple (pa_cons (pv 1) pa_nil)) pa_nil))))) pa_nil))))))), ?_⟩
    by_cases e0 : Str.join "\n" xs = ""
    · rw [e0]
      exact ⟨_, rfl, rfl, _, rfl, iteSE ⟨(by show 0 ≤ sizeLine; decide), fun p hp => q0 e0 p _ ((Same.refl H).new hp) ⟨[], upd_same, rfl, fun i p h => by simp at h⟩⟩⟩
    obtain ⟨qb, qg⟩ := q1 e0
    have hmem : ∀ x ∈ xs, ∃ k, LineIs x k := fun x hx => by
      obtain ⟨i, hi⟩ := List.mem_iff_getElem?.mp hx
      obtain ⟨k, _, h⟩ := hls i x hi
      exact ⟨k, h⟩
    refine ⟨_, rfl, rfl, _, rfl, iteSN e0 ?_⟩
    refine ⟨(by show 0 ≤ sizeLine; decide), fun a ha => ?_⟩
    refine ⟨_, rfl, rfl, _, _, rfl, rfl, (by decide +kernel), (by have := lines_short hfew fun x hx => let ⟨_, h⟩ := hmem x hx; h.len; omega), fun l hl => ?_⟩
    rw [lines_split hne fun x hx => let ⟨_, h⟩ := hmem x hx; h.nl]
    have hal : a ≠ l := ne_of_none (upd_same (H := H) (a := a) (o := .lst [])) hl
    have s1 : Same H (upd (upd H a (.lst [])) l (.lst (xs.map V.str))) := ((Same.refl H).new ha).new hl
    refine ⟨l, rfl, ⟨_, SqL.of upd_same⟩, for_enumL (K := K) (a := l) (xs := xs.map V.str) (fun i σ H2 => ∃ (is : List It7) (v2 v3 v4 : Option V), σ = [some (.str (Str.join "\n" xs)), some (.ref a), v2, v3, v4] ∧ Same H H2 ∧ H2 a = some (.lst (is.map fun i => .ref i.t)) ∧ H2 l = some (.lst (xs.map V.str)) ∧ Its H H2 [a, l] is ∧ accI is = accL (ks.take i) ∧ is.length ≤ i ∧ (∀ p ∈ is, p.rs.length ≤ i) ∧ ∀ j, j < i → ∀ k, ks[j]? = some k → isB (accL (ks.take j)) k = false)
      ⟨[], none, none, none, rfl, s1, upd_keep upd_same hl, upd_same, ⟨fun i h => by simp at h, by simp⟩, rfl, Nat.zero_le _, (fun p h => by simp at h), fun j h => absurd h (Nat.not_lt_zero _)⟩ (fun i σ H2 _ ⟨_, _, _, _, _, _, _, h, _⟩ => SqL.of h) ?_ ?_⟩
    · rintro i x p σ H2 hx ⟨is, v2, v3, v4, rfl, s2, ha2, hl2, hop, hacc, hil, hpl, hgood⟩ hp
      rw [List.getElem?_map] at hx
      obtain ⟨x, hxi, rfl⟩ := Option.map_eq_some_iff.mp hx
      obtain ⟨k, hki, hL⟩ := hls i x hxi
      have hi41 : i < 41 := Nat.lt_of_lt_of_le (List.getElem?_eq_some_iff.mp hxi).1 hfew
      refine ⟨p, _, rfl, SqT.of upd_same, rfl, _, _, rfl, _, _, rfl, rfl, ?_⟩
      have s3 := s2.new (o := .tup [.int i, .str x]) hp
      have ref : isB (accL (ks.take i)) k = true → RefL A i (upd H2 p (.tup [.int i, .str x])) E := fun hb H' dx s hd => qb i ⟨⟨k, hki, hb⟩, hgood⟩ H' dx (s3.trans s) hd
      refine ⟨_, rfl, _, rfl, x, i, rfl, (by have := hL.len; omega), hL.wok, (fun hrow k' us r vs H4 ek s4 hr4 hpart => ?_), fun hn => ?_⟩
      · have ha4 := s4 _ _ (upd_keep (o := .tup [.int i, .str x]) ha2 hp)
        have hl4 := s4 _ _ (upd_keep (o := .tup [.int i, .str x]) hl2 hp)
        have sH4 : Same H H4 := s3.trans s4
        have hop4 : Its H H4 [a, l] is := hop.mono (((Same.refl H2).new hp).trans s4)
        have hgd : isB (accL (ks.take i)) k = false → ∀ j, j < i + 1 → ∀ k, ks[j]? = some k → isB (accL (ks.take j)) k = false := fun hk j hj k2 h2 => by
          by_cases e : j = i
          · subst e; rw [hki] at h2; cases h2; exact hk
          · exact hgood j (by omega) k2 h2
        by_cases e1 : k' = "part"
        · subst e1
          have hv := hpart rfl
          obtain ⟨n, rfl, eu⟩ : ∃ n, k = .head n ∧ us = [n] := by
            have hi := hL.is
            rw [ek] at hi
            cases k with
            | head n => exact ⟨n, rfl, by cases hi.1; rfl⟩
            | work =>
              obtain ⟨_, k2, us2, e2, ne2, _⟩ := hi
              cases e2
              exact absurd rfl ne2
            | bad =>
              rcases hi with z | ⟨us2, z⟩
              · rw [ek] at hrow; exact absurd hrow z
              · exact absurd (List.cons.inj z).1 (by decide)
          subst eu
          subst hv
          refine ⟨_, rfl, r, _, _, _, rfl, rfl, SqT.of hr4, atI_nat (j := 0) rfl, rfl, _, rfl, iteSE ?_⟩
          refine ⟨_, rfl, .inl ⟨rfl, _, SqL.of ha4⟩, _, rfl, r, _, _, _, rfl, rfl, SqT.of hr4, atI_nat (j := 1) rfl, (by show 0 ≤ sizeLine; decide), fun l2 gl2 => ⟨(by show 2 ≤ sizeLine; decide), fun t gt => ⟨a, _, _, rfl, rfl, upd_keep (upd_keep ha4 gl2) gt, small1000 (by rw [List.length_map]; omega), ?_⟩⟩⟩
          have hal2 : l2 ∉ [a, l] := by
            intro z
            rcases List.mem_cons.mp z with z | z
            · rw [z, ha4] at gl2; cases gl2
            · rw [List.mem_singleton.mp z, hl4] at gl2; cases gl2
          have hop5 := hop4.part (n := n) gl2 gt hal2 (sH4.free gl2)
          have ha5 : upd (upd H4 l2 (.lst [])) t (.tup [.str n, .ref l2]) a = some (.lst (is.map fun i => .ref i.t)) := upd_keep (upd_keep ha4 gl2) gt
          refine ⟨is ++ [⟨n, [], t, l2⟩], _, _, _, rfl, ((sH4.new gl2).new gt).put ha, ?_, ?_, hop5.put (by simp) ha5, ?_, by simp; omega, ?_, hgd rfl⟩
          · rw [upd_same, List.map_append]; rfl
          · rw [upd_ne hal.symm]
            exact upd_keep (upd_keep hl4 gl2) gt
          · rw [accL_snoc hki, ← hacc]
            unfold accI
            rw [List.map_append]; rfl
          · intro d hd
            rcases List.mem_append.mp hd with z | z
            · exact Nat.le_succ_of_le (hpl d z)
            · rw [List.mem_singleton.mp z]; exact Nat.zero_le _
        refine ⟨_, rfl, r, _, _, _, rfl, rfl, SqT.of hr4, atI_nat (j := 0) rfl, rfl, _, rfl, iteSN e1 ?_⟩
        by_cases e2 : k' = "do"
        · subst e2
          have hkb : k = .bad := by
            have hi := hL.is
            rw [ek] at hi
            cases k with
            | head n => exact absurd (List.cons.inj hi.1).1 (by decide)
            | work =>
              obtain ⟨_, k2, us2, e2, _, ne2⟩ := hi
              cases e2
              exact absurd rfl ne2
            | bad => rfl
          subst hkb
          refine ⟨_, rfl, r, _, _, _, rfl, rfl, SqT.of hr4, atI_nat (j := 0) rfl, rfl, _, rfl, iteSE ?_⟩
          exact ⟨_, rfl, _, rfl, fun dx hdx => ref rfl _ dx (s4.new hdx) upd_same⟩
        refine ⟨_, rfl, r, _, _, _, rfl, rfl, SqT.of hr4, atI_nat (j := 0) rfl, rfl, _, rfl, iteSN e2 ?_⟩
        have hkw : k = .work := by
          have hi := hL.is
          rw [ek] at hi
          cases k with
          | head n => exact absurd (List.cons.inj hi.1).1 e1
          | work => rfl
          | bad =>
            rcases hi with z | ⟨us2, z⟩
            · rw [ek] at hrow; exact absurd hrow z
            · exact absurd (List.cons.inj z).1 e2
        subst hkw
        refine ⟨_, rfl, _, .inl ⟨_, SqL.of ha4, rfl⟩, ?_⟩
        rcases List.eq_nil_or_concat is with rfl | ⟨is', it, rfl⟩
        · refine iteT ?_
          have hb : isB (accL (ks.take i)) .work = true := by rw [← hacc]; rfl
          exact ⟨_, rfl, _, rfl, fun dx hdx => ref hb _ dx (s4.new hdx) upd_same⟩
        · rw [List.concat_eq_append] at *
          rw [show (!(!((is' ++ [it]).map fun i => V.ref i.t).isEmpty)) = false by simp]
          refine iteF ?_
          obtain ⟨g1, g2, g3, g4⟩ := hop4.as it (by simp)
          have hla : it.l ≠ a := fun z => g3 (by rw [z]; simp)
          have hll : it.l ≠ l := fun z => g3 (by rw [z]; simp)
          have hrl := hpl it (by simp)
          have hb : isB (accL (ks.take i)) .work = false := by rw [← hacc]; simp [isB, accI]
          refine ⟨_, rfl, _, rfl, a, _, _, _, rfl, rfl, SqL.of ha4, (by rw [List.map_append]; exact atI_last ..), it.t, _, _, _, rfl, rfl, SqT.of g1, atI_nat (j := 1) rfl, .inl ⟨rfl, _, SqL.of g2⟩, _, rfl, it.l, _, _, rfl, rfl, g2, small1000 (by omega), ?_⟩
          refine ⟨is' ++ [{ it with rs := it.rs ++ [.ref r] }], _, _, _, rfl, sH4.put g4, ?_, ?_, hop4.row, ?_, by simp at hil ⊢; omega, ?_, hgd hb⟩
          · rw [upd_ne hla.symm, ha4, List.map_append, List.map_append]; rfl
          · rw [upd_ne hll.symm]; exact hl4
          · rw [accL_snoc hki, ← hacc]
            unfold accI accS
            rw [List.map_append, List.map_append]
            simp only [List.map_cons, List.map_nil, bump_snoc, List.length_append, List.length_cons, List.length_nil]
          · intro d hd
            rcases List.mem_append.mp hd with z | z
            · exact Nat.le_succ_of_le (hpl d (by simp [z]))
            · rw [List.mem_singleton.mp z]
              show (it.rs ++ [V.ref r]).length ≤ i + 1
              rw [List.length_append]
              simp only [List.length_cons, List.length_nil]
              omega
      · have hkb : k = .bad := by
          cases k with
          | bad => rfl
          | head n => exact absurd (kind_row hL (fun z => by cases z)) hn
          | work => exact absurd (kind_row hL (fun z => by cases z)) hn
        subst hkb
        exact ref rfl
    · rintro σ H2 ⟨is, v2, v3, v4, rfl, s2, ha2, hl2, hop, hacc, hil, hpl, hgood⟩
      rw [List.length_map] at hacc hil hgood
      have hall : accI is = accL ks := by rw [hacc, hxk, List.take_length]
      have hg : NoBad ks := fun j k hj => hgood j (by rw [hxk]; exact (List.getElem?_eq_some_iff.mp hj).1) k hj
      have hvl60 : is.length ≤ 41 := by omega
      refine ⟨_, rfl, a, rfl, ⟨_, SqL.of ha2⟩, fun D hD => ?_⟩
      refine comp_by is.length (fun j σ H5 => ∃ (v0 v1 : Option V) (us : List V), σ = [v0, v1] ∧ Same H2 H5 ∧ H5 D = some (.lst us) ∧ us.length = j ∧ ∀ m p, m < j → (accI is)[m]? = some p → ∃ v, us[m]? = some v ∧ PartL H5 v p) ⟨_, _, [], rfl, (Same.refl H2).new hD, upd_same, rfl, fun m p h => absurd h (Nat.not_lt_zero _)⟩ ?_ ?_
      · rintro j σ H5 hj ⟨v0, v1, us, rfl, s5, hD5, hul, hP⟩
        have hjm : j < (is.map fun i => V.ref i.t).length := by rw [List.length_map]; exact hj
        refine ⟨⟨_, (is.map fun i => V.ref i.t)[j], SqL.of (s5 _ _ ha2), List.getElem?_eq_getElem hjm⟩, ?_⟩
        rintro v H6 ⟨rfl, hv⟩
        have hv' := hv _ (SqL.of (s5 _ _ ha2))
        obtain ⟨it, hit, e⟩ := Option.map_eq_some_iff.mp (by rw [← List.getElem?_map]; exact hv')
        subst e
        obtain ⟨h1, h2, _, _⟩ := hop.as it (List.mem_of_getElem? hit)
        refine ⟨it.t, _, rfl, SqT.of (s5 _ _ h1), rfl, _, _, rfl, _, _, rfl, rfl, ?_⟩
        refine nt ?_
        refine ⟨_, rfl, _, rfl, it.l, _, rfl, .inl ⟨SqL.of (s5 _ _ h2), fun u gu => ⟨(by show 2 ≤ sizeLine; decide), fun t2 gt2 => ⟨us, upd_keep (upd_keep hD5 gu) gt2, small1000 (by omega), ?_⟩⟩⟩⟩
        have huD : u ≠ D := (ne_of_none hD5 gu).symm
        have htD : t2 ≠ D := (ne_of_none (upd_keep hD5 gu) gt2).symm
        have hut : u ≠ t2 := ne_of_none upd_same gt2
        refine ⟨_, _, us ++ [.ref t2], rfl, ((s5.new gu).new gt2).put hD, upd_same, (by rw [List.length_append, hul]; rfl), fun m p hm hp => ?_⟩
        by_cases e : m = j
        · subst e
          refine ⟨.ref t2, (by rw [← hul]; simp), t2, u, it.rs, rfl, ?_, ?_, ?_⟩
          · rw [upd_ne htD, upd_same]
            unfold accI at hp
            rw [List.getElem?_map, hit] at hp
            cases hp
            rfl
          · rw [upd_ne huD, upd_ne hut, upd_same]
          · unfold accI at hp
            rw [List.getElem?_map, hit] at hp
            cases hp
            rfl
        · obtain ⟨v, hv, t3, u3, rs3, e3, k1, k2, k3⟩ := hP m p (by omega) hp
          refine ⟨v, (by rw [List.getElem?_append_left (List.getElem?_eq_some_iff.mp hv).1]; exact hv), t3, u3, rs3, e3, ?_, ?_, k3⟩
          · rw [upd_ne (fun z => by rw [z, hD5] at k1; cases k1)]; exact upd_keep (upd_keep k1 gu) gt2
          · rw [upd_ne (fun z => by rw [z, hD5] at k2; cases k2)]; exact upd_keep (upd_keep k2 gu) gt2
      · rintro σ H5 ⟨v0, v1, us, rfl, s5, hD5, hul, hP⟩
        refine ⟨⟨_, SqL.of (s5 _ _ ha2), by simp⟩, ?_⟩
        refine ⟨D, _, rfl, .inl ⟨SqL.of hD5, fun b gb => ?_⟩⟩
        refine qg hg b _ ((s2.trans s5).new gb) ⟨us, upd_same, (by rw [hul, ← hall]; unfold accI; rw [List.length_map]), fun m p hp => ?_⟩
        rw [← hall] at hp
        obtain ⟨v, hv, hpl2⟩ := hP m p (by have := (List.getElem?_eq_some_iff.mp hp).1; unfold accI at this; rw [List.length_map] at this; exact this) hp
        exact ⟨v, hv, hpl2.mono ((Same.refl H5).new gb)⟩
theorem call_isinstEDK {X : Cx} {K : PySem.W.Frag} (h : X.K = K) : CallR X (.builtin "isinstance") (fun xs H Q => ∃ a C dd c b, xs = [.ref a, c] ∧ H a = some (ExOD a C dd) ∧ DictThere H dd ∧ XK1 K C ∧ ExC K H (.ref C) c b ∧ Q (.bl b) H) := h ▸ call_isinstED
theorem pe_fldXDK {X : Cx} {K : PySem.W.Frag} (h : X.K = K) {e : Expr} {ta : TE} {f : Str} {pos : Pos} (he : PE X e ta) (hb : attributeBase e f X.env (eval e X.env) = eval e X.env) : PE X (.Attribute e f pos) (tFldXD K ta f) := h ▸ pe_fldXD he hb
theorem PartsL.mono {H H' : Hp} {r : Addr} {acc : List (Str × Nat)} (h : PartsL H r acc) (s : Same H H') : PartsL H' r acc := by
  obtain ⟨vs, h1, h2, h3⟩ := h
  exact ⟨vs, s _ _ h1, h2, fun i p hp => let ⟨v, hv, g⟩ := h3 i p hp; ⟨v, hv, g.mono s⟩⟩
structure Lines (xs : List Str) (ks : List LK) : Prop where
  ne : xs ≠ []
  len : xs.length = ks.length
  few : xs.length ≤ 41
  is : ∀ (i : Nat) (x : Str), xs[i]? = some x → ∃ k, ks[i]? = some k ∧ LineIs x k
noncomputable def spLAlone : Sp := fun vs H Q _ => ∃ (xs : List Str) (ks : List LK), vs = [.str (Str.join "\n" xs)] ∧ Lines xs ks ∧ ∀ H', Same H H' → Q (.bl true) H'
theorem ok_lalone (T : Txt K mg) {A : Adr} (hX : XTxt K mg A) : L2.Cl P w K mg base 10 "_law_alone" ["_law_text"] spLAlone := by
  have C_read := ok_read7 (P := P) (w := w) (base := base) T hX
  refine Cl.of T.d_law_alone sc_law_alone (fun vs H Q E h => ?_) (fun _ _ _ _ _ _ us hl => by obtain ⟨a, rfl⟩ := len1 hl; rfl) (fun f cdv A0 outer s H vs Q E hr h => ?_)
  · obtain ⟨xs, ks, rfl, _⟩ := h
    rfl
  · obtain ⟨xs, ks, rfl, hL, q⟩ := h
    refine ⟨_, (pss_cons (ps_tryAsD (i := 1) sc_law_alone.nd rfl rfl (by rfl) hX.m_BundleError hX.k_BundleError (tb_exprD C_read hr (by rfl) (pa_cons (pv 0) pa_nil))
        (fun a => (pss_one (ps_ret (pe_and (pe_not (pe_callB (call_isinstEDK (K := K) rfl) (by rfl) T.n_isinstance PyProof.Rows.boot_isinstance (pa_cons (pv 1) (pa_cons (pe_glob (v := .ref A.Twice) (by rfl) hX.m_Twice rfl) pa_nil)))) (pe_and (pe_not (pe_callB (call_isinstEDK (K := K) rfl) (by rfl) T.n_isinstance PyProof.Rows.boot_isinstance (pa_cons (pv 1) (pa_cons (pe_glob (v := .ref A.NoPart) (by rfl) hX.m_NoPart rfl) pa_nil)))) (pe_one (pe_not (pe_callB (call_isinstEDK (K := K) rfl) (by rfl) T.n_isinstance PyProof.Rows.boot_isinstance (pa_cons (pv 1) (pa_cons (pe_glob (v := .ref A.NoName) (by rfl) hX.m_NoName rfl) pa_nil)))))))))))
      (pss_one (ps_ret pe_bl))), ?_⟩
    refine ⟨_, rfl, xs, ks, rfl, hL.ne, hL.len, hL.few, hL.is, (fun e r H1 s1 hp => q _ s1), fun e => ⟨fun i hb H1 dx s1 hdx => ?_, fun hg r H1 s1 hp => q _ s1⟩⟩
    refine ⟨A.NoRow, rfl, hX.s_Base, fun a na => ?_⟩
    have s2 : Same H (upd H1 a (ExOD a A.NoRow (some dx))) := s1.new na
    have he : upd H1 a (ExOD a A.NoRow (some dx)) a = some (ExOD a A.NoRow (some dx)) := upd_same
    have hd2 := upd_keep (o := ExOD a A.NoRow (some dx)) hdx na
    generalize upd H1 a (ExOD a A.NoRow (some dx)) = H2 at s2 he hd2 ⊢
    refine ⟨_, rfl, a, A.NoRow, some dx, _, false, rfl, he, ⟨_, hd2⟩, hX.k_NoRow, .one hX.i_Twice, _, rfl, _, rfl, iteT ?_⟩
    refine ⟨_, rfl, a, A.NoRow, some dx, _, false, rfl, he, ⟨_, hd2⟩, hX.k_NoRow, .one hX.i_NoPart, _, rfl, _, rfl, iteT ?_⟩
    refine ⟨_, rfl, a, A.NoRow, some dx, _, false, rfl, he, ⟨_, hd2⟩, hX.k_NoRow, .one hX.i_NoName, _, rfl, ?_⟩
    exact q _ s2
theorem join_cps (a b : Str) (r : List Str) : (Str.join " " (a :: b :: r)).cps.toList = a.cps.toList ++ ((" " : Str).cps.toList ++ (Str.join " " (b :: r)).cps.toList) := by
  have := join_app " " (b :: r) (by simp) [a] (by simp)
  have e : Str.join " " (a :: b :: r) = Str.join " " [a] ++ " " ++ Str.join " " (b :: r) := this
  have e1 : Str.join " " [a] = a := rfl
  rw [e, e1, cps_app, cps_app, List.append_assoc]
theorem join_cps1 (a : Str) : (Str.join " " [a]).cps.toList = a.cps.toList := rfl
noncomputable def Wd7 (y : Str) : Prop := 32 ∉ y.cps.toList ∧ 10 ∉ y.cps.toList ∧ y.length ≤ 40
noncomputable instance (y : Str) : Decidable (Wd7 y) := inferInstanceAs (Decidable (_ ∧ _ ∧ _))
theorem nm_signs {l : List Nat} (h : isNm l = true) : ∀ c ∈ l, isSg c = true := by
  cases l with
  | nil => exact absurd h Bool.false_ne_true
  | cons a r =>
    simp only [isNm, Bool.and_eq_true, List.all_eq_true] at h
    intro c hc
    rcases List.mem_cons.mp hc with z | z
    · rw [z]; unfold isSg; rw [h.1.1]; rfl
    · exact h.1.2 c z
theorem sg_no {c : Nat} (h : isSg c = true) : c ≠ 32 ∧ c ≠ 10 := by
  refine ⟨fun z => ?_, fun z => ?_⟩ <;> (rw [z] at h; exact absurd h (by decide))
theorem wd7_name {x : Str} (h : NameOk x) : Wd7 x := ⟨fun z => (sg_no (nm_signs h _ z)).1 rfl, fun z => (sg_no (nm_signs h _ z)).2 rfl, by have := h.len; omega⟩
theorem wd7_cons {c : Nat} {x : Str} (hc : c ≠ 32 ∧ c ≠ 10) (h : NameOk x) : Wd7 ((⟨#[c]⟩ : Str) ++ x) := by
  have hx := wd7_name h
  have e : ((⟨#[c]⟩ : Str) ++ x).cps.toList = c :: x.cps.toList := by rw [cps_app]; rfl
  refine ⟨?_, ?_, ?_⟩
  · rw [e]; intro z; rcases List.mem_cons.mp z with z | z
    · exact hc.1 z.symm
    · exact hx.1 z
  · rw [e]; intro z; rcases List.mem_cons.mp z with z | z
    · exact hc.2 z.symm
    · exact hx.2.1 z
  · have hl := h.len
    show ((⟨#[c]⟩ : Str) ++ x).cps.size ≤ 40
    rw [← Array.length_toList, e]
    have : x.cps.toList.length = x.length := by rw [Array.length_toList]; rfl
    rw [List.length_cons, this]
    omega
theorem join_no10 : ∀ {ws : List Str}, (∀ y ∈ ws, Wd7 y) → 10 ∉ (Str.join " " ws).cps.toList
  | [], _ => by decide +kernel
  | [a], h => (h a (by simp)).2.1
  | a :: b :: r, h => by
    rw [join_cps]
    intro z
    rcases List.mem_append.mp z with z | z
    · exact (h a (by simp)).2.1 z
    · rcases List.mem_append.mp z with z | z
      · revert z; decide +kernel
      · exact join_no10 (fun y hy => h y (List.mem_cons_of_mem _ hy)) z
noncomputable def KindIs (ws : List Str) (k : LK) : Prop := match k with
    | .head n => ws = [("part" : Str), n] ∧ NameOk n
    | .work => Row1 ws ∧ ∃ k' us, ws = k' :: us ∧ k' ≠ "part" ∧ k' ≠ "do"
    | .bad => ¬ Row1 ws ∨ ∃ us, ws = ("do" : Str) :: us
theorem line_of {ws : List Str} {x : Str} {k : LK} (e : x = Str.join " " ws) (hne : ws ≠ []) (hw : ∀ y ∈ ws, Wd7 y) (hf : ws.length ≤ 20) (h : KindIs ws k) : LineIs x k := by
  have es : PySem.Txt.split x " " = ws := by rw [e]; exact split_join hne fun a ha => (hw a ha).1
  refine ⟨?_, ?_, ?_, ?_⟩
  · have h1 := StrLaws.join_length_le " " ws
    have h4 : (" " : Str).length = 1 := by decide +kernel
    have h2 : (ws.map (·.length)).sum ≤ 40 * ws.length := by
      clear h h1 es e hne hf
      induction ws with
      | nil => exact Nat.zero_le _
      | cons a r ih =>
        have := (hw a (by simp)).2.2
        have := ih fun x hx => hw x (by simp [hx])
        simp only [List.map_cons, List.sum_cons, List.length_cons]
        omega
    rw [h4] at h1
    rw [e]
    omega
  · rw [es]; exact ⟨by omega, fun y hy => by have := (hw y hy).2.2; omega⟩
  · rw [e]; exact join_no10 hw
  · rw [es]; exact h
theorem no_row0 (k : Str) : ¬ Row1 [k] := fun ⟨k', us, e, h⟩ => by
  cases e
  have hm := h.2.2.2.2.2.2.2
  simp only [List.mem_cons, List.not_mem_nil, or_false] at hm
  obtain ⟨h1, h2, h3, h4, h5, h6, h7, _⟩ := h
  have nw : ∀ {ok : List Str → Prop}, W1 ok [] → ok [] := fun w => (w1_bare (no_when2 (ws := []) (by decide))).mp w
  rcases hm with z | z | z | z | z | z | z | z | z
  · exact absurd (h1 z).m3 (by decide)
  · obtain ⟨g, o, e, _⟩ := h2 z; cases e
  · obtain ⟨o, us, e, _⟩ := h3 z; cases e
  · exact absurd (nw (h4 z)).odd (by decide)
  · exact absurd (h5 z).odd (by decide)
  · obtain ⟨x, e, _⟩ := nw (h6 z); cases e
  · obtain ⟨x, e, _⟩ := h7 (.inl z); cases e
  · obtain ⟨x, e, _⟩ := h7 (.inr (.inl z)); cases e
  · obtain ⟨x, e, _⟩ := h7 (.inr (.inr z)); cases e
theorem no_kind {k : Str} {us : List Str} (h : k ∉ (["bring", "give", "set", "say", "need", "ask", "take", "part", "do"] : List Str)) : ¬ Row1 (k :: us) := fun ⟨k', us', e, g⟩ => by
  cases e
  exact h g.2.2.2.2.2.2.2
theorem no_only {k : Str} {us : List Str} (hk : k = "take" ∨ k = "part" ∨ k = "do") (h : ¬ Only1 us) : ¬ Row1 (k :: us) := fun ⟨k', us', e, g⟩ => by
  cases e
  exact h (g.2.2.2.2.2.2.1 hk)
noncomputable def good6 (n : Str) : List Str := ["take " ++ n, "set " ++ n ++ " = 4 - " ++ n, "say " ++ n, "say 7 when " ++ n, "bring " ++ n ++ " x as y", "ask " ++ n]
noncomputable def goodW (n : Str) : List (List Str) := [["take", n], ["set", n, "=", "4", "-", n], ["say", n], ["say", "7", "when", n], ["bring", n, "x", "as", "y"], ["ask", n]]
noncomputable def bad18 (n : Str) : List Str := ["", " ", "part", "part " ++ n ++ " ", " part " ++ n, "Part " ++ n, "part " ++ n ++ " b", "take", "set " ++ n, "set " ++ n ++ " = ", "say " ++ n ++ "  when b", "give " ++ n, "bring", "ask", "need", "take A" ++ n, "take 1" ++ n, n]
noncomputable def badW (n : Str) : List (List Str) := [[""], ["", ""], ["part"], ["part", n, ""], ["", "part", n], ["Part", n], ["part", n, "b"], ["take"], ["set", n], ["set", n, "=", ""], ["say", n, "", "when", "b"], ["give", n], ["bring"], ["ask"], ["need"], ["take", (⟨#[65]⟩ : Str) ++ n], ["take", (⟨#[49]⟩ : Str) ++ n], [n]]
theorem good_eq (n : Str) : good6 n = (goodW n).map (Str.join " ") := by
  unfold good6 goodW
  simp only [List.map_cons, List.map_nil]
  rw [show "take " ++ n = Str.join " " ["take", n] from str_ext (by simp only [cps_app, join_cps, join_cps1, List.append_assoc]; rfl),
    show "set " ++ n ++ " = 4 - " ++ n = Str.join " " ["set", n, "=", "4", "-", n] from str_ext (by simp only [cps_app, join_cps, join_cps1, List.append_assoc]; rfl),
    show "say " ++ n = Str.join " " ["say", n] from str_ext (by simp only [cps_app, join_cps, join_cps1, List.append_assoc]; rfl),
    show "say 7 when " ++ n = Str.join " " ["say", "7", "when", n] from str_ext (by simp only [cps_app, join_cps, join_cps1, List.append_assoc]; rfl),
    show "bring " ++ n ++ " x as y" = Str.join " " ["bring", n, "x", "as", "y"] from str_ext (by simp only [cps_app, join_cps, join_cps1, List.append_assoc]; rfl),
    show "ask " ++ n = Str.join " " ["ask", n] from str_ext (by simp only [cps_app, join_cps, join_cps1, List.append_assoc]; rfl)]
theorem bad_eq (n : Str) : bad18 n = (badW n).map (Str.join " ") := by
  unfold bad18 badW
  simp only [List.map_cons, List.map_nil]
  rw [show "part " ++ n ++ " " = Str.join " " ["part", n, ""] from str_ext (by simp only [cps_app, join_cps, join_cps1, List.append_assoc]; rfl),
    show " part " ++ n = Str.join " " ["", "part", n] from str_ext (by simp only [cps_app, join_cps, join_cps1, List.append_assoc]; rfl),
    show "Part " ++ n = Str.join " " ["Part", n] from str_ext (by simp only [cps_app, join_cps, join_cps1, List.append_assoc]; rfl),
    show "part " ++ n ++ " b" = Str.join " " ["part", n, "b"] from str_ext (by simp only [cps_app, join_cps, join_cps1, List.append_assoc]; rfl),
    show "set " ++ n = Str.join " " ["set", n] from str_ext (by simp only [cps_app, join_cps, join_cps1, List.append_assoc]; rfl),
    show Str.join " " ["set", n] ++ " = " = Str.join " " ["set", n, "=", ""] from str_ext (by simp only [cps_app, join_cps, join_cps1, List.append_assoc]; rfl),
    show "say " ++ n ++ "  when b" = Str.join " " ["say", n, "", "when", "b"] from str_ext (by simp only [cps_app, join_cps, join_cps1, List.append_assoc]; rfl),
    show "give " ++ n = Str.join " " ["give", n] from str_ext (by simp only [cps_app, join_cps, join_cps1, List.append_assoc]; rfl),
    show "take A" ++ n = Str.join " " ["take", (⟨#[65]⟩ : Str) ++ n] from str_ext (by simp only [cps_app, join_cps, join_cps1, List.append_assoc]; rfl),
    show "take 1" ++ n = Str.join " " ["take", (⟨#[49]⟩ : Str) ++ n] from str_ext (by simp only [cps_app, join_cps, join_cps1, List.append_assoc]; rfl)]
  rfl
theorem wcons7 {a : Str} {r : List Str} (ha : Wd7 a) (h : ∀ x ∈ r, Wd7 x) : ∀ x ∈ a :: r, Wd7 x := fun x hx => by
  rcases List.mem_cons.mp hx with z | z
  · rw [z]; exact ha
  · exact h x z
theorem wnil7 : ∀ x ∈ ([] : List Str), Wd7 x := fun x hx => by cases hx
theorem head_line {n : Str} (hn : NameOk n) : LineIs ("part " ++ n) (.head n) := line_of (ws := ["part", n]) (str_ext (by simp only [cps_app, join_cps, join_cps1, List.append_assoc]; rfl)) (by simp) (wcons7 (by decide +kernel) (wcons7 (wd7_name hn) wnil7)) (by simp) ⟨rfl, hn⟩
theorem do_line {n : Str} (hn : NameOk n) : LineIs ("do " ++ n) .bad := line_of (ws := ["do", n]) (str_ext (by simp only [cps_app, join_cps, join_cps1, List.append_assoc]; rfl)) (by simp) (wcons7 (by decide +kernel) (wcons7 (wd7_name hn) wnil7)) (by simp) (.inr ⟨_, rfl⟩)
theorem empty_line : LineIs "" .bad := line_of (ws := [""]) rfl (by simp) (wcons7 (by decide +kernel) wnil7) (by decide) (.inl (no_row0 _))
theorem sum_one {x : Str} (h : Thing x) : Sum1 [x] := ⟨rfl, by simp, fun y hy => by cases hy; exact h, fun i x y hx => by simp at hx⟩
theorem good_line {n : Str} (hn : NameOk n) : ∀ ws ∈ goodW n, LineIs (Str.join " " ws) .work := by
  have hw := wd7_name hn
  have ab : ∀ {p q : Prop}, ¬ p → p → q := fun a b => absurd b a
  intro ws h
  simp only [goodW, List.mem_cons, List.not_mem_nil, or_false] at h
  rcases h with rfl | rfl | rfl | rfl | rfl | rfl
  · exact line_of rfl (by simp) (wcons7 (by decide +kernel) (wcons7 hw wnil7)) (by simp) ⟨⟨_, _, rfl, ab (by decide), ab (by decide), ab (by decide), ab (by decide), ab (by decide), ab (by decide), (fun _ => ⟨n, rfl, hn⟩), by decide⟩, _, _, rfl, by decide, by decide⟩
  · refine line_of rfl (by simp) (wcons7 (by decide +kernel) (wcons7 hw (wcons7 (by decide +kernel) (wcons7 (by decide +kernel) (wcons7 (by decide +kernel) (wcons7 hw wnil7)))))) (by simp) ⟨⟨_, _, rfl, ab (by decide), ab (by decide), (fun _ => ⟨n, _, rfl, (by simp), hn, ?_⟩), ab (by decide), ab (by decide), ab (by decide), ab (by decide), by decide⟩, _, _, rfl, by decide, by decide⟩
    refine ⟨by simp, by simp, fun y hy => by cases hy; decide +kernel, fun i x y hx hy => ?_⟩
    match i, hx, hy with
    | 0, hx, hy => cases hx; cases hy; exact ⟨.inr rfl, .inl hn⟩
    | i + 1, hx, hy => exact absurd (List.getElem?_eq_some_iff.mp hy).1 (by simp; omega)
  · exact line_of rfl (by simp) (wcons7 (by decide +kernel) (wcons7 hw wnil7)) (by simp) ⟨⟨_, _, rfl, ab (by decide), ab (by decide), ab (by decide), (fun _ => .inr ⟨no_when2 (by simp), sum_one (.inl hn)⟩), ab (by decide), ab (by decide), ab (by decide), by decide⟩, _, _, rfl, by decide, by decide⟩
  · exact line_of rfl (by simp) (wcons7 (by decide +kernel) (wcons7 (by decide +kernel) (wcons7 (by decide +kernel) (wcons7 hw wnil7)))) (by simp) ⟨⟨_, _, rfl, ab (by decide), ab (by decide), ab (by decide), (fun _ => .inl ⟨["7"], n, rfl, (by simp), sum_one (by decide +kernel), hn⟩), ab (by decide), ab (by decide), ab (by decide), by decide⟩, _, _, rfl, by decide, by decide⟩
  · refine line_of rfl (by simp) (wcons7 (by decide +kernel) (wcons7 hw (wcons7 (by decide +kernel) (wcons7 (by decide +kernel) (wcons7 (by decide +kernel) wnil7))))) (by simp) ⟨⟨_, _, rfl, (fun _ => ⟨by simp, by simp, fun x hx => by cases hx; exact hn, fun i hi => ?_⟩), ab (by decide), ab (by decide), ab (by decide), ab (by decide), ab (by decide), ab (by decide), by decide⟩, _, _, rfl, by decide, by decide⟩
    match i, hi with
    | 0, _ => exact ⟨"x", "y", rfl, by decide +kernel, by decide +kernel⟩
    | i + 1, hi => simp at hi; omega
  · exact line_of rfl (by simp) (wcons7 (by decide +kernel) (wcons7 hw wnil7)) (by simp) ⟨⟨_, _, rfl, ab (by decide), ab (by decide), ab (by decide), ab (by decide), ab (by decide), (fun _ => .inr ⟨no_when2 (by simp), n, rfl, hn⟩), ab (by decide), by decide⟩, _, _, rfl, by decide, by decide⟩
theorem no_cap {c : Nat} (hc : isLet c = false) {n : Str} : ¬ NameOk ((⟨#[c]⟩ : Str) ++ n) := fun h => by
  unfold NameOk at h
  rw [show ((⟨#[c]⟩ : Str) ++ n).cps.toList = c :: n.cps.toList by rw [cps_app]; rfl] at h
  simp only [isNm, hc, Bool.false_and] at h
  exact absurd h Bool.false_ne_true
theorem bad_line {n : Str} (hn : NameOk n) : ∀ ws ∈ badW n, LineIs (Str.join " " ws) .bad := by
  have hw := wd7_name hn
  have e0 : Wd7 "" := by decide +kernel
  intro ws h
  simp only [badW, List.mem_cons, List.not_mem_nil, or_false] at h
  rcases h with rfl | rfl | rfl | rfl | rfl | rfl | rfl | rfl | rfl | rfl | rfl | rfl | rfl | rfl | rfl | rfl | rfl | rfl
  · exact line_of rfl (by simp) (wcons7 e0 wnil7) (by simp) (.inl (no_row0 _))
  · exact line_of rfl (by simp) (wcons7 e0 (wcons7 e0 wnil7)) (by simp) (.inl (no_kind (by decide)))
  · exact line_of rfl (by simp) (wcons7 (by decide +kernel) wnil7) (by simp) (.inl (no_row0 _))
  · exact line_of rfl (by simp) (wcons7 (by decide +kernel) (wcons7 hw (wcons7 e0 wnil7))) (by simp) (.inl (no_only (.inr (.inl rfl)) fun ⟨x, e, _⟩ => by cases e))
  · exact line_of rfl (by simp) (wcons7 e0 (wcons7 (by decide +kernel) (wcons7 hw wnil7))) (by simp) (.inl (no_kind (by decide)))
  · exact line_of rfl (by simp) (wcons7 (by decide +kernel) (wcons7 hw wnil7)) (by simp) (.inl (no_kind (by decide)))
  · exact line_of rfl (by simp) (wcons7 (by decide +kernel) (wcons7 hw (wcons7 (by decide +kernel) wnil7))) (by simp) (.inl (no_only (.inr (.inl rfl)) fun ⟨x, e, _⟩ => by cases e))
  · exact line_of rfl (by simp) (wcons7 (by decide +kernel) wnil7) (by simp) (.inl (no_row0 _))
  · refine line_of rfl (by simp) (wcons7 (by decide +kernel) (wcons7 hw wnil7)) (by simp) (.inl fun ⟨k, us, e, g⟩ => ?_)
    cases e
    obtain ⟨o, us, e, _⟩ := g.2.2.1 rfl
    cases e
  · refine line_of rfl (by simp) (wcons7 (by decide +kernel) (wcons7 hw (wcons7 (by decide +kernel) (wcons7 e0 wnil7)))) (by simp) (.inl fun ⟨k, us, e, g⟩ => ?_)
    cases e
    obtain ⟨o, us, e, _, _, hs⟩ := g.2.2.1 rfl
    cases e
    exact absurd (hs.hd _ rfl) (by decide +kernel)
  · refine line_of rfl (by simp) (wcons7 (by decide +kernel) (wcons7 hw (wcons7 e0 (wcons7 (by decide +kernel) (wcons7 (by decide +kernel) wnil7))))) (by simp) (.inl fun ⟨k, us, e, g⟩ => ?_)
    cases e
    have := (w1_when (us := [n, ""]) (x := "b") (by simp) (g.2.2.2.1 rfl)).1
    exact absurd this.odd (by simp)
  · refine line_of rfl (by simp) (wcons7 (by decide +kernel) (wcons7 hw wnil7)) (by simp) (.inl fun ⟨k, us, e, g⟩ => ?_)
    cases e
    obtain ⟨a, b, e, _⟩ := g.2.1 rfl
    cases e
  · exact line_of rfl (by simp) (wcons7 (by decide +kernel) wnil7) (by simp) (.inl (no_row0 _))
  · exact line_of rfl (by simp) (wcons7 (by decide +kernel) wnil7) (by simp) (.inl (no_row0 _))
  · exact line_of rfl (by simp) (wcons7 (by decide +kernel) wnil7) (by simp) (.inl (no_row0 _))
  · exact line_of rfl (by simp) (wcons7 (by decide +kernel) (wcons7 (wd7_cons (by decide) hn) wnil7)) (by simp) (.inl (no_only (.inl rfl) fun ⟨x, e, h⟩ => by cases e; exact no_cap (by decide) h))
  · exact line_of rfl (by simp) (wcons7 (by decide +kernel) (wcons7 (wd7_cons (by decide) hn) wnil7)) (by simp) (.inl (no_only (.inl rfl) fun ⟨x, e, h⟩ => by cases e; exact no_cap (by decide) h))
  · exact line_of rfl (by simp) (wcons7 hw wnil7) (by simp) (.inl (no_row0 _))
noncomputable def spGood : Sp := fun vs H Q _ => ∃ (k : Int) (n : Str), vs = [.int k, .str n] ∧ 0 ≤ k ∧ k < 6 ∧ NameOk n ∧ ∀ (x : Str) (H' : Hp), Same H H' → LineIs x .work → Q (.str x) H'
theorem ok_good (T : Txt K mg) : L2.Cl P w K mg base 1 "_law_good" ["_law_kind", "_law_name_here"] spGood := by
  refine Cl.of T.d_law_good sc_law_good (fun vs H Q E h => ?_) (fun _ _ _ _ _ _ us hl => by obtain ⟨a, b, rfl⟩ := len2 hl; rfl) (fun f cdv A outer s H vs Q E hr h => ?_)
  · obtain ⟨k, n, rfl, _⟩ := h
    rfl
  · obtain ⟨k, n, rfl, h0, h6, hn, q⟩ := h
    refine ⟨_, (pss_cons (ps_set (i := 2) sc_law_good.nd rfl (Or.inl rfl) (pe_lst (pa_cons (pe_op op_add_str pe_str (pv 1)) (pa_cons (pe_op op_add_str (pe_op op_add_str (pe_op op_add_str pe_str (pv 1)) pe_str) (pv 1)) (pa_cons (pe_op op_add_str pe_str (pv 1)) (pa_cons (pe_op op_add_str pe_str (pv 1)) pa_nil))))))
      (pss_one (ps_ret (pe_ix ix_list (pe_op op_cat (pv 2) (pe_lst (pa_cons (pe_op op_add_str (pe_op op_add_str pe_str (pv 1)) pe_str) (pa_cons (pe_op op_add_str pe_str (pv 1)) pa_nil)))) (pv 0) (fun _ _ => rfl))))), ?_⟩
    have ln : n.length ≤ 61 := hn.word.len
    have hlit : ("take " : Str).length ≤ 20 ∧ ("set " : Str).length ≤ 20 ∧ (" = 4 - " : Str).length ≤ 20 ∧ ("say " : Str).length ≤ 20 ∧ ("say 7 when " : Str).length ≤ 20 ∧ ("bring " : Str).length ≤ 20 ∧ (" x as y" : Str).length ≤ 20 ∧ ("ask " : Str).length ≤ 20 := by decide +kernel
    obtain ⟨g0, g1, g2, g3, g4, g5, g6, g7⟩ := hlit
    have hsz : sizeLine = 16777216 := sizeLine_eq
    refine ⟨_, rfl, _, _, rfl, rfl, (by first | omega | (simp only [Str.length_append]; omega)), _, rfl, _, _, rfl, rfl, (by first | omega | (simp only [Str.length_append]; omega)), _, _, rfl, rfl, (by first | omega | (simp only [Str.length_append]; omega)), _, rfl, _, _, rfl, rfl, (by first | omega | (simp only [Str.length_append]; omega)), _, rfl, _, _, rfl, rfl, (by first | omega | (simp only [Str.length_append]; omega)), _, rfl, _, _, rfl, rfl, (by first | omega | (simp only [Str.length_append]; omega)), (by show 4 ≤ sizeLine; decide), fun l gl => ?_⟩
    refine ⟨_, rfl, _, rfl, _, _, rfl, rfl, (by first | omega | (simp only [Str.length_append]; omega)), _, _, rfl, rfl, (by first | omega | (simp only [Str.length_append]; omega)), _, rfl, _, _, rfl, rfl, (by first | omega | (simp only [Str.length_append]; omega)), (by show 2 ≤ sizeLine; decide), fun b gb => ⟨l, b, _, _, rfl, rfl, upd_keep upd_same gb, upd_same, (by show 4 + 2 ≤ sizeLine; decide), fun r gr => ?_⟩⟩
    obtain ⟨y, hy, e⟩ := atI_menu (good6 n) (i := k) h0 (by show k < 6; exact h6)
    rw [good_eq] at hy
    obtain ⟨ws, hws, rfl⟩ := List.mem_map.mp hy
    exact ⟨_, rfl, r, _, _, _, rfl, rfl, SqL.of upd_same, e, q _ _ ((((Same.refl H).new gl).new gb).new gr) (good_line hn ws hws)⟩
noncomputable def spBad : Sp := fun vs H Q _ => ∃ (k : Int) (n : Str), vs = [.int k, .str n] ∧ 0 ≤ k ∧ k < 18 ∧ NameOk n ∧ ∀ (x : Str) (H' : Hp), Same H H' → LineIs x .bad → Q (.str x) H'
theorem ok_bad (T : Txt K mg) : L2.Cl P w K mg base 1 "_law_bad" ["_law_kind", "_law_name_here"] spBad := by
  refine Cl.of T.d_law_bad sc_law_bad (fun vs H Q E h => ?_) (fun _ _ _ _ _ _ us hl => by obtain ⟨a, b, rfl⟩ := len2 hl; rfl) (fun f cdv A outer s H vs Q E hr h => ?_)
  · obtain ⟨k, n, rfl, _⟩ := h
    rfl
  · obtain ⟨k, n, rfl, h0, h6, hn, q⟩ := h
    refine ⟨_, (pss_cons (ps_set (i := 2) sc_law_bad.nd rfl (Or.inl rfl) (pe_lst (pa_cons pe_str (pa_cons pe_str (pa_cons pe_str (pa_cons (pe_op op_add_str (pe_op op_add_str pe_str (pv 1)) pe_str) (pa_cons (pe_op op_add_str pe_str (pv 1)) (pa_cons (pe_op op_add_str pe_str (pv 1)) (pa_cons (pe_op op_add_str (pe_op op_add_str pe_str (pv 1)) pe_str) (pa_cons pe_str pa_nil))))))))))
      (pss_cons (ps_set (i := 2) sc_law_bad.nd rfl (Or.inl rfl) (pe_op op_cat (pv 2) (pe_lst (pa_cons (pe_op op_add_str pe_str (pv 1)) (pa_cons (pe_op op_add_str (pe_op op_add_str pe_str (pv 1)) pe_str) (pa_cons (pe_op op_add_str (pe_op op_add_str pe_str (pv 1)) pe_str) (pa_cons (pe_op op_add_str pe_str (pv 1)) (pa_cons pe_str (pa_cons pe_str pa_nil)))))))))
      (pss_one (ps_ret (pe_ix ix_list (pe_op op_cat (pv 2) (pe_lst (pa_cons pe_str (pa_cons (pe_op op_add_str pe_str (pv 1)) (pa_cons (pe_op op_add_str pe_str (pv 1)) (pa_cons (pv 1) pa_nil)))))) (pv 0) (fun _ _ => rfl)))))), ?_⟩
    have ln : n.length ≤ 61 := hn.word.len
    have hlit : ("part " : Str).length ≤ 20 ∧ (" " : Str).length ≤ 20 ∧ (" part " : Str).length ≤ 20 ∧ ("Part " : Str).length ≤ 20 ∧ (" b" : Str).length ≤ 20 ∧ ("set " : Str).length ≤ 20 ∧ (" = " : Str).length ≤ 20 ∧ ("say " : Str).length ≤ 20 ∧ ("  when b" : Str).length ≤ 20 ∧ ("give " : Str).length ≤ 20 ∧ ("take A" : Str).length ≤ 20 ∧ ("take 1" : Str).length ≤ 20 := by decide +kernel
    obtain ⟨g0, g1, g2, g3, g4, g5, g6, g7, g8, g9, g10, g11⟩ := hlit
    have hsz : sizeLine = 16777216 := sizeLine_eq
    refine ⟨_, rfl, _, _, rfl, rfl, (by first | omega | (simp only [Str.length_append]; omega)), _, _, rfl, rfl, (by first | omega | (simp only [Str.length_append]; omega)), _, rfl, _, _, rfl, rfl, (by first | omega | (simp only [Str.length_append]; omega)), _, rfl, _, _, rfl, rfl, (by first | omega | (simp only [Str.length_append]; omega)), _, rfl, _, _, rfl, rfl, (by first | omega | (simp only [Str.length_append]; omega)), _, _, rfl, rfl, (by first | omega | (simp only [Str.length_append]; omega)), (by show 8 ≤ sizeLine; decide), fun l gl => ?_⟩
    refine ⟨_, rfl, _, rfl, _, _, rfl, rfl, (by first | omega | (simp only [Str.length_append]; omega)), _, rfl, _, _, rfl, rfl, (by first | omega | (simp only [Str.length_append]; omega)), _, _, rfl, rfl, (by first | omega | (simp only [Str.length_append]; omega)), _, rfl, _, _, rfl, rfl, (by first | omega | (simp only [Str.length_append]; omega)), _, _, rfl, rfl, (by first | omega | (simp only [Str.length_append]; omega)), _, rfl, _, _, rfl, rfl, (by first | omega | (simp only [Str.length_append]; omega)), (by show 6 ≤ sizeLine; decide), fun b gb => ⟨l, b, _, _, rfl, rfl, upd_keep upd_same gb, upd_same, (by show 8 + 6 ≤ sizeLine; decide), fun r gr => ?_⟩⟩
    refine ⟨_, rfl, _, rfl, _, _, rfl, rfl, (by first | omega | (simp only [Str.length_append]; omega)), _, rfl, _, _, rfl, rfl, (by first | omega | (simp only [Str.length_append]; omega)), _, rfl, (by show 4 ≤ sizeLine; decide), fun b2 gb2 => ⟨r, b2, _, _, rfl, rfl, upd_keep upd_same gb2, upd_same, (by show 14 + 4 ≤ sizeLine; decide), fun r2 gr2 => ?_⟩⟩
    obtain ⟨y, hy, e⟩ := atI_menu (bad18 n) (i := k) h0 (by show k < 18; exact h6)
    rw [bad_eq] at hy
    obtain ⟨ws, hws, rfl⟩ := List.mem_map.mp hy
    exact ⟨_, rfl, r2, _, _, _, rfl, rfl, SqL.of upd_same, e, q _ _ ((((((Same.refl H).new gl).new gb).new gr).new gb2).new gr2) (bad_line hn ws hws)⟩
noncomputable def Found (H : Hp) (v : V) (b : Option Nat) (acc : List (Str × Nat)) : Prop := match b with
  | some i => ∃ l, v = .ref l ∧ H l = some (.lst [.int (i : Int)])
  | none => ∃ t r, v = .ref t ∧ H t = some (.tup [.ref r]) ∧ PartsL H r acc
noncomputable def optV : Option Nat → V
  | none => .non
  | some i => .int (i : Int)
noncomputable def spRight : Sp := fun vs H Q _ => ∃ (f : V) (b : Option Nat) (l m : Addr) (acc : List (Str × Nat)), vs = [f, optV b, .ref l, .ref m] ∧ Found H f b acc ∧ H l = some (.lst (acc.map fun p => .str p.1)) ∧ H m = some (.lst (acc.map fun p => .int (p.2 : Int))) ∧ acc.length ≤ 41 ∧ Q (.bl true) H
theorem ok_right (T : Txt K mg) : L2.Cl P w K mg base 1 "_law_right" ["_law_found", "_law_bad_here", "_law_heads", "_law_counts"] spRight := by
  refine Cl.of T.d_law_right sc_law_right (fun vs H Q E h => ?_) (fun _ _ _ _ _ _ us hl => by obtain ⟨a, b, c, d, rfl⟩ := len4 hl; rfl) (fun fa cdv A outer s H vs Q E hr h => ?_)
  · obtain ⟨f, b, l, m, acc, rfl, _⟩ := h
    rfl
  · obtain ⟨f, b, l, m, acc, rfl, hf, hl, hm, hfew, q⟩ := h
    refine ⟨_, (pss_cons (ps_if (pt_cmp (pc_notN (pv 1)))
        (pss_cons (ps_if (PW.pt (pw_or (pt_not (pt_val (pe_callB call_isinst (by rfl) T.n_isinstance PyProof.Rows.boot_isinstance (pa_cons (pv 0) (pa_cons (pe_bltn (v := .ty "list") (by rfl) T.n_list boot_list rfl) pa_nil))))) (pw_or (pt_not (pt_val (pe_callB call_isinst (by rfl) T.n_isinstance PyProof.Rows.boot_isinstance (pa_cons (pe_ix ix_list (pv 0) pe_int (fun _ _ => rfl)) (pa_cons (pe_bltn (v := .ty "int") (by rfl) T.n_int boot_int rfl) pa_nil))))) (pw_or1 (pt_val (pe_callB call_isinst (by rfl) T.n_isinstance PyProof.Rows.boot_isinstance (pa_cons (pe_ix ix_list (pv 0) pe_int (fun _ _ => rfl)) (pa_cons (pe_bltn (v := .ty "bool") (by rfl) T.n_bool boot_bool rfl) pa_nil))))))))
          (pss_one (ps_ret pe_bl)) pss_nil)
        (pss_one (ps_ret (pe_cmpR op_eq (pe_ix ix_list (pv 0) pe_int (fun _ _ => rfl)) (pv 1) (nomark _))))) pss_nil)
      (pss_cons (ps_if (PW.pt (pw_or (pt_not (pt_val (pe_callB call_isinst (by rfl) T.n_isinstance PyProof.Rows.boot_isinstance (pa_cons (pv 0) (pa_cons (pe_bltn (v := .ty "tuple") (by rfl) T.n_tuple boot_tuple rfl) pa_nil))))) (pw_or (pt_not (pt_val (pe_callB call_isinst (by rfl) T.n_isinstance PyProof.Rows.boot_isinstance (pa_cons (pe_ix ix_tup (pv 0) pe_int (fun _ _ => rfl)) (pa_cons (pe_bltn (v := .ty "tuple") (by rfl) T.n_tuple boot_tuple rfl) pa_nil))))) (pw_or1 (pt_cmpR op_ne (pe_callB call_len_seq (by rfl) T.n_len PySem.boot_len (pa_cons (pe_ix ix_tup (pv 0) pe_int (fun _ _ => rfl)) pa_nil)) (pe_callB call_len_seq (by rfl) T.n_len PySem.boot_len (pa_cons (pv 2) pa_nil)) (nomark _))))))
        (pss_one (ps_ret pe_bl)) pss_nil)
      (pss_cons (ps_for PassesOwn.never rfl (pi_range1 (by rfl) T.n_range (pa_cons (pe_callB call_len_seq (by rfl) T.n_len PySem.boot_len (pa_cons (pv 2) pa_nil)) pa_nil)) (pg_name (i := 4) sc_law_right.nd rfl (Or.inl rfl))
        (pss_cons (ps_set (i := 5) sc_law_right.nd rfl (Or.inl rfl) (pe_ix ix_tup (pe_ix ix_tup (pv 0) pe_int (fun _ _ => rfl)) (pv 4) (fun _ _ => rfl)))
        (pss_one (ps_if (PW.pt (pw_or (pt_not (pt_val (pe_callB call_isinst (by rfl) T.n_isinstance PyProof.Rows.boot_isinstance (pa_cons (pv 5) (pa_cons (pe_bltn (v := .ty "tuple") (by rfl) T.n_tuple boot_tuple rfl) pa_nil))))) (pw_or (pt_cmpR op_ne (pe_callB call_len_seq (by rfl) T.n_len PySem.boot_len (pa_cons (pv 5) pa_nil)) pe_int (nomark _)) (pw_or (pt_cmpR op_ne (pe_ix ix_tup (pv 5) pe_int (fun _ _ => rfl)) (pe_ix ix_list (pv 2) (pv 4) (fun _ _ => rfl)) (nomark _)) (pw_or1 (pt_cmpR op_ne (pe_callB call_len_seq (by rfl) T.n_len PySem.boot_len (pa_cons (pe_ix ix_tup (pv 5) pe_int (fun _ _ => rfl)) pa_nil)) (pe_ix ix_list (pv 3) (pv 4) (fun _ _ => rfl)) (nomark _)))))))
          (pss_one (ps_ret pe_bl)) pss_nil))))
      (pss_one (ps_ret pe_bl))))), ?_⟩
    cases b with
    | some i =>
      obtain ⟨d, rfl, hd⟩ := hf
      refine ⟨_, rfl, _, rfl, iteT ?_⟩
      refine ⟨_, rfl, _, _, _, _, rfl, .lst hd, kit_same _ _, _, rfl, iteF ?_⟩
      refine ⟨_, rfl, d, _, _, _, rfl, rfl, SqL.of hd, atI_nat (j := 0) rfl, _, _, _, _, rfl, .int _, kit_same _ _, _, rfl, iteF ?_⟩
      refine ⟨_, rfl, d, _, _, _, rfl, rfl, SqL.of hd, atI_nat (j := 0) rfl, _, _, _, _, rfl, .int _, kit_int_bool _, _, rfl, iteF ?_⟩
      refine ⟨_, rfl, d, _, _, _, rfl, rfl, SqL.of hd, atI_nat (j := 0) rfl, _, rfl, rfl, ?_⟩
      show Q (.bl (decide (V.int (i : Int) = V.int (i : Int)))) H
      rw [decide_eq_true rfl]
      exact q
    | none =>
      obtain ⟨t, r, rfl, ht, vs, hv, hvl, hvp⟩ := hf
      refine ⟨_, rfl, _, rfl, iteF ?_⟩
      refine ⟨_, rfl, _, _, _, _, rfl, .tup ht, kit_same _ _, _, rfl, iteF ?_⟩
      refine ⟨_, rfl, t, _, _, _, rfl, rfl, SqT.of ht, atI_nat (j := 0) rfl, _, _, _, _, rfl, .tup hv, kit_same _ _, _, rfl, iteF ?_⟩
      refine ⟨_, rfl, t, _, _, _, rfl, rfl, SqT.of ht, atI_nat (j := 0) rfl, r, _, rfl, .inr (SqT.of hv), _, rfl, l, _, rfl, .inl (SqL.of hl), rfl, _, rfl, iteNS (by rw [List.length_map, hvl]) ?_⟩
      refine ⟨_, rfl, l, _, rfl, .inl (SqL.of hl), _, rfl, (by rw [List.length_map]; omega), (by rw [List.length_map]; omega), for_range (fun i σ H2 => H2 = H ∧ ∃ (v4 v5 : Option V), σ = [some (.ref t), some .non, some (.ref l), some (.ref m), v4, v5]) ⟨rfl, _, _, rfl⟩ ?_ ?_⟩
      · rintro i σ H2 hi ⟨rfl, v4, v5, rfl⟩
        rw [List.length_map] at hi
        have hi' : i < acc.length := by omega
        obtain ⟨v, hvi, t2, u, rs, rfl, k1, k2, k3⟩ := hvp i acc[i] (List.getElem?_eq_getElem hi')
        refine ⟨_, rfl, t, _, _, _, rfl, rfl, SqT.of ht, atI_nat (j := 0) rfl, _, rfl, r, _, _, _, rfl, rfl, SqT.of hv, (by rw [Int.zero_add]; exact atI_nat (j := i) hvi), ?_⟩
        refine ⟨_, rfl, _, _, _, _, rfl, .tup k1, kit_same _ _, _, rfl, iteF ?_⟩
        refine ⟨_, rfl, t2, _, rfl, .inr (SqT.of k1), rfl, _, rfl, iteNS rfl ?_⟩
        refine ⟨_, rfl, t2, _, _, _, rfl, rfl, SqT.of k1, atI_nat (j := 0) rfl, _, rfl, _, rfl, l, _, _, _, rfl, rfl, SqL.of hl, (by rw [Int.zero_add]; exact atI_nat (j := i) (v := V.str acc[i].1) (by rw [List.getElem?_map, List.getElem?_eq_getElem hi']; rfl)), rfl, _, rfl, iteNS rfl ?_⟩
        refine ⟨_, rfl, t2, _, _, _, rfl, rfl, SqT.of k1, atI_nat (j := 1) rfl, u, _, rfl, .inr (SqT.of k2), _, rfl, _, rfl, m, _, _, _, rfl, rfl, SqL.of hm, (by rw [Int.zero_add]; exact atI_nat (j := i) (v := V.int (acc[i].2 : Int)) (by rw [List.getElem?_map, List.getElem?_eq_getElem hi']; rfl)), rfl, _, rfl, iteNS (by rw [k3]) ?_⟩
        exact ⟨rfl, _, _, rfl⟩
      · rintro σ H2 ⟨rfl, v4, v5, rfl⟩
        exact q
noncomputable def BadIs (ks : List LK) : Option Nat → Prop
  | some i => FirstBad ks i
  | none => NoBad ks
theorem get_app {ks : List LK} {k' : LK} {i : Nat} {k : LK} (h : ks[i]? = some k) : (ks ++ [k'])[i]? = some k := by
  rw [List.getElem?_append_left (List.getElem?_eq_some_iff.mp h).1]
  exact h
theorem take_app {ks : List LK} {k' : LK} {i : Nat} (h : i ≤ ks.length) : (ks ++ [k']).take i = ks.take i := by
  rw [List.take_append_of_le_length h]
theorem FirstBad.snoc {ks : List LK} {k' : LK} {i : Nat} (h : FirstBad ks i) : FirstBad (ks ++ [k']) i := by
  obtain ⟨⟨k, hk, hb⟩, hg⟩ := h
  have hi := (List.getElem?_eq_some_iff.mp hk).1
  refine ⟨⟨k, get_app hk, by rw [take_app (by omega)]; exact hb⟩, fun j hj k2 h2 => ?_⟩
  rw [List.getElem?_append_left (by omega)] at h2
  rw [take_app (by omega)]
  exact hg j hj k2 h2
theorem NoBad.bad {ks : List LK} {k' : LK} (h : NoBad ks) (hk : isB (accL ks) k' = true) : FirstBad (ks ++ [k']) ks.length := by
  refine ⟨⟨k', by simp, by rw [take_app (Nat.le_refl _), List.take_length]; exact hk⟩, fun j hj k2 h2 => ?_⟩
  rw [List.getElem?_append_left hj] at h2
  rw [take_app (by omega)]
  exact h j k2 h2
theorem NoBad.good {ks : List LK} {k' : LK} (h : NoBad ks) (hk : isB (accL ks) k' = false) : NoBad (ks ++ [k']) := fun j k2 h2 => by
  by_cases e : j < ks.length
  · rw [List.getElem?_append_left e] at h2
    rw [take_app (by omega)]
    exact h j k2 h2
  · have hj : j < (ks ++ [k']).length := (List.getElem?_eq_some_iff.mp h2).1
    rw [List.length_append] at hj
    simp only [List.length_cons, List.length_nil] at hj
    obtain rfl : j = ks.length := by omega
    rw [take_app (Nat.le_refl _), List.take_length]
    have : k' = k2 := by simpa using h2
    rw [← this]
    exact hk
noncomputable def nb (b : Option Nat) (c : Bool) (n : Nat) : Option Nat := match b with
  | some i => some i
  | none => if c = true then some n else none
theorem BadIs.snoc {ks : List LK} {b : Option Nat} {k' : LK} (h : BadIs ks b) : BadIs (ks ++ [k']) (nb b (isB (accL ks) k') ks.length) := by
  cases b with
  | some i => exact FirstBad.snoc h
  | none =>
    cases e : isB (accL ks) k' with
    | true => exact NoBad.bad h e
    | false => exact NoBad.good h e
theorem accL_app (ks : List LK) (k : LK) : accL (ks ++ [k]) = accS (accL ks) k := by
  unfold accL
  rw [List.foldl_append]
  rfl
structure LA (H0 H : Hp) (l h c : Addr) (xs : List Str) (acc : List (Str × Nat)) : Prop where
  hl : H l = some (.lst (xs.map V.str))
  hh : H h = some (.lst (acc.map fun p => V.str p.1))
  hc : H c = some (.lst (acc.map fun p => V.int (p.2 : Int)))
  fl : H0 l = none
  fh : H0 h = none
  fc : H0 c = none
  lh : l ≠ h
  lc : l ≠ c
  hc' : h ≠ c
theorem LA.same {H0 H H' : Hp} {l h c : Addr} {xs : List Str} {acc : List (Str × Nat)} (g : LA H0 H l h c xs acc) (s : Same H H') : LA H0 H' l h c xs acc := ⟨s _ _ g.hl, s _ _ g.hh, s _ _ g.hc, g.fl, g.fh, g.fc, g.lh, g.lc, g.hc'⟩
theorem LA.head {H0 H : Hp} {l h c : Addr} {xs : List Str} {acc : List (Str × Nat)} (g : LA H0 H l h c xs acc) (n : Str) : LA H0 (upd (upd H h (.lst ((acc.map fun p => V.str p.1) ++ [.str n]))) c (.lst ((acc.map fun p => V.int (p.2 : Int)) ++ [.int 0]))) l h c xs (acc ++ [(n, 0)]) := by
  refine ⟨?_, ?_, ?_, g.fl, g.fh, g.fc, g.lh, g.lc, g.hc'⟩
  · rw [upd_ne g.lc, upd_ne g.lh]; exact g.hl
  · rw [upd_ne g.hc', upd_same, List.map_append]; rfl
  · rw [upd_same, List.map_append]; rfl
theorem LA.bump {H0 H : Hp} {l h c : Addr} {xs : List Str} {us : List (Str × Nat)} {n : Str} {m : Nat} (g : LA H0 H l h c xs (us ++ [(n, m)])) : LA H0 (upd H c (.lst ((us.map fun p => V.int (p.2 : Int)) ++ [.int ((m + 1 : Nat) : Int)]))) l h c xs (us ++ [(n, m + 1)]) := by
  refine ⟨?_, ?_, ?_, g.fl, g.fh, g.fc, g.lh, g.lc, g.hc'⟩
  · rw [upd_ne g.lc]; exact g.hl
  · rw [upd_ne g.hc', g.hh, List.map_append, List.map_append]; rfl
  · rw [upd_same, List.map_append]; rfl
theorem LA.row {H0 H : Hp} {l h c : Addr} {xs : List Str} {acc : List (Str × Nat)} (g : LA H0 H l h c xs acc) (x : Str) : LA H0 (upd H l (.lst (xs.map V.str ++ [.str x]))) l h c (xs ++ [x]) acc := by
  refine ⟨?_, ?_, ?_, g.fl, g.fh, g.fc, g.lh, g.lc, g.hc'⟩
  · rw [upd_same, List.map_append]; rfl
  · rw [upd_ne g.lh.symm]; exact g.hh
  · rw [upd_ne g.lc.symm]; exact g.hc
theorem bump_len : ∀ us : List (Str × Nat), (bump us).length = us.length
  | [] => rfl
  | [p] => rfl
  | p :: q :: r => congrArg (· + 1) (bump_len (q :: r))
theorem accF_len : ∀ (ks : List LK) (acc : List (Str × Nat)), (ks.foldl accS acc).length ≤ acc.length + ks.length
  | [], acc => Nat.le_refl _
  | k :: ks, acc => by
    have h := accF_len ks (accS acc k)
    have h2 : (accS acc k).length ≤ acc.length + 1 := by
      cases k with
      | head n => simp [accS]
      | work => show (K07.bump acc).length ≤ _; rw [bump_len]; omega
      | bad => exact Nat.le_succ _
    rw [List.foldl_cons, List.length_cons]
    omega
theorem accL_len (ks : List LK) : (accL ks).length ≤ ks.length := by
  have := accF_len ks []
  rw [List.length_nil, Nat.zero_add] at this
  exact this
noncomputable def Kinds (xs : List Str) (ks : List LK) : Prop := xs.length = ks.length ∧ ∀ (i : Nat) (x : Str), xs[i]? = some x → ∃ k, ks[i]? = some k ∧ LineIs x k
noncomputable def spLines (K : PySem.W.Frag) : Sp := fun vs H Q _ => ∃ (a : Addr) (ns : List Int), vs = [.ref a] ∧ SqL K H a (ns.map V.int) ∧ ns.length ≤ 63 ∧ ∀ (p l h c : Addr) (xs : List Str) (ks : List LK) (b : Option Nat) (H' : Hp), Same H H' → H' p = some (.tup [.ref l, optV b, .ref h, .ref c]) → LA H H' l h c xs (accL ks) → Kinds xs ks → xs.length ≤ 40 → BadIs ks b → Q (.ref p) H'
theorem is_snoc {xs : List Str} {ks : List LK} {x : Str} {k : LK} (hl : xs.length = ks.length) (h : ∀ (i : Nat) (x : Str), xs[i]? = some x → ∃ k, ks[i]? = some k ∧ LineIs x k) (hx : LineIs x k) : ∀ (i : Nat) (y : Str), (xs ++ [x])[i]? = some y → ∃ k', (ks ++ [k])[i]? = some k' ∧ LineIs y k' := fun i y hy => by
  by_cases e : i < xs.length
  · rw [List.getElem?_append_left e] at hy
    obtain ⟨k', h1, h2⟩ := h i y hy
    exact ⟨k', get_app h1, h2⟩
  · have hi : i < (xs ++ [x]).length := (List.getElem?_eq_some_iff.mp hy).1
    rw [List.length_append] at hi
    simp only [List.length_cons, List.length_nil] at hi
    obtain rfl : i = xs.length := by omega
    have : x = y := by simpa using hy
    rw [← this]
    exact ⟨k, by rw [hl]; simp, hx⟩
theorem cut_1_41 (ns : List Int) : ∃ ms : List Int, cutV (ns.map V.int) (some 1) (some 41) = ms.map V.int ∧ ms.length ≤ 40 := by
  refine ⟨(ns.drop (min 1 (ns.map V.int).length)).take (min 41 (ns.map V.int).length - min 1 (ns.map V.int).length), ?_, by rw [List.length_take]; omega⟩
  unfold cutV
  rw [show (some (1 : Int)) = some ((1 : Nat) : Int) from rfl, show (some (41 : Int)) = some ((41 : Nat) : Int) from rfl, HT.sIx_nat, HT.sIx_nat, List.map_take, List.map_drop]
theorem seq_ifJ {t : TT} {B R : TS} {D : Ends} {σ : L2.St} {H : Hp} (C : Bool → Hp → Prop) (J : L2.St → Hp → Prop) (ht : ∀ Q : Bool → Hp → Prop, (∀ b H1, C b H1 → Q b H1) → t σ H Q) (h1 : ∀ H1, C true H1 → ∀ D' : Ends, (∀ σ' H', J σ' H' → D'.nx σ' H') → B D' σ H1) (h2 : ∀ H1, C false H1 → J σ H1) (hR : ∀ σ' H', J σ' H' → R D σ' H') : tSeq (tIfS t B tNext) R D σ H := by
  refine ht _ fun b H1 hc => ?_
  cases b with
  | true => exact iteT (h1 H1 hc _ fun σ' H' j => hR σ' H' j)
  | false => exact iteF (hR σ H1 (h2 H1 hc))
theorem to_g {X R : TS} {D : Ends} {r : VK} {b k : L2.St → Hp → Prop} {i : Nat} {v : V} {σ : L2.St} {H : Hp} (h : tSeq X R D (σ.set i (some v)) H) : gName i v σ H (Ends.nx ⟨tSeq X R D, r, b, k⟩) := h
theorem ixN_last {n : Nat} : ixN (n + 1) (-1) = some n := by
  unfold ixN
  rw [if_neg (by decide), if_pos (by omega)]
  congr 1
  omega
noncomputable def kindAt (w : Int) (n : Str) : LK := if w < 3 then .head n else if w = 3 then .bad else .work
theorem ok_lines (T : Txt K mg) : L2.Cl P w K mg base 2 "_law_lines" ["_law_script"] (spLines K) := by
  have C_law_name := ok_name (P := P) (w := w) (base := base) T
  have C_law_good := ok_good (P := P) (w := w) (base := base) T
  have C_law_bad := ok_bad (P := P) (w := w) (base := base) T
  refine Cl.of T.d_law_lines sc_law_lines (fun vs H Q E h => ?_) (fun _ _ _ _ _ _ us hl => by obtain ⟨a, rfl⟩ := len1 hl; rfl) (fun f cdv A outer s H vs Q E hr h => ?_)
  · obtain ⟨a, ns, rfl, _⟩ := h
    rfl
  · obtain ⟨a, ns, rfl, hS, hlen, q⟩ := h
    have hu0 := Nat.lt_of_succ_lt (hu_of hr)
    refine ⟨_, (@pss_cons _ _ _ _ _ (@ps_set _ _ (1) _ _ _ _ sc_law_lines.nd rfl (Or.inl rfl) (@pe_lst _ _ _ _ (@pa_nil _)) (by rfl) (by first   | exact .inl rfl   | exact .inr rfl   | assumption)) (@pss_cons _ _ _ _ _ (@ps_set _ _ (2) _ _ _ _ sc_law_lines.nd rfl (Or.inl rfl) (@pe_non _ _ _) (by rfl) (by first   | exact .inl rfl   | exact .inr rfl   | assumption)) (@pss_cons _ _ _ _ _ (@ps_set _ _ (3) _ _ _ _ sc_law_lines.nd rfl (Or.inl rfl) (@pe_lst _ _ _ _ (@pa_nil _)) (by rfl) (by first   | exact .inl rfl   | exact .inr rfl   | assumption)) (@pss_cons _ _ _ _ _ (@ps_set _ _ (4) _ _ _ _ sc_law_lines.nd rfl (Or.inl rfl) (@pe_lst _ _ _ _ (@pa_nil _)) (by rfl) (by first   | exact .inl rfl   | exact .inr rfl   | assumption)) (@pss_cons _ _ _ _ _ (@ps_for _ _ _ _ _ _ _ _ PassesOwn.never rfl (@pi_list _ _ _ _ (@pe_slice _ _ _ _ _ _ _ _ _ _ (@sl_list _) (@pv _ 0 _ _ (by rfl) (by first   | exact Or.inl rfl   | exact Or.inr (Or.inl rfl)   | exact Or.inr (Or.inr rfl)) (by decide) (by decide)) (@po_some _ _ _ (@pe_int _ _ _ _)) (@po_some _ _ _ (@pe_int _ _ _ _)))) (@pg_name _ _ (5) _ sc_law_lines.nd rfl (Or.inl rfl) (by first   | exact .inl rfl   | exact .inr rfl   | assumption)) (@pss_cons _ _ _ _ _ (@ps_set _ _ (6) _ _ _ _ sc_law_lines.nd rfl (Or.inl rfl) (@pe_op _ _ _ _ _ _ _ _ (@op_mod _) (@pv _ 5 _ _ (by rfl) (by first   | exact Or.inl rfl   | exact Or.inr (Or.inl rfl)   | exact Or.inr (Or.inr rfl)) (by decide) (by decide)) (@pe_int _ _ _ _)) (by rfl) (by first   | exact .inl rfl   | exact .inr rfl   | assumption)) (@pss_cons _ _ _ _ _ (@ps_set _ _ (7) _ _ _ _ sc_law_lines.nd rfl (Or.inl rfl) (@pe_fn _ _ _ _ _ _ _ _ _ _ _ C_law_name hr (by rfl) (@pa_cons _ _ _ _ _ (@pe_op _ _ _ _ _ _ _ _ (@op_fdiv _) (@pv _ 5 _ _ (by rfl) (by first   | exact Or.inl rfl   | exact Or.inr (Or.inl rfl)   | exact Or.inr (Or.inr rfl)) (by decide) (by decide)) (@pe_int _ _ _ _)) (@pa_nil _) (by rfl)) (by decide) (by decide) (by rfl) (by rfl)) (by rfl) (by first   | exact .inl rfl   | exact .inr rfl   | assumption)) (@pss_cons _ _ _ _ _ (@ps_set _ _ (8) _ _ _ _ sc_law_lines.nd rfl (Or.inl rfl) (@pe_fn _ _ _ _ _ _ _ _ _ _ _ C_law_good hr (by rfl) (@pa_cons _ _ _ _ _ (@pe_op _ _ _ _ _ _ _ _ (@op_mod _) (@pe_op _ _ _ _ _ _ _ _ (@op_fdiv _) (@pv _ 5 _ _ (by rfl) (by first   | exact Or.inl rfl   | exact Or.inr (Or.inl rfl)   | exact Or.inr (Or.inr rfl)) (by decide) (by decide)) (@pe_int _ _ _ _)) (@pe_int _ _ _ _)) (@pa_cons _ _ _ _ _ (@pv _ 7 _ _ (by rfl) (by first   | exact Or.inl rfl   | exact Or.inr (Or.inl rfl)   | exact Or.inr (Or.inr rfl)) (by decide) (by decide)) (@pa_nil _) (by rfl)) (by rfl)) (by decide) (by decide) (by rfl) (by rfl)) (by rfl) (by first   | exact .inl rfl   | exact .inr rfl   | assumption)) (@pss_cons _ _ _ _ _ (@ps_if _ _ _ _ _ _ _ _ (@pt_cmpR _ _ _ _ _ _ _ _ (@op_lt _) (@pv _ 6 _ _ (by rfl) (by first   | exact Or.inl rfl   | exact Or.inr (Or.inl rfl)   | exact Or.inr (Or.inr rfl)) (by decide) (by decide)) (@pe_int _ _ _ _) (nomark _)) (@pss_one _ _ _ (@ps_set _ _ (8) _ _ _ _ sc_law_lines.nd rfl (Or.inl rfl) (@pe_op _ _ _ _ _ _ _ _ (@op_add_str _) (@pe_str _ _ _ _) (@pv _ 7 _ _ (by rfl) (by first   | exact Or.inl rfl   | exact Or.inr (Or.inl rfl)   | exact Or.inr (Or.inr rfl)) (by decide) (by decide))) (by rfl) (by first   | exact .inl rfl   | exact .inr rfl   | assumption))) (@pss_nil _)) (@pss_cons _ _ _ _ _ (@ps_if _ _ _ _ _ _ _ _ (@pt_cmpR _ _ _ _ _ _ _ _ (@op_eq _) (@pv _ 6 _ _ (by rfl) (by first   | exact Or.inl rfl   | exact Or.inr (Or.inl rfl)   | exact Or.inr (Or.inr rfl)) (by decide) (by decide)) (@pe_int _ _ _ _) (nomark _)) (@pss_one _ _ _ (@ps_set _ _ (8) _ _ _ _ sc_law_lines.nd rfl (Or.inl rfl) (@pe_ix _ _ _ _ _ _ _ (@ix_list _) (@pe_lst _ _ _ _ (@pa_cons _ _ _ _ _ (@pe_op _ _ _ _ _ _ _ _ (@op_add_str _) (@pe_str _ _ _ _) (@pv _ 7 _ _ (by rfl) (by first   | exact Or.inl rfl   | exact Or.inr (Or.inl rfl)   | exact Or.inr (Or.inr rfl)) (by decide) (by decide))) (@pa_cons _ _ _ _ _ (@pe_fn _ _ _ _ _ _ _ _ _ _ _ C_law_bad hr (by rfl) (@pa_cons _ _ _ _ _ (@pe_op _ _ _ _ _ _ _ _ (@op_mod _) (@pe_op _ _ _ _ _ _ _ _ (@op_fdiv _) (@pv _ 5 _ _ (by rfl) (by first   | exact Or.inl rfl   | exact Or.inr (Or.inl rfl)   | exact Or.inr (Or.inr rfl)) (by decide) (by decide)) (@pe_int _ _ _ _)) (@pe_int _ _ _ _)) (@pa_cons _ _ _ _ _ (@pv _ 7 _ _ (by rfl) (by first   | exact Or.inl rfl   | exact Or.inr (Or.inl rfl)   | exact Or.inr (Or.inr rfl)) (by decide) (by decide)) (@pa_nil _) (by rfl)) (by rfl)) (by decide) (by decide) (by rfl) (by rfl)) (@pa_nil _) (by rfl)) (by rfl))) (@pe_op _ _ _ _ _ _ _ _ (@op_mod _) (@pe_op _ _ _ _ _ _ _ _ (@op_fdiv _) (@pv _ 5 _ _ (by rfl) (by first   | exact Or.inl rfl   | exact Or.inr (Or.inl rfl)   | exact Or.inr (Or.inr rfl)) (by decide) (by decide)) (@pe_int _ _ _ _)) (@pe_int _ _ _ _)) (fun _ _ => rfl)) (by rfl) (by first   | exact .inl rfl   | exact .inr rfl   | assumption))) (@pss_nil _)) (@pss_cons _ _ _ _ _ (@ps_if _ _ _ _ _ _ _ _ (@PW.pt _ _ _ (@pw_and _ _ _ _ _ _ _ (@pt_cmp _ _ _ _ _ _ (@pc_isN _ _ _ _ _ (@pv _ 2 _ _ (by rfl) (by first   | exact Or.inl rfl   | exact Or.inr (Or.inl rfl)   | exact Or.inr (Or.inr rfl)) (by decide) (by decide))) (by first   | exact nobehind _ (by decide) (by decide)   | rfl)) (@pw_and1 _ _ _ _ (@PW.pt _ _ _ (@pw_or _ _ _ _ _ _ _ (@pt_cmpR _ _ _ _ _ _ _ _ (@op_eq _) (@pv _ 6 _ _ (by rfl) (by first   | exact Or.inl rfl   | exact Or.inr (Or.inl rfl)   | exact Or.inr (Or.inr rfl)) (by decide) (by decide)) (@pe_int _ _ _ _) (nomark _)) (@pw_or1 _ _ _ _ (@PW.pt _ _ _ (@pw_and _ _ _ _ _ _ _ (@pt_cmpR _ _ _ _ _ _ _ _ (@op_gt _) (@pv _ 6 _ _ (by rfl) (by first   | exact Or.inl rfl   | exact Or.inr (Or.inl rfl)   | exact Or.inr (Or.inr rfl)) (by decide) (by decide)) (@pe_int _ _ _ _) (nomark _)) (@pw_and1 _ _ _ _ (@pt_cmpR _ _ _ _ _ _ _ _ (@op_eqL_nil _ hu0) (@pv _ 3 _ _ (by rfl) (by first   | exact Or.inl rfl   | exact Or.inr (Or.inl rfl)   | exact Or.inr (Or.inr rfl)) (by decide) (by decide)) (@pe_lst _ _ _ _ (@pa_nil _)) (nomark _))))))))))) (@pss_one _ _ _ (@ps_set _ _ (2) _ _ _ _ sc_law_lines.nd rfl (Or.inl rfl) (@pe_callB _ _ _ _ _ _ _ _ _ (@call_len_seq _) (by rfl) T.n_len PySem.boot_len (@pa_cons _ _ _ _ _ (@pv _ 1 _ _ (by rfl) (by first   | exact Or.inl rfl   | exact Or.inr (Or.inl rfl)   | exact Or.inr (Or.inr rfl)) (by decide) (by decide)) (@pa_nil _) (by rfl)) (by decide) (by decide) (by rfl) (by rfl)) (by rfl) (by first   | exact .inl rfl   | exact .inr rfl   | assumption))) (@pss_nil _)) (@pss_cons _ _ _ _ _ (@ps_if _ _ _ _ _ _ _ _ (@pt_cmpR _ _ _ _ _ _ _ _ (@op_lt _) (@pv _ 6 _ _ (by rfl) (by first   | exact Or.inl rfl   | exact Or.inr (Or.inl rfl)   | exact Or.inr (Or.inr rfl)) (by decide) (by decide)) (@pe_int _ _ _ _) (nomark _)) (@pss_cons _ _ _ _ _ (@ps_expr _ _ _ _ (@pe_bm _ _ _ _ _ _ _ _ _ _ _ _ PySem.F.plainAttrs_list PySem.F.slot_list_append PySem.F.type_list_append (@mt_append _) (@pv _ 3 _ _ (by rfl) (by first   | exact Or.inl rfl   | exact Or.inr (Or.inl rfl)   | exact Or.inr (Or.inr rfl)) (by decide) (by decide)) (@pa_cons _ _ _ _ _ (@pv _ 7 _ _ (by rfl) (by first   | exact Or.inl rfl   | exact Or.inr (Or.inl rfl)   | exact Or.inr (Or.inr rfl)) (by decide) (by decide)) (@pa_nil _) (by rfl)) (by rfl) (by rfl) (by rfl) (by rfl) (by rfl)) (by rfl)) (@pss_one _ _ _ (@ps_expr _ _ _ _ (@pe_bm _ _ _ _ _ _ _ _ _ _ _ _ PySem.F.plainAttrs_list PySem.F.slot_list_append PySem.F.type_list_append (@mt_append _) (@pv _ 4 _ _ (by rfl) (by first   | exact Or.inl rfl   | exact Or.inr (Or.inl rfl)   | exact Or.inr (Or.inr rfl)) (by decide) (by decide)) (@pa_cons _ _ _ _ _ (@pe_int _ _ _ _) (@pa_nil _) (by rfl)) (by rfl) (by rfl) (by rfl) (by rfl) (by rfl)) (by rfl)))) (@pss_nil _)) (@pss_cons _ _ _ _ _ (@ps_if _ _ _ _ _ _ _ _ (@PW.pt _ _ _ (@pw_and _ _ _ _ _ _ _ (@pt_cmpR _ _ _ _ _ _ _ _ (@op_gt _) (@pv _ 6 _ _ (by rfl) (by first   | exact Or.inl rfl   | exact Or.inr (Or.inl rfl)   | exact Or.inr (Or.inr rfl)) (by decide) (by decide)) (@pe_int _ _ _ _) (nomark _)) (@pw_and1 _ _ _ _ (@pt_cmpR _ _ _ _ _ _ _ _ (@op_neL_nil _ hu0) (@pv _ 3 _ _ (by rfl) (by first   | exact Or.inl rfl   | exact Or.inr (Or.inl rfl)   | exact Or.inr (Or.inr rfl)) (by decide) (by decide)) (@pe_lst _ _ _ _ (@pa_nil _)) (nomark _))))) (@pss_one _ _ _ (@ps_asg _ _ _ _ _ _ (@pe_op _ _ _ _ _ _ _ _ (@op_add _) (@pe_ix _ _ _ _ _ _ _ (@ix_list _) (@pv _ 4 _ _ (by rfl) (by first   | exact Or.inl rfl   | exact Or.inr (Or.inl rfl)   | exact Or.inr (Or.inr rfl)) (by decide) (by decide)) (@pe_un _ _ _ _ _ _ (@un_neg _) (@pe_int _ _ _ _)) (fun _ _ => rfl)) (@pe_int _ _ _ _)) (@pg_sub _ _ _ _ _ _ _ (@pv _ 4 _ _ (by rfl) (by first   | exact Or.inl rfl   | exact Or.inr (Or.inl rfl)   | exact Or.inr (Or.inr rfl)) (by decide) (by decide)) (@pe_un _ _ _ _ _ _ (@un_neg _) (@pe_int _ _ _ _)) set_list (by intro _; rfl)) (by rfl) (by rfl) (by rfl))) (@pss_nil _)) (@pss_one _ _ _ (@ps_expr _ _ _ _ (@pe_bm _ _ _ _ _ _ _ _ _ _ _ _ PySem.F.plainAttrs_list PySem.F.slot_list_append PySem.F.type_list_append (@mt_append _) (@pv _ 1 _ _ (by rfl) (by first   | exact Or.inl rfl   | exact Or.inr (Or.inl rfl)   | exact Or.inr (Or.inr rfl)) (by decide) (by decide)) (@pa_cons _ _ _ _ _ (@pv _ 8 _ _ (by rfl) (by first   | exact Or.inl rfl   | exact Or.inr (Or.inl rfl)   | exact Or.inr (Or.inr rfl)) (by decide) (by decide)) (@pa_nil _) (by rfl)) (by rfl) (by rfl) (by rfl) (by rfl) (by rfl)) (by rfl))))))))))) (by intro _; rfl)) (@pss_one _ _ _ (@ps_ret _ _ _ _ (@pe_tup _ _ _ _ _ (@pa_cons _ _ _ _ _ (@pv _ 1 _ _ (by rfl) (by first   | exact Or.inl rfl   | exact Or.inr (Or.inl rfl)   | exact Or.inr (Or.inr rfl)) (by decide) (by decide)) (@pa_cons _ _ _ _ _ (@pv _ 2 _ _ (by rfl) (by first   | exact Or.inl rfl   | exact Or.inr (Or.inl rfl)   | exact Or.inr (Or.inr rfl)) (by decide) (by decide)) (@pa_cons _ _ _ _ _ (@pv _ 3 _ _ (by rfl) (by first   | exact Or.inl rfl   | exact Or.inr (Or.inl rfl)   | exact Or.inr (Or.inr rfl)) (by decide) (by decide)) (@pa_cons _ _ _ _ _ (@pv _ 4 _ _ (by rfl) (by first   | exact Or.inl rfl   | exact Or.inr (Or.inl rfl)   | exact Or.inr (Or.inr rfl)) (by decide) (by decide)) (@pa_nil _) (by rfl)) (by rfl)) (by rfl)) (by rfl)))))))))), ?_⟩
    refine ⟨(by show 0 ≤ sizeLine; decide), fun l gl => ⟨(by show 0 ≤ sizeLine; decide), fun h gh => ⟨(by show 0 ≤ sizeLine; decide), fun c gc => ?_⟩⟩⟩
    have hlh : l ≠ h := ne_of_none upd_same gh
    have hlc : l ≠ c := ne_of_none (upd_keep upd_same gh) gc
    have hhc : h ≠ c := ne_of_none upd_same gc
    have s1 : Same H (upd (upd (upd H l (.lst [])) h (.lst [])) c (.lst [])) := (((Same.refl H).new gl).new gh).new gc
    have g1 : LA H (upd (upd (upd H l (.lst [])) h (.lst [])) c (.lst [])) l h c [] [] := ⟨upd_keep (upd_keep upd_same gh) gc, upd_keep upd_same gc, upd_same, gl, ((Same.refl H).new gl).free gh, (((Same.refl H).new gl).new gh).free gc, hlh, hlc, hhc⟩
    generalize upd (upd (upd H l (.lst [])) h (.lst [])) c (.lst []) = H1 at s1 g1 ⊢
    obtain ⟨ms, hms, hml⟩ := cut_1_41 ns
    refine ⟨_, rfl, _, rfl, _, rfl, a, _, rfl, s1.seq hS, fun sl gs => ?_⟩
    rw [hms]
    have s2 : Same H1 (upd H1 sl (.lst (ms.map V.int))) := (Same.refl H1).new gs
    have hsl : upd H1 sl (.lst (ms.map V.int)) sl = some (.lst (ms.map V.int)) := upd_same
    have n1 : sl ≠ l := (ne_of_none g1.hl gs).symm
    have n2 : sl ≠ h := (ne_of_none g1.hh gs).symm
    have n3 : sl ≠ c := (ne_of_none g1.hc gs).symm
    generalize upd H1 sl (.lst (ms.map V.int)) = H2 at s2 hsl ⊢
    refine ⟨sl, rfl, ⟨_, SqL.of hsl⟩, for_list (K := K) (a := sl) (xs := ms.map V.int) (fun i σ H3 => ∃ (xs : List Str) (ks : List LK) (b : Option Nat) (v5 v6 v7 v8 : Option V), σ = [some (.ref a), some (.ref l), some (optV b), some (.ref h), some (.ref c), v5, v6, v7, v8] ∧ Same H H3 ∧ LA H H3 l h c xs (accL ks) ∧ Kinds xs ks ∧ xs.length = i ∧ BadIs ks b ∧ H3 sl = some (.lst (ms.map V.int)))
      ⟨[], [], none, none, none, none, none, rfl, s1.trans s2, g1.same s2, ⟨rfl, fun i x h => by simp at h⟩, rfl, fun j k h => by simp at h, hsl⟩ (fun i σ H3 _ ⟨_, _, _, _, _, _, _, _, _, _, _, _, _, h⟩ => SqL.of h) ?_ ?_⟩
    · rintro i y σ H3 hy ⟨xs, ks, b, v5, v6, v7, v8, rfl, s3, g3, hK, hxl, hB, hsl3⟩
      rw [List.getElem?_map] at hy
      obtain ⟨z, hz, rfl⟩ := Option.map_eq_some_iff.mp hy
      have hi : i < 40 := Nat.lt_of_lt_of_le (List.getElem?_eq_some_iff.mp hz).1 hml
      refine ⟨_, rfl, _, _, rfl, rfl, (by show (0 : Int) < 12; decide), ?_⟩
      have hw0 : 0 ≤ z % 12 := by omega
      refine ⟨_, rfl, _, _, rfl, rfl, ⟨by decide, by decide⟩, z / 432, rfl, fun n H4 s4 hn => ?_⟩
      refine ⟨_, rfl, _, _, rfl, rfl, ⟨by decide, by decide⟩, _, _, rfl, rfl, (by show (0 : Int) < 6; decide), _, rfl, z / 12 % 6, n, rfl, by omega, by omega, hn, fun x H5 s5 hx => ?_⟩
      show gName 8 (.str x) [some (.ref a), some (.ref l), some (optV b), some (.ref h), some (.ref c), some (.int z), some (.int (z % 12)), some (.str n), v8] H5 _
      have hw12 : z % 12 < 12 := by omega
      generalize z % 12 = w at hw0 hw12 ⊢
      have s35 := s4.trans s5
      have g5 := g3.same s35
      have hsl5 := s35 _ _ hsl3
      have sH5 := s3.trans s35
      have hal : (accL ks).length ≤ 40 := by have := accL_len ks; have := hK.1; omega
      generalize hacc : accL ks = acc at g5 hal
      refine to_g ?_
      refine seq_ifJ (fun t H6 => H6 = H5 ∧ t = decide (w < 3)) (fun σ H6 => H6 = H5 ∧ ∃ y, σ = [some (.ref a), some (.ref l), some (optV b), some (.ref h), some (.ref c), some (.int z), some (.int w), some (.str n), some (.str y)] ∧ LineIs y (if w < 3 then .head n else .work)) (fun Q' hQ => ⟨_, rfl, _, _, rfl, rfl, _, rfl, hQ _ _ ⟨rfl, rfl⟩⟩) (fun H6 e D' hD' => ?_) (fun H6 e => ?_) ?_
      · obtain ⟨rfl, e⟩ := e
        have hw : w < 3 := of_decide_eq_true e.symm
        have ln := hn.word.len
        have hp : ("part " : Str).length ≤ 20 := by decide +kernel
        have hsz : sizeLine = 16777216 := sizeLine_eq
        exact ⟨_, rfl, _, _, rfl, rfl, (by omega), hD' _ _ ⟨rfl, _, rfl, by rw [if_pos hw]; exact head_line hn⟩⟩
      · obtain ⟨rfl, e⟩ := e
        have hw : ¬ w < 3 := of_decide_eq_false e.symm
        exact ⟨rfl, _, rfl, by rw [if_neg hw]; exact hx⟩
      rintro σ H6 ⟨rfl, y, rfl, hy1⟩
      refine seq_ifJ (fun t H7 => H7 = H6 ∧ t = decide (w = 3)) (fun σ H7 => Same H6 H7 ∧ ∃ y, σ = [some (.ref a), some (.ref l), some (optV b), some (.ref h), some (.ref c), some (.int z), some (.int w), some (.str n), some (.str y)] ∧ LineIs y (kindAt w n)) (fun Q' hQ => ⟨_, rfl, rfl, _, rfl, hQ _ _ ⟨rfl, by simp⟩⟩) (fun H7 e D' hD' => ?_) (fun H7 e => ?_) ?_
      · obtain ⟨rfl, e⟩ := e
        have hw : w = 3 := of_decide_eq_true e.symm
        have ln := hn.word.len
        have hp : ("do " : Str).length ≤ 20 := by decide +kernel
        have hsz : sizeLine = 16777216 := sizeLine_eq
        have ek : kindAt w n = .bad := by rw [hw]; rfl
        refine ⟨_, rfl, _, _, rfl, rfl, (by omega), _, rfl, _, _, rfl, rfl, ⟨by decide, by decide⟩, _, _, rfl, rfl, (by show (0 : Int) < 18; decide), _, rfl, z / 12 % 18, n, rfl, by omega, by omega, hn, fun x2 H8 s8 hx2 => ?_⟩
        refine ⟨(by show 2 ≤ sizeLine; decide), fun d gd => ⟨_, rfl, _, _, rfl, rfl, ⟨by decide, by decide⟩, _, _, rfl, rfl, (by show (0 : Int) < 2; decide), ?_⟩⟩
        have h2 : z / 216 % 2 = 0 ∨ z / 216 % 2 = 1 := by omega
        rcases h2 with h2 | h2
        · refine ⟨d, _, _, _, rfl, rfl, SqL.of upd_same, (by rw [h2]; exact atI_nat (j := 0) rfl), hD' _ _ ⟨s8.new gd, _, rfl, ?_⟩⟩
          rw [ek]; exact do_line hn
        · refine ⟨d, _, _, _, rfl, rfl, SqL.of upd_same, (by rw [h2]; exact atI_nat (j := 1) rfl), hD' _ _ ⟨s8.new gd, _, rfl, ?_⟩⟩
          rw [ek]; exact hx2
      · obtain ⟨rfl, e⟩ := e
        have hw : ¬ w = 3 := of_decide_eq_false e.symm
        refine ⟨Same.refl _, _, rfl, ?_⟩
        unfold kindAt
        rw [if_neg hw]; exact hy1
      rintro σ H7 ⟨s7, y, rfl, hy2⟩
      have g7 := g5.same s7
      have hsl7 := s7 _ _ hsl5
      have sH7 := sH5.trans s7
      clear hy1 hx g5 hsl5 sH5 g3 hsl3
      refine seq_ifJ (fun t H8 => Same H7 H8 ∧ t = (b.isNone && isB acc (kindAt w n))) (fun σ H8 => Same H7 H8 ∧ σ = [some (.ref a), some (.ref l), some (optV (nb b (isB acc (kindAt w n)) ks.length)), some (.ref h), some (.ref c), some (.int z), some (.int w), some (.str n), some (.str y)]) (fun Q' hQ => ?_) (fun H8 e D' hD' => ?_) (fun H8 e => ?_) ?_
      · cases b with
        | some i => exact ⟨_, rfl, _, rfl, iteF (hQ _ _ ⟨Same.refl _, rfl⟩)⟩
        | none =>
          refine ⟨_, rfl, _, rfl, iteT ?_⟩
          by_cases h3 : w = 3
          · subst h3
            exact ⟨_, rfl, rfl, _, rfl, iteT (hQ _ _ ⟨Same.refl _, rfl⟩)⟩
          refine ⟨_, rfl, rfl, _, rfl, ?_⟩
          rw [show decide (V.int w = V.int 3) = false by simp [h3]]
          refine iteF ⟨_, rfl, _, _, rfl, rfl, _, rfl, ite2 (fun h => ?_) (fun h => ?_)⟩
          · have hw : 3 < w := of_decide_eq_true h
            refine ⟨_, rfl, (by show 0 ≤ sizeLine; decide), fun e ge => ⟨_, _, _, rfl, rfl, SqL.of (upd_keep g7.hh ge), SqL.of upd_same, _, rfl, hQ _ _ ⟨(Same.refl _).new ge, ?_⟩⟩⟩
            have : kindAt w n = .work := by unfold kindAt; rw [if_neg (by omega), if_neg h3]
            rw [this]
            show _ = (true && acc.isEmpty)
            simp
          · have hw : ¬ 3 < w := fun z => h (decide_eq_true z)
            refine hQ _ _ ⟨Same.refl _, ?_⟩
            have : kindAt w n = .head n := by unfold kindAt; rw [if_pos (by omega)]
            rw [this]
            rfl
      · obtain ⟨s8, e⟩ := e
        cases b with
        | some i => cases e
        | none =>
          have e2 : isB acc (kindAt w n) = true := e.symm
          refine ⟨_, rfl, l, _, rfl, .inl (SqL.of (s8 _ _ g7.hl)), hD' _ _ ⟨s8, ?_⟩⟩
          rw [e2]
          show [some (V.ref a), some (V.ref l), some (V.int ((xs.map V.str).length : Int)), _, _, _, _, _, _] = _
          rw [List.length_map, hK.1]
          rfl
      · obtain ⟨s8, e⟩ := e
        refine ⟨s8, ?_⟩
        cases b with
        | some i => rfl
        | none =>
          have e2 : isB acc (kindAt w n) = false := e.symm
          rw [e2]
          rfl
      rintro σ H8 ⟨s8, rfl⟩
      have g8 := g7.same s8
      have hsl8 := s8 _ _ hsl7
      have sH8 := sH7.trans s8
      clear g7 hsl7 sH7
      refine seq_ifJ (fun t H9 => H9 = H8 ∧ t = decide (w < 3)) (fun σ H9 => Same H H9 ∧ LA H H9 l h c xs (if w < 3 then acc ++ [(n, 0)] else acc) ∧ H9 sl = some (.lst (ms.map V.int)) ∧ σ = [some (.ref a), some (.ref l), some (optV (nb b (isB acc (kindAt w n)) ks.length)), some (.ref h), some (.ref c), some (.int z), some (.int w), some (.str n), some (.str y)]) (fun Q' hQ => ⟨_, rfl, _, _, rfl, rfl, _, rfl, hQ _ _ ⟨rfl, rfl⟩⟩) (fun H9 e D' hD' => ?_) (fun H9 e => ?_) ?_
      · obtain ⟨rfl, e⟩ := e
        have hw : w < 3 := of_decide_eq_true e.symm
        refine ⟨_, rfl, .inl ⟨rfl, _, SqL.of g8.hh⟩, _, rfl, h, _, _, rfl, rfl, g8.hh, small1000 (by rw [List.length_map]; omega), ?_⟩
        have hc9 : upd H9 h (.lst ((acc.map fun p => V.str p.1) ++ [.str n])) c = some (.lst (acc.map fun p => V.int (p.2 : Int))) := by rw [upd_ne g8.hc'.symm]; exact g8.hc
        refine ⟨_, rfl, .inl ⟨rfl, _, SqL.of hc9⟩, c, _, _, rfl, rfl, hc9, small1000 (by rw [List.length_map]; omega), hD' _ _ ⟨(sH8.put g8.fh).put g8.fc, ?_, ?_, rfl⟩⟩
        · rw [if_pos hw]; exact g8.head n
        · rw [upd_ne n3, upd_ne n2]; exact hsl8
      · obtain ⟨rfl, e⟩ := e
        have hw : ¬ w < 3 := of_decide_eq_false e.symm
        exact ⟨sH8, by rw [if_neg hw]; exact g8, hsl8, rfl⟩
      rintro σ H9 ⟨sH9, g9, hsl9, rfl⟩
      clear g8 hsl8 sH8
      refine seq_ifJ (fun t H10 => Same H9 H10 ∧ (t = true ↔ 3 < w ∧ acc ≠ [])) (fun σ H10 => Same H H10 ∧ LA H H10 l h c xs (accS acc (kindAt w n)) ∧ H10 sl = some (.lst (ms.map V.int)) ∧ σ = [some (.ref a), some (.ref l), some (optV (nb b (isB acc (kindAt w n)) ks.length)), some (.ref h), some (.ref c), some (.int z), some (.int w), some (.str n), some (.str y)]) (fun Q' hQ => ?_) (fun H10 e D' hD' => ?_) (fun H10 e => ?_) ?_
      · refine ⟨_, rfl, _, _, rfl, rfl, _, rfl, ite2 (fun h => ?_) (fun h => ?_)⟩
        · have hw : 3 < w := of_decide_eq_true h
          rw [if_neg (by omega)] at g9
          refine ⟨_, rfl, (by show 0 ≤ sizeLine; decide), fun e ge => ⟨_, _, _, rfl, rfl, SqL.of (upd_keep g9.hh ge), SqL.of upd_same, _, rfl, hQ _ _ ⟨(Same.refl _).new ge, ?_⟩⟩⟩
          cases acc with
          | nil => simp
          | cons p r => simp [hw]
        · have hw : ¬ 3 < w := fun z => h (decide_eq_true z)
          exact hQ _ _ ⟨Same.refl _, by simp [hw]⟩
      · obtain ⟨s10, e⟩ := e
        obtain ⟨hw, hne⟩ := e.mp rfl
        have g10 := g9.same s10
        rw [if_neg (by omega)] at g10
        have : kindAt w n = .work := by unfold kindAt; rw [if_neg (by omega), if_neg (by omega)]
        rcases List.eq_nil_or_concat acc with z | ⟨us, ⟨m, k⟩, rfl⟩
        · exact absurd z hne
        rw [List.concat_eq_append] at *
        have hc10 := g10.hc
        rw [List.map_append] at hc10
        have hix : ixN ((us.map fun p => V.int (p.2 : Int)) ++ [(m, k)].map fun p => V.int (p.2 : Int)).length (-1) = some us.length := by rw [List.length_append, List.length_map]; exact ixN_last
        refine ⟨_, rfl, _, rfl, c, _, _, _, rfl, rfl, SqL.of hc10, atI_last .., _, _, rfl, rfl, _, rfl, _, rfl, c, _, _, us.length, rfl, rfl, hc10, hix, hD' _ _ ⟨(sH9.trans s10).put g10.fc, ?_, ?_, rfl⟩⟩
        · rw [this, show accS (us ++ [(m, k)]) .work = us ++ [(m, k + 1)] from bump_snoc ..]
          have hb := g10.bump
          have e2 : ((us.map fun p => V.int (p.2 : Int)) ++ [(m, k)].map fun p => V.int (p.2 : Int)).set us.length (V.int ((k : Int) + 1)) = (us.map fun p => V.int (p.2 : Int)) ++ [.int ((k + 1 : Nat) : Int)] := by
            rw [List.set_append_right _ _ (by rw [List.length_map]; exact Nat.le_refl _), List.length_map, Nat.sub_self]
            rfl
          rw [← e2] at hb
          exact hb
        · rw [upd_ne n3]; exact s10 _ _ hsl9
      · obtain ⟨s10, e⟩ := e
        have hn' : ¬ (3 < w ∧ acc ≠ []) := fun z => absurd (e.mpr z) (by decide)
        refine ⟨sH9.trans s10, ?_, s10 _ _ hsl9, rfl⟩
        have g10 := g9.same s10
        by_cases h3 : w < 3
        · rw [if_pos h3] at g10
          have : kindAt w n = .head n := by unfold kindAt; rw [if_pos h3]
          rw [this]; exact g10
        · rw [if_neg h3] at g10
          by_cases h4 : w = 3
          · have : kindAt w n = .bad := by unfold kindAt; rw [if_neg h3, if_pos h4]
            rw [this]; exact g10
          · have : kindAt w n = .work := by unfold kindAt; rw [if_neg h3, if_neg h4]
            rw [this]
            have : acc = [] := Classical.byContradiction fun z => hn' ⟨by omega, z⟩
            subst this
            exact g10
      rintro σ H10 ⟨sH10, g10, hsl10, rfl⟩
      refine ⟨_, rfl, .inl ⟨rfl, _, SqL.of g10.hl⟩, _, rfl, l, _, _, rfl, rfl, g10.hl, small1000 (by rw [List.length_map]; omega), ?_⟩
      subst hacc
      refine ⟨xs ++ [y], ks ++ [kindAt w n], _, _, _, _, _, rfl, sH10.put g10.fl, (by rw [accL_app]; exact g10.row y), ⟨by rw [List.length_append, List.length_append, hK.1]; rfl, is_snoc hK.1 hK.2 hy2⟩, by rw [List.length_append, hxl]; rfl, hB.snoc, ?_⟩
      rw [upd_ne n1]; exact hsl10
    · rintro σ H3 ⟨xs, ks, b, v5, v6, v7, v8, rfl, s3, g3, hK, hxl, hB, hsl3⟩
      refine ⟨_, rfl, _, rfl, _, rfl, _, rfl, (by show 4 ≤ sizeLine; decide), fun p gp => ?_⟩
      rw [List.length_map] at hxl
      exact q p l h c xs ks b _ (s3.new gp) upd_same (g3.same ((Same.refl _).new gp)) hK (by omega) hB
theorem join_nil {xs : List Str} (h : Str.join "\n" xs = "") : xs = [] ∨ xs = [("" : Str)] := by
  match xs, h with
  | [], _ => exact .inl rfl
  | [a], h => exact .inr (by rw [show a = "" from h])
  | a :: b :: r, h =>
    have e : Str.join "\n" (a :: b :: r) = Str.join "\n" [a] ++ "\n" ++ Str.join "\n" (b :: r) := join_app "\n" (b :: r) (by simp) [a] (by simp)
    rw [e] at h
    have hl := congrArg Str.length h
    rw [Str.length_append, Str.length_append] at hl
    have h4 : ("\n" : Str).length = 1 := by decide +kernel
    have h5 : ("" : Str).length = 0 := by decide +kernel
    omega
theorem empty_bad {k : LK} (h : LineIs "" k) : k = .bad := by
  have e : PySem.Txt.split "" " " = [("" : Str)] := by decide +kernel
  have hi := h.is
  rw [e] at hi
  cases k with
  | head n => exact absurd (List.cons.inj hi.1).1 (by decide)
  | work => exact absurd hi.1 (no_row0 _)
  | bad => rfl
structure Due (ys : List Str) (ks : List LK) (b : Option Nat) (acc : List (Str × Nat)) : Prop where
  ls : Lines ys ks
  no : Str.join "\n" ys = "" → b = none ∧ acc = []
  so : Str.join "\n" ys ≠ "" → BadIs ks b ∧ accL ks = acc
theorem lines_empty : Lines [""] [.bad] := ⟨by simp, rfl, by decide, fun i x h => by
  match i, h with
  | 0, h => exact ⟨.bad, rfl, by cases h; exact empty_line⟩
  | i + 1, h => simp at h⟩
theorem due_of {xs : List Str} {ks : List LK} {b b' : Option Nat} {acc : List (Str × Nat)} (hK : Kinds xs ks) (hx : xs.length ≤ 41) (hB : BadIs ks b) (ha : accL ks = acc) (hb : b' = if xs = [("" : Str)] then none else b) : ∃ ys ks', Str.join "\n" xs = Str.join "\n" ys ∧ Due ys ks' b' acc := by
  by_cases e0 : xs = []
  · subst e0
    have : ks = [] := List.length_eq_zero_iff.mp hK.1.symm
    subst this
    refine ⟨[""], [.bad], rfl, lines_empty, fun _ => ⟨?_, ha.symm⟩, fun h => absurd rfl h⟩
    rw [if_neg (by simp)] at hb
    cases b with
    | none => exact hb
    | some i =>
      obtain ⟨⟨k, hk, _⟩, _⟩ := hB
      simp at hk
  · refine ⟨xs, ks, rfl, ⟨e0, hK.1, hx, hK.2⟩, fun h => ?_, fun h => ?_⟩
    · rcases join_nil h with z | z
      · exact absurd z e0
      · rw [if_pos z] at hb
        refine ⟨hb, ?_⟩
        subst z
        match ks, hK, ha with
        | [], hK, _ => exact absurd hK.1 (by simp)
        | [k], hK, ha =>
          obtain ⟨k', h1, h2⟩ := hK.2 0 "" rfl
          cases h1
          rw [empty_bad h2] at ha
          exact ha.symm
        | _ :: _ :: _, hK, _ => exact absurd hK.1 (by simp)
    · rw [if_neg (fun z => h (by rw [z]; rfl))] at hb
      rw [hb]
      exact ⟨hB, ha⟩
theorem ask_q {ys : List Str} {ks : List LK} {b : Option Nat} {acc : List (Str × Nat)} {H : Hp} {Q : VK} (hD : Due ys ks b acc) (q : ∀ (f : V) (H' : Hp), Same H H' → Found H' f b acc → Q f H') : (Str.join "\n" ys = "" → ∀ (t r : Addr) (H' : Hp), Same H H' → H' t = some (.tup [.ref r]) → PartsL H' r [] → Q (.ref t) H') ∧
  (Str.join "\n" ys ≠ "" → (∀ i, FirstBad ks i → ∀ (l : Addr) (H' : Hp), Same H H' → H' l = some (.lst [.int (i : Int)]) → Q (.ref l) H') ∧ (NoBad ks → ∀ (t r : Addr) (H' : Hp), Same H H' → H' t = some (.tup [.ref r]) → PartsL H' r (accL ks) → Q (.ref t) H')) := by
  refine ⟨fun e t r H' s ht hp => ?_, fun e => ⟨fun i hi l H' s hl => ?_, fun hn t r H' s ht hp => ?_⟩⟩
  · obtain ⟨rfl, rfl⟩ := hD.no e
    exact q _ _ s ⟨t, r, rfl, ht, hp⟩
  · obtain ⟨hB, _⟩ := hD.so e
    cases b with
    | none =>
      obtain ⟨⟨k, hk, hb⟩, _⟩ := hi
      rw [hB i k hk] at hb
      cases hb
    | some j =>
      have : i = j := by
        obtain ⟨⟨k, hk, hb⟩, hg⟩ := hi
        obtain ⟨⟨k', hk', hb'⟩, hg'⟩ := hB
        rcases Nat.lt_trichotomy i j with z | z | z
        · rw [hg' i z k hk] at hb; cases hb
        · exact z
        · rw [hg j z k' hk'] at hb'; cases hb'
      subst this
      exact q _ _ s ⟨l, rfl, hl⟩
  · obtain ⟨hB, ha⟩ := hD.so e
    cases b with
    | none => exact q _ _ s ⟨t, r, rfl, ht, by rw [← ha]; exact hp⟩
    | some j =>
      obtain ⟨⟨k, hk, hb⟩, _⟩ := hB
      rw [hn j k hk] at hb
      cases hb
noncomputable def spAsk : Sp := fun vs H Q _ => ∃ (b : Option Nat) (acc : List (Str × Nat)) (ys : List Str) (ks : List LK), vs = [.str (Str.join "\n" ys)] ∧ Due ys ks b acc ∧ ∀ (f : V) (H' : Hp), Same H H' → Found H' f b acc → Q f H'
theorem ok_lread (T : Txt K mg) {A : Adr} (hX : XTxt K mg A) : L2.Cl P w K mg base 10 "_law_read" ["_law_text"] (spAsk) := by
  have C_read := ok_read7 (P := P) (w := w) (base := base) T hX
  refine Cl.of T.d_law_read sc_law_read (fun vs H Q E h => ?_) (fun _ _ _ _ _ _ us hl => by obtain ⟨a, rfl⟩ := len1 hl; rfl) (fun f cdv A0 outer s H vs Q E hr h => ?_)
  · obtain ⟨b, acc, xs, ks, rfl, _⟩ := h
    rfl
  · obtain ⟨b, acc, xs, ks, rfl, hD, q⟩ := h
    have hL := hD.ls
    obtain ⟨q0, q1⟩ := ask_q hD q
    refine ⟨_, (pss_cons (ps_tryAsD (i := 2) sc_law_read.nd rfl rfl (by rfl) hX.m_NoRow hX.k_NoRow (tb_setD (i := 1) sc_law_read.nd rfl (Or.inl rfl) C_read hr (by rfl) (pa_cons (pv 0) pa_nil))
        (fun a => (pss_one (ps_ret (pe_lst (pa_cons (pe_fldXDK (K := K) rfl (pv 2) (by rfl)) pa_nil))))))
      (pss_one (ps_ret (pe_tup (pa_cons (pv 1) pa_nil))))), ?_⟩
    refine ⟨_, rfl, xs, ks, rfl, hL.ne, hL.len, hL.few, hL.is, (fun e r H1 s1 hp => ⟨_, rfl, (by show 1 ≤ sizeLine; decide), fun t gt => q0 e t r _ (s1.new gt) upd_same (hp.mono ((Same.refl H1).new gt))⟩), fun e => ⟨fun i hb H1 dx s1 hdx => ?_, fun hg r H1 s1 hp => ⟨_, rfl, (by show 1 ≤ sizeLine; decide), fun t gt => (q1 e).2 hg t r _ (s1.new gt) upd_same (hp.mono ((Same.refl H1).new gt))⟩⟩⟩
    refine ⟨A.NoRow, rfl, hX.s_NoRow, fun a na => ?_⟩
    exact ⟨_, rfl, a, A.NoRow, dx, _, _, rfl, upd_same, upd_keep hdx na, hX.k_NoRow, hX.f_NoRow, rfl, (by show 1 ≤ sizeLine; decide), fun l gl => (q1 e).1 i hb l _ ((s1.new na).new gl) upd_same⟩
theorem to_n7 {X R : TS} {D : Ends} {r : VK} {b k : L2.St → Hp → Prop} {σ : L2.St} {H : Hp} (h : tSeq X R D σ H) : Ends.nx ⟨tSeq X R D, r, b, k⟩ σ H := h
noncomputable def spLaw (K : PySem.W.Frag) : Sp := fun vs H Q _ => ∃ (a : Addr) (ns : List Int), vs = [.ref a] ∧ SqL K H a (ns.map V.int) ∧ ns.length ≤ 63 ∧ ∀ H', Q (.bl true) H'
theorem law_fn {f : Addr} {fd : FuncData} (F : Fun K "law" "law" s_law f fd) (T : Txt K mg) : FnOk P w K mg base CX0 12 f fd ["_law_script"] (spLaw K) := by
  obtain ⟨A, hX⟩ := T.xs
  have C_law_lines := ok_lines (P := P) (w := w) (base := base) T
  have C_law_cell_at := ok_cell (P := P) (w := w) (base := base) T
  have C_law_alone := ok_lalone (P := P) (w := w) (base := base) T hX
  have C_law_right := ok_right (P := P) (w := w) (base := base) T
  have C_law_read := ok_lread (P := P) (w := w) (base := base) T hX
  refine F.ok sc_law (fun vs H Q E h => ?_) (fun cdv A0 outer s H vs Q E hr h => ?_)
  · obtain ⟨a, ns, rfl, _⟩ := h
    rfl
  · obtain ⟨a, ns, rfl, hS, hlen, q⟩ := h
    have hu0 := Nat.lt_of_succ_lt (hu_of hr)
    refine ⟨_, (@pss_cons _ _ _ _ _ (@ps_asg _ _ _ _ _ _ (@pe_fn _ _ _ _ _ _ _ _ _ _ _ C_law_lines hr (by rfl) (@pa_cons _ _ _ _ _ (@pv _ 0 _ _ (by rfl) (by first   | exact Or.inl rfl   | exact Or.inr (Or.inl rfl)   | exact Or.inr (Or.inr rfl)) (by decide) (by decide)) (@pa_nil _) (by rfl)) (by decide) (by decide) (by rfl) (by rfl)) (@pg_tup _ _ _ _ _ _ rfl (@pgs_cons _ _ _ _ _ (@pg_name _ _ (1) _ sc_law.nd rfl (Or.inl rfl) (by first   | exact .inl rfl   | exact .inr rfl   | assumption)) (@pgs_cons _ _ _ _ _ (@pg_name _ _ (2) _ sc_law.nd rfl (Or.inl rfl) (by first   | exact .inl rfl   | exact .inr rfl   | assumption)) (@pgs_cons _ _ _ _ _ (@pg_name _ _ (3) _ sc_law.nd rfl (Or.inl rfl) (by first   | exact .inl rfl   | exact .inr rfl   | assumption)) (@pgs_cons _ _ _ _ _ (@pg_name _ _ (4) _ sc_law.nd rfl (Or.inl rfl) (by first   | exact .inl rfl   | exact .inr rfl   | assumption)) (@pgs_nil _) (by rfl)) (by rfl)) (by rfl)) (by rfl)) (by rfl) (by rfl)) (by rfl) (by rfl) (by rfl)) (@pss_cons _ _ _ _ _ (@ps_if _ _ _ _ _ _ _ _ (@PW.pt _ _ _ (@pw_and _ _ _ _ _ _ _ (@pt_cmpR _ _ _ _ _ _ _ _ (@op_eq _) (@pe_op _ _ _ _ _ _ _ _ (@op_mod _) (@pe_fn _ _ _ _ _ _ _ _ _ _ _ C_law_cell_at hr (by rfl) (@pa_cons _ _ _ _ _ (@pv _ 0 _ _ (by rfl) (by first   | exact Or.inl rfl   | exact Or.inr (Or.inl rfl)   | exact Or.inr (Or.inr rfl)) (by decide) (by decide)) (@pa_cons _ _ _ _ _ (@pe_int _ _ _ _) (@pa_nil _) (by rfl)) (by rfl)) (by decide) (by decide) (by rfl) (by rfl)) (@pe_int _ _ _ _)) (@pe_int _ _ _ _) (nomark _)) (@pw_and1 _ _ _ _ (@pt_cmpR _ _ _ _ _ _ _ _ (@op_neL_nil _ hu0) (@pv _ 1 _ _ (by rfl) (by first   | exact Or.inl rfl   | exact Or.inr (Or.inl rfl)   | exact Or.inr (Or.inr rfl)) (by decide) (by decide)) (@pe_lst _ _ _ _ (@pa_nil _)) (nomark _))))) (@pss_cons _ _ _ _ _ (@ps_if _ _ _ _ _ _ _ _ (@pt_cmp _ _ _ _ _ _ (@pc_isN _ _ _ _ _ (@pv _ 2 _ _ (by rfl) (by first   | exact Or.inl rfl   | exact Or.inr (Or.inl rfl)   | exact Or.inr (Or.inr rfl)) (by decide) (by decide))) (by first   | exact nobehind _ (by decide) (by decide)   | rfl)) (@pss_one _ _ _ (@ps_set _ _ (2) _ _ _ _ sc_law.nd rfl (Or.inl rfl) (@pe_callB _ _ _ _ _ _ _ _ _ (@call_len_seq _) (by rfl) T.n_len PySem.boot_len (@pa_cons _ _ _ _ _ (@pv _ 1 _ _ (by rfl) (by first   | exact Or.inl rfl   | exact Or.inr (Or.inl rfl)   | exact Or.inr (Or.inr rfl)) (by decide) (by decide)) (@pa_nil _) (by rfl)) (by decide) (by decide) (by rfl) (by rfl)) (by rfl) (by first   | exact .inl rfl   | exact .inr rfl   | assumption))) (@pss_nil _)) (@pss_one _ _ _ (@ps_expr _ _ _ _ (@pe_bm _ _ _ _ _ _ _ _ _ _ _ _ PySem.F.plainAttrs_list PySem.F.slot_list_append PySem.F.type_list_append (@mt_append _) (@pv _ 1 _ _ (by rfl) (by first   | exact Or.inl rfl   | exact Or.inr (Or.inl rfl)   | exact Or.inr (Or.inr rfl)) (by decide) (by decide)) (@pa_cons _ _ _ _ _ (@pe_str _ _ _ _) (@pa_nil _) (by rfl)) (by rfl) (by rfl) (by rfl) (by rfl) (by rfl)) (by rfl)))) (@pss_nil _)) (@pss_cons _ _ _ _ _ (@ps_if _ _ _ _ _ _ _ _ (@pt_cmpR _ _ _ _ _ _ _ _ (@op_eqL_S _ hu0) (@pv _ 1 _ _ (by rfl) (by first   | exact Or.inl rfl   | exact Or.inr (Or.inl rfl)   | exact Or.inr (Or.inr rfl)) (by decide) (by decide)) (@pe_lst _ _ _ _ (@pa_cons _ _ _ _ _ (@pe_str _ _ _ _) (@pa_nil _) (by rfl))) (nomark _)) (@pss_one _ _ _ (@ps_set _ _ (2) _ _ _ _ sc_law.nd rfl (Or.inl rfl) (@pe_non _ _ _) (by rfl) (by first   | exact .inl rfl   | exact .inr rfl   | assumption))) (@pss_nil _)) (@pss_cons _ _ _ _ _ (@ps_set _ _ (5) _ _ _ _ sc_law.nd rfl (Or.inl rfl) (@pe_bm _ _ _ _ _ _ _ _ _ _ _ _ PySem.F.plainAttrs_str PySem.F.slot_str_join PySem.F.type_str_join (@mt_join _) (@pe_str _ _ _ _) (@pa_cons _ _ _ _ _ (@pv _ 1 _ _ (by rfl) (by first   | exact Or.inl rfl   | exact Or.inr (Or.inl rfl)   | exact Or.inr (Or.inr rfl)) (by decide) (by decide)) (@pa_nil _) (by rfl)) (by rfl) (by rfl) (by rfl) (by rfl) (by rfl)) (by rfl) (by first   | exact .inl rfl   | exact .inr rfl   | assumption)) (@pss_cons _ _ _ _ _ (@ps_if _ _ _ _ _ _ _ _ (@PW.pt _ _ _ (@pw_or _ _ _ _ _ _ _ (@pt_not _ _ _ _ (@pt_val _ _ _ (@pe_fn _ _ _ _ _ _ _ _ _ _ _ C_law_right hr (by rfl) (@pa_cons _ _ _ _ _ (@pe_fn _ _ _ _ _ _ _ _ _ _ _ C_law_read hr (by rfl) (@pa_cons _ _ _ _ _ (@pv _ 5 _ _ (by rfl) (by first   | exact Or.inl rfl   | exact Or.inr (Or.inl rfl)   | exact Or.inr (Or.inr rfl)) (by decide) (by decide)) (@pa_nil _) (by rfl)) (by decide) (by decide) (by rfl) (by rfl)) (@pa_cons _ _ _ _ _ (@pv _ 2 _ _ (by rfl) (by first   | exact Or.inl rfl   | exact Or.inr (Or.inl rfl)   | exact Or.inr (Or.inr rfl)) (by decide) (by decide)) (@pa_cons _ _ _ _ _ (@pv _ 3 _ _ (by rfl) (by first   | exact Or.inl rfl   | exact Or.inr (Or.inl rfl)   | exact Or.inr (Or.inr rfl)) (by decide) (by decide)) (@pa_cons _ _ _ _ _ (@pv _ 4 _ _ (by rfl) (by first   | exact Or.inl rfl   | exact Or.inr (Or.inl rfl)   | exact Or.inr (Or.inr rfl)) (by decide) (by decide)) (@pa_nil _) (by rfl)) (by rfl)) (by rfl)) (by rfl)) (by decide) (by decide) (by rfl) (by rfl)) (by intro _; rfl))) (@pw_or1 _ _ _ _ (@pt_not _ _ _ _ (@pt_val _ _ _ (@pe_fn _ _ _ _ _ _ _ _ _ _ _ C_law_alone hr (by rfl) (@pa_cons _ _ _ _ _ (@pv _ 5 _ _ (by rfl) (by first   | exact Or.inl rfl   | exact Or.inr (Or.inl rfl)   | exact Or.inr (Or.inr rfl)) (by decide) (by decide)) (@pa_nil _) (by rfl)) (by decide) (by decide) (by rfl) (by rfl)) (by intro _; rfl)))))) (@pss_one _ _ _ (@ps_ret _ _ _ _ (@pe_bl _ _ _ _))) (@pss_nil _)) (@pss_one _ _ _ (@ps_ret _ _ _ _ (@pe_fn _ _ _ _ _ _ _ _ _ _ _ C_law_right hr (by rfl) (@pa_cons _ _ _ _ _ (@pe_fn _ _ _ _ _ _ _ _ _ _ _ C_law_read hr (by rfl) (@pa_cons _ _ _ _ _ (@pv _ 5 _ _ (by rfl) (by first   | exact Or.inl rfl   | exact Or.inr (Or.inl rfl)   | exact Or.inr (Or.inr rfl)) (by decide) (by decide)) (@pa_nil _) (by rfl)) (by decide) (by decide) (by rfl) (by rfl)) (@pa_cons _ _ _ _ _ (@pv _ 2 _ _ (by rfl) (by first   | exact Or.inl rfl   | exact Or.inr (Or.inl rfl)   | exact Or.inr (Or.inr rfl)) (by decide) (by decide)) (@pa_cons _ _ _ _ _ (@pv _ 3 _ _ (by rfl) (by first   | exact Or.inl rfl   | exact Or.inr (Or.inl rfl)   | exact Or.inr (Or.inr rfl)) (by decide) (by decide)) (@pa_cons _ _ _ _ _ (@pv _ 4 _ _ (by rfl) (by first   | exact Or.inl rfl   | exact Or.inr (Or.inl rfl)   | exact Or.inr (Or.inr rfl)) (by decide) (by decide)) (@pa_nil _) (by rfl)) (by rfl)) (by rfl)) (by rfl)) (by decide) (by decide) (by rfl) (by rfl))))))))), ?_⟩
    refine ⟨_, rfl, a, ns, rfl, hS, hlen, fun p l h c xs ks b H1 s1 hp g1 hK hx hB => ?_⟩
    refine ⟨p, _, rfl, SqT.of hp, rfl, _, _, rfl, _, _, rfl, _, _, rfl, _, _, rfl, rfl, ?_⟩
    have hS1 := s1.seq hS
    refine to_n7 (σ := [some (.ref a), some (.ref l), some (optV b), some (.ref h), some (.ref c), none]) ?_
    generalize hacc : accL ks = acc at g1
    have hal : acc.length ≤ 40 := by have := accL_len ks; have := hK.1; rw [← hacc]; omega
    refine seq_ifJ (fun t H2 => Same H1 H2 ∧ (t = true → xs ≠ [])) (fun σ H2 => ∃ (xs : List Str) (ks : List LK) (b : Option Nat), σ = [some (.ref a), some (.ref l), some (optV b), some (.ref h), some (.ref c), none] ∧ LA H H2 l h c xs acc ∧ Kinds xs ks ∧ xs.length ≤ 41 ∧ accL ks = acc ∧ BadIs ks b) (fun Q' hQ => ?_) (fun H2 e D' hD' => ?_) (fun H2 e => ⟨xs, ks, b, rfl, g1.same e.1, hK, by omega, hacc, hB⟩) ?_
    · refine ⟨_, rfl, a, ns, 0, rfl, hS1, by decide, fun d => ⟨_, _, rfl, rfl, (by show (0 : Int) < 4; decide), rfl, _, rfl, ite2 (fun _ => ?_) (fun _ => hQ _ _ ⟨Same.refl _, fun z => by cases z⟩)⟩⟩
      refine ⟨_, rfl, (by show 0 ≤ sizeLine; decide), fun e ge => ⟨_, _, _, rfl, rfl, SqL.of (upd_keep g1.hl ge), SqL.of upd_same, _, rfl, hQ _ _ ⟨(Same.refl _).new ge, fun z e => ?_⟩⟩⟩
      subst e
      cases z
    · obtain ⟨s2, hne⟩ := e
      have hne := hne rfl
      have g2 := g1.same s2
      refine seq_ifJ (fun t H3 => H3 = H2 ∧ t = b.isNone) (fun σ H3 => H3 = H2 ∧ σ = [some (.ref a), some (.ref l), some (optV (nb b true ks.length)), some (.ref h), some (.ref c), none]) (fun Q' hQ => ?_) (fun H3 e D2 hD2 => ?_) (fun H3 e => ?_) ?_
      · cases b with
        | some i => exact ⟨_, rfl, _, rfl, hQ _ _ ⟨rfl, rfl⟩⟩
        | none => exact ⟨_, rfl, _, rfl, hQ _ _ ⟨rfl, rfl⟩⟩
      · obtain ⟨rfl, e⟩ := e
        cases b with
        | some i => cases e
        | none =>
          refine ⟨_, rfl, l, _, rfl, .inl (SqL.of g2.hl), hD2 _ _ ⟨rfl, ?_⟩⟩
          show [some (V.ref a), some (V.ref l), some (V.int ((xs.map V.str).length : Int)), _, _, _] = _
          rw [List.length_map, hK.1]
          rfl
      · obtain ⟨rfl, e⟩ := e
        refine ⟨rfl, ?_⟩
        cases b with
        | some i => rfl
        | none => cases e
      rintro σ H3 ⟨rfl, rfl⟩
      refine ⟨_, rfl, .inl ⟨rfl, _, SqL.of g2.hl⟩, l, _, _, rfl, rfl, g2.hl, small1000 (by rw [List.length_map]; omega), hD' _ _ ⟨xs ++ [("" : Str)], ks ++ [.bad], _, rfl, g2.row "", ⟨by rw [List.length_append, List.length_append, hK.1]; rfl, is_snoc hK.1 hK.2 empty_line⟩, by rw [List.length_append]; show xs.length + 1 ≤ 41; omega, by rw [accL_app]; exact hacc, hB.snoc⟩⟩
    clear hB hK hx hacc g1
    rintro σ H2 ⟨xs, ks, b, rfl, g2, hK, hx, ha, hB⟩
    refine seq_ifJ (fun t H3 => Same H2 H3 ∧ t = decide (xs = [("" : Str)])) (fun σ H3 => Same H2 H3 ∧ ∃ b', b' = (if xs = [("" : Str)] then none else b) ∧ σ = [some (.ref a), some (.ref l), some (optV b'), some (.ref h), some (.ref c), none]) (fun Q' hQ => ?_) (fun H3 e D' hD' => ?_) (fun H3 e => ?_) ?_
    · exact ⟨_, rfl, (by show 1 ≤ sizeLine; decide), fun e ge => ⟨_, _, xs, [""], rfl, rfl, SqL.of (upd_keep g2.hl ge), SqL.of upd_same, _, rfl, hQ _ _ ⟨(Same.refl _).new ge, rfl⟩⟩⟩
    · obtain ⟨s3, e⟩ := e
      exact hD' _ _ ⟨s3, none, by rw [if_pos (of_decide_eq_true e.symm)], rfl⟩
    · obtain ⟨s3, e⟩ := e
      exact ⟨s3, b, by rw [if_neg (of_decide_eq_false e.symm)], rfl⟩
    rintro σ H3 ⟨s3, b', hb', rfl⟩
    have g3 := g2.same s3
    obtain ⟨ys, ks', ey, hD⟩ := due_of hK hx hB ha hb'
    have hsum : (xs.map (·.length)).sum ≤ 1000 * xs.length := by
      have : ∀ x ∈ xs, x.length ≤ 1000 := fun x hx => by
        obtain ⟨i, hi⟩ := List.mem_iff_getElem?.mp hx
        obtain ⟨k, _, h⟩ := hK.2 i x hi
        exact h.len
      clear hK hx hB ha hb' ey g2 g3
      induction xs with
      | nil => exact Nat.zero_le _
      | cons a r ih =>
        have h1 := this a (by simp)
        have h2 := ih fun x hx => this x (by simp [hx])
        simp only [List.map_cons, List.sum_cons, List.length_cons]
        omega
    refine ⟨rfl, _, rfl, _, l, xs, rfl, rfl, .inr (SqL.of g3.hl), (by decide +kernel), (by omega), ?_⟩
    rw [ey]
    refine ⟨_, rfl, b', acc, ys, ks', rfl, hD, fun v H4 s4 hF => ?_⟩
    have g4 := g3.same s4
    refine ⟨_, rfl, _, rfl, _, rfl, v, b', h, c, acc, rfl, hF, g4.hh, g4.hc, by omega, _, rfl, iteF ?_⟩
    refine ⟨_, rfl, ys, ks', rfl, hD.ls, fun H5 s5 => ?_⟩
    refine ⟨_, rfl, iteF ?_⟩
    have g5 := g4.same s5
    refine ⟨_, rfl, b', acc, ys, ks', rfl, hD, fun v H6 s6 hF6 => ?_⟩
    have g6 := g5.same s6
    exact ⟨_, rfl, _, rfl, _, rfl, v, b', h, c, acc, rfl, hF6, g6.hh, g6.hc, by omega, q _⟩
end
end K07
set_option Elab.async false
set_option linter.all false
set_option maxRecDepth 100000
namespace K07
open PySem L2
noncomputable def DA (K : PySem.W.Frag) (x : Str) (st : Stmt) : Prop := ∃ f od an sl oc kV dc pm cd ct, PySem.W.nsIn K mainGlobals x = some (some (.ref f)) ∧ K.lookup f = some ⟨oc, od, .func (PySem.W.fnOf x x (defArgs st) (defBody st) (defScope st) .none kV dc pm an cd ct), sl⟩ ∧ PySem.W.codeIn K cd x = true ∧ PySem.W.keepIn K (.ref f) = true
theorem DA.has {K : PySem.W.Frag} {h : Heap} {mg : Str → Option Value} {x : Str} {st : Stmt} (X : K.In h) (G : h.Ns mainGlobals mg) (d : DA K x st) : HasDef K mg x st := by
  obtain ⟨f, od, an, sl, oc, kV, dc, pm, cd, ct, a, l, c, k⟩ := d
  exact hasDef_mk X G a l c k
theorem DA.mk {K : PySem.W.Frag} {x : Str} {st : Stmt} {f : Addr} {od an : Option Addr} {sl : Array (Option Value)} {oc kV dc pm cd ct : Value} (a : PySem.W.nsIn K mainGlobals x = some (some (.ref f))) (l : K.lookup f = some ⟨oc, od, .func (PySem.W.fnOf x x (defArgs st) (defBody st) (defScope st) .none kV dc pm an cd ct), sl⟩) (c : PySem.W.codeIn K cd x = true) (k : PySem.W.keepIn K (.ref f) = true) : DA K x st := ⟨f, od, an, sl, oc, kV, dc, pm, cd, ct, a, l, c, k⟩
theorem all_mk {l : PySem.W.OpenLaw} {w : World} {K : PySem.W.Frag} {h : Heap} {mg : Str → Option Value} {fa : Addr} (X : K.In h) (G : h.Ns mainGlobals mg) (hfa : mg "law" = some (.ref fa))
    {tk0 : Tok}
    {tk1 : Tok}
    {tk2 : Tok}
    {tk3 : Tok}
    {tk4 : Tok}
    {tk5 : Tok}
    {c_BundleError : Addr}
    {c_NoRow : Addr}
    {c_Twice : Addr}
    {c_NoPart : Addr}
    {c_NoName : Addr}
    {cd_c_BundleError : ClassData}
    {cd_c_NoRow : ClassData}
    {fi_NoRow : Addr} {iod_NoRow ian_NoRow : Option Addr} {isl_NoRow : Array (Option Value)} {ioc_NoRow ikV_NoRow idc_NoRow ipm_NoRow icd_NoRow ict_NoRow : Value}
    {jN_NoRow : Addr} {jnm_NoRow jq_NoRow : Str} {jbs_NoRow : List Value} {jh_NoRow : Bool} {jsn_NoRow : List Str} {jsub_NoRow : List Value} {jab_NoRow : Bool} {jcol_NoRow : Option Bool} {jdd_NoRow : Option Addr} {j0_NoRow j1_NoRow j2_NoRow j3_NoRow j5_NoRow : Option Value}
    (hd : DA K "read_row" s_read_row ∧
    DA K "read_bring" s_read_bring ∧
    DA K "read_pair" s_read_pair ∧
    DA K "read_set" s_read_set ∧
    DA K "read_say" s_read_say ∧
    DA K "read_ask" s_read_ask ∧
    DA K "has_when" s_has_when ∧
    DA K "read_sum" s_read_sum ∧
    DA K "read_sign" s_read_sign ∧
    DA K "read_thing" s_read_thing ∧
    DA K "read_only_name" s_read_only_name ∧
    DA K "read_name" s_read_name ∧
    DA K "is_name" s_is_name ∧
    DA K "is_number" s_is_number ∧
    DA K "read" s_read ∧
    DA K "read_line" s_read_line ∧
    DA K "_law_cell_at" s_law_cell_at ∧
    DA K "_law_name" s_law_name ∧
    DA K "_law_good" s_law_good ∧
    DA K "_law_bad" s_law_bad ∧
    DA K "_law_lines" s_law_lines ∧
    DA K "_law_read" s_law_read ∧
    DA K "_law_alone" s_law_alone ∧
    DA K "_law_right" s_law_right ∧
    DA K "law" s_law)
    (z0 : PySem.W.nsIn K mainGlobals "len" = some none)
    (z1 : PySem.W.nsIn K mainGlobals "range" = some none)
    (z2 : PySem.W.nsIn K mainGlobals "int" = some none)
    (z3 : PySem.W.nsIn K mainGlobals "bool" = some none)
    (z4 : PySem.W.nsIn K mainGlobals "tuple" = some none)
    (z5 : PySem.W.nsIn K mainGlobals "list" = some none)
    (z6 : PySem.W.nsIn K mainGlobals "isinstance" = some none)
    (z7 : PySem.W.nsIn K mainGlobals "all" = some none)
    (z8 : PySem.W.nsIn K mainGlobals "enumerate" = some none)
    (gc0 : PySem.W.nsIn K mainGlobals "LETTERS" = some (some (.str "abcdefghijklmnopqrstuvwxyz" tk0)))
    (gc1 : PySem.W.nsIn K mainGlobals "FIGURES" = some (some (.str "0123456789" tk1)))
    (gc2 : PySem.W.nsIn K mainGlobals "MOST_SIGNS" = some (some (.int 8 tk2)))
    (gc3 : PySem.W.nsIn K mainGlobals "MOST_FIGURES" = some (some (.int 60 tk3)))
    (gc4 : PySem.W.nsIn K mainGlobals "MOST_TERMS" = some (some (.int 6 tk4)))
    (gc5 : PySem.W.nsIn K mainGlobals "MOST_PAIRS" = some (some (.int 6 tk5)))
    (x_BundleError : PySem.W.nsIn K mainGlobals "BundleError" = some (some (.ref c_BundleError)))
    (x_NoRow : PySem.W.nsIn K mainGlobals "NoRow" = some (some (.ref c_NoRow)))
    (x_Twice : PySem.W.nsIn K mainGlobals "Twice" = some (some (.ref c_Twice)))
    (x_NoPart : PySem.W.nsIn K mainGlobals "NoPart" = some (some (.ref c_NoPart)))
    (x_NoName : PySem.W.nsIn K mainGlobals "NoName" = some (some (.ref c_NoName)))
    (k_BundleError_cl : PySem.W.clsIn K c_BundleError = some cd_c_BundleError)
    (k_BundleError_ty : PySem.W.typeIn K (.ref c_BundleError) = some (.type "type"))
    (k_BundleError_base : PySem.W.mroIn K c_BundleError (.type "BaseException") = some true)
    (k_BundleError_ga : PySem.W.findIn K (.ref c_BundleError) "__getattribute__" = some (some (.builtin "BaseException.__getattribute__")))
    (k_BundleError_gt : PySem.W.findIn K (.ref c_BundleError) "__getattr__" = some none)
    (k_BundleError_ca : PySem.W.findIn K (.ref c_BundleError) "__class__" = some (some (.builtin "object.__class__")))
    (k_BundleError_gd : PySem.W.specialIn K (.builtin "object.__class__") "__get__" = some (some (.builtin "getset_descriptor.__get__")))
    (k_BundleError_tk : PySem.W.takesIn K (.builtin "object.__class__") = some true)
    (k_BundleError_ob : PySem.W.mroIn K c_BundleError (.type "object") = some true)
    (k_NoRow_cl : PySem.W.clsIn K c_NoRow = some cd_c_NoRow)
    (k_NoRow_ty : PySem.W.typeIn K (.ref c_NoRow) = some (.type "type"))
    (k_NoRow_base : PySem.W.mroIn K c_NoRow (.type "BaseException") = some true)
    (k_NoRow_ga : PySem.W.findIn K (.ref c_NoRow) "__getattribute__" = some (some (.builtin "BaseException.__getattribute__")))
    (k_NoRow_gt : PySem.W.findIn K (.ref c_NoRow) "__getattr__" = some none)
    (k_NoRow_ca : PySem.W.findIn K (.ref c_NoRow) "__class__" = some (some (.builtin "object.__class__")))
    (k_NoRow_gd : PySem.W.specialIn K (.builtin "object.__class__") "__get__" = some (some (.builtin "getset_descriptor.__get__")))
    (k_NoRow_tk : PySem.W.takesIn K (.builtin "object.__class__") = some true)
    (k_NoRow_ob : PySem.W.mroIn K c_NoRow (.type "object") = some true)
    (f_s_NoRow : PySem.W.mroIn K c_NoRow (.ref c_NoRow) = some true)
    (f_s_Base : PySem.W.mroIn K c_NoRow (.ref c_BundleError) = some true)
    (f_i_Twice : PySem.W.kitOne K (.ref c_NoRow) (.ref c_Twice) = some false)
    (f_i_NoPart : PySem.W.kitOne K (.ref c_NoRow) (.ref c_NoPart) = some false)
    (f_i_NoName : PySem.W.kitOne K (.ref c_NoRow) (.ref c_NoName) = some false)
    (i_NoRow_ini : PySem.W.findIn K (.ref c_NoRow) "__init__" = some (some (.ref fi_NoRow)))
    (i_NoRow_l : K.lookup fi_NoRow = some ⟨ioc_NoRow, iod_NoRow, .func (PySem.W.fnOf "__init__" "NoRow.__init__" (defArgs s_NoRow___init__) (defBody s_NoRow___init__) (defScope s_NoRow___init__) .none ikV_NoRow idc_NoRow ipm_NoRow ian_NoRow icd_NoRow ict_NoRow), isl_NoRow⟩)
    (i_NoRow_c : PySem.W.codeIn K icd_NoRow "NoRow.__init__" = true)
    (i_NoRow_k : PySem.W.keepIn K (.ref fi_NoRow) = true)
    (i_NoRow_f : PySem.W.isFn K (.ref fi_NoRow) = true)
    (i_NoRow_kc : PySem.W.keepIn K (.ref c_NoRow) = true)
    (i_NoRow_o : K.lookup c_NoRow = some (excClassObj jnm_NoRow jq_NoRow c_NoRow jN_NoRow jbs_NoRow (.ref c_BundleError :: [.type "ValueError", .type "Exception", .type "BaseException", .type "object"]) jh_NoRow jsn_NoRow jsub_NoRow jab_NoRow jcol_NoRow jdd_NoRow j0_NoRow j1_NoRow j2_NoRow j3_NoRow j5_NoRow "ValueError.__new__"))
    (i_NoRow_e : PySem.W.excIn K c_BundleError [.type "ValueError", .type "Exception", .type "BaseException", .type "object"] "ValueError.__new__" = true)
    (i_NoRow_ov : OverV cd_c_NoRow.mro)
    (i_NoRow_hd : cd_c_NoRow.hasDict = true)
    (i_NoRow_sa : PySem.W.findIn K (.ref c_NoRow) "__setattr__" = some (some (.builtin "object.__setattr__")))
    (i_NoRow_no : PySem.W.findIn K (.ref c_NoRow) "number" = some none)
    (b_BundleError_ga : PySem.W.specialIn K (.ref c_BundleError) "__getattribute__" = some (some (.builtin "type.__getattribute__")))
    (b_BundleError_rd : PySem.W.readsIn K c_BundleError (.type "type") = true)
    (b_BundleError_fc : PySem.W.findCls K (.ref c_BundleError) (.type "type") "__init__" = some (.val (.builtin "ValueError.__init__"))) :
    ∃ fd : FuncData, (∀ (s : Shared) (v : Value), BindsTo s fd ⟨[v], []⟩ [("_law_script", v)]) ∧ ∀ base : Heap, K.In base → base.Ns mainGlobals mg → FnOk l.prog w K mg base CX0 12 fa fd ["_law_script"] (spLaw K) := by
  obtain ⟨d0, d1, d2, d3, d4, d5, d6, d7, d8, d9, d10, d11, d12, d13, d14, d15, d16, d17, d18, d19, d20, d21, d22, d23, f, od, an, sl, oc, kV, dc, pm, cd, ct, a, l, c, k⟩ := hd
  have e := hfa.symm.trans (PySem.W.mg_of X G a)
  cases e
  have T : Txt K mg := ⟨PySem.W.mg_none_of X G z0, PySem.W.mg_none_of X G z1, PySem.W.mg_none_of X G z2, PySem.W.mg_none_of X G z3, PySem.W.mg_none_of X G z4, PySem.W.mg_none_of X G z5, PySem.W.mg_none_of X G z6, PySem.W.mg_none_of X G z7, PySem.W.mg_none_of X G z8, ⟨_, PySem.W.mg_of X G gc0, ⟨_, rfl⟩⟩, ⟨_, PySem.W.mg_of X G gc1, ⟨_, rfl⟩⟩, ⟨_, PySem.W.mg_of X G gc2, ⟨_, rfl⟩⟩, ⟨_, PySem.W.mg_of X G gc3, ⟨_, rfl⟩⟩, ⟨_, PySem.W.mg_of X G gc4, ⟨_, rfl⟩⟩, ⟨_, PySem.W.mg_of X G gc5, ⟨_, rfl⟩⟩, d0.has X G, d1.has X G, d2.has X G, d3.has X G, d4.has X G, d5.has X G, d6.has X G, d7.has X G, d8.has X G, d9.has X G, d10.has X G, d11.has X G, d12.has X G, d13.has X G, d14.has X G, d15.has X G, d16.has X G, d17.has X G, d18.has X G, d19.has X G, d20.has X G, d21.has X G, d22.has X G, d23.has X G, ⟨⟨c_BundleError, c_NoRow, c_Twice, c_NoPart, c_NoName⟩, ⟨PySem.W.mg_of X G x_BundleError, PySem.W.mg_of X G x_NoRow, PySem.W.mg_of X G x_Twice, PySem.W.mg_of X G x_NoPart, PySem.W.mg_of X G x_NoName, ⟨(by rw [k_BundleError_cl]; rfl), k_BundleError_ty, k_BundleError_base, k_BundleError_ga, k_BundleError_gt, k_BundleError_ca, k_BundleError_gd, k_BundleError_tk, k_BundleError_ob⟩, ⟨(by rw [k_NoRow_cl]; rfl), k_NoRow_ty, k_NoRow_base, k_NoRow_ga, k_NoRow_gt, k_NoRow_ca, k_NoRow_gd, k_NoRow_tk, k_NoRow_ob⟩, f_s_NoRow, f_s_Base, f_i_Twice, f_i_NoPart, f_i_NoName, ⟨fi_NoRow, _, fun_mk (st := s_NoRow___init__) i_NoRow_l i_NoRow_c i_NoRow_k, ⟨⟨c_BundleError, jN_NoRow, jnm_NoRow, jq_NoRow, jbs_NoRow, jh_NoRow, jsn_NoRow, jsub_NoRow, jab_NoRow, jcol_NoRow, jdd_NoRow, j0_NoRow, j1_NoRow, j2_NoRow, j3_NoRow, j5_NoRow, i_NoRow_o, i_NoRow_e⟩, i_NoRow_ini, i_NoRow_f⟩, i_NoRow_kc⟩, ⟨⟨cd_c_NoRow, k_NoRow_cl, i_NoRow_ov, i_NoRow_hd⟩, i_NoRow_sa, i_NoRow_no⟩, ⟨b_BundleError_ga, b_BundleError_rd, b_BundleError_fc⟩⟩⟩⟩
  exact ⟨_, fun s v => .of_eq rfl, fun base _ _ => law_fn (fun_mk (st := s_law) l c k) T⟩
theorem walk {l : PySem.W.OpenLaw} {q : Program} {loose : List Str} {XP : (Str → Option Value) → Heap → Prop} {YP : World → Heap → Prop} {d : DefRec} {K : Params → PySem.W.Frag} (hn : l.most = some 63) (hdf : d.params.defaults = [])
    (hY : ∀ (w : World) (h : Heap), YP w h → (K w.params).In h)
    (F : ∀ (w : World) (mg : Str → Option Value) (fa : Addr) (h : Heap), (K w.params).In h → h.Ns mainGlobals mg → mg d.name = some (.ref fa) →
      ∃ fd : FuncData, (∀ (s : Shared) (u : Value), BindsTo s fd ⟨[u], []⟩ [("_law_script", u)]) ∧ ∀ base : Heap, (K w.params).In base → base.Ns mainGlobals mg → FnOk l.prog w (K w.params) mg base CX0 12 fa fd ["_law_script"] (spLaw (K w.params))) :
    PySem.W.WalkO q loose XP YP l.row.toRowW d [] (fun f vs => PySem.call f vs) :=
  L2.walk_of (n := 63) (k := 12) (x := "_law_script") (CX := fun _ => CX0) (sp := fun w => spLaw (K w.params)) hn (by decide) hdf ⟨rfl, by decide, by decide⟩ hY F (fun _ _ a ns hl _ hS => ⟨a, ns, rfl, hS, hl, fun _ => rfl⟩) fun _ _ _ _ _ z => z
end K07
open PySem PySem.W PyProof.Rows
set_option maxRecDepth 100000 in
set_option maxHeartbeats 0 in
theorem PySem.Challenge.cw_bundlehouse_k07_first_bad_row_holds : PySem.Challenge.rw_bundlehouse_k07_first_bad_row.Holds := by
  w_on
  refine HD.head_of (l := PySem.Challenge.rw_bundlehouse_k07_first_bad_row) (q := HD.cutTo PySem.Challenge.rw_bundlehouse_k07_first_bad_row.prog [1, 2, 3, 4, 5, 6, 8, 9, 10, 11, 12, 13, 14, 15, 16, 17, 18, 19, 20, 21, 22, 23, 24, 25, 26, 27, 29, 30, 32, 33, 34, 35, 36, 37, 38, 39, 40]) (K := K07.heapK) (as := K07.heapA) (N := 4524) K07.heapE K07.said K07.top_run (by rfl) (by rfl) (by rfl) (by rfl) (by decide +kernel) ⟨rfl, rfl, rfl, rfl, rfl, by decide +kernel⟩ ?hw ?hc
  (case hw => w_witness2)
  k_fill
  refine K07.walk (l := PySem.Challenge.rw_bundlehouse_k07_first_bad_row) rfl rfl (fun w h Y => PySem.W.kIn_of Y) ?F
  case F =>
    intro w mg fa h KX G hmg
    refine' K07.all_mk KX G hmg ?hd ?z0 ?z1 ?z2 ?z3 ?z4 ?z5 ?z6 ?z7 ?z8 ?gc0 ?gc1 ?gc2 ?gc3 ?gc4 ?gc5 ?x_BundleError ?x_NoRow ?x_Twice ?x_NoPart ?x_NoName ?k_BundleError_cl ?k_BundleError_ty ?k_BundleError_base ?k_BundleError_ga ?k_BundleError_gt ?k_BundleError_ca ?k_BundleError_gd ?k_BundleError_tk ?k_BundleError_ob ?k_NoRow_cl ?k_NoRow_ty ?k_NoRow_base ?k_NoRow_ga ?k_NoRow_gt ?k_NoRow_ca ?k_NoRow_gd ?k_NoRow_tk ?k_NoRow_ob ?f_s_NoRow ?f_s_Base ?f_i_Twice ?f_i_NoPart ?f_i_NoName ?i_NoRow_ini ?i_NoRow_l ?i_NoRow_c ?i_NoRow_k ?i_NoRow_f ?i_NoRow_kc ?i_NoRow_o ?i_NoRow_e ?i_NoRow_ov ?i_NoRow_hd ?i_NoRow_sa ?i_NoRow_no ?b_BundleError_ga ?b_BundleError_rd ?b_BundleError_fc
    case hd =>
      iterate 24 (refine ⟨?_, ?_⟩; focus (apply K07.DA.mk; k_is; k_is; k_is; k_is))
      apply K07.DA.mk; k_is; k_is; k_is; k_is
    (case z0 => k_is); (case z1 => k_is); (case z2 => k_is); (case z3 => k_is); (case z4 => k_is); (case z5 => k_is); (case z6 => k_is); (case z7 => k_is); (case z8 => k_is)
    (case gc0 => k_is); (case gc1 => k_is); (case gc2 => k_is); (case gc3 => k_is); (case gc4 => k_is); (case gc5 => k_is)
    (case x_BundleError => k_is)
    (case x_NoRow => k_is)
    (case x_Twice => k_is)
    (case x_NoPart => k_is)
    (case x_NoName => k_is)
    (case k_BundleError_cl => k_is)
    (case k_BundleError_ty => k_is)
    (case k_BundleError_base => k_is)
    (case k_BundleError_ga => k_is)
    (case k_BundleError_gt => k_is)
    (case k_BundleError_ca => k_is)
    (case k_BundleError_gd => k_is)
    (case k_BundleError_tk => k_is)
    (case k_BundleError_ob => k_is)
    (case k_NoRow_cl => k_is)
    (case k_NoRow_ty => k_is)
    (case k_NoRow_base => k_is)
    (case k_NoRow_ga => k_is)
    (case k_NoRow_gt => k_is)
    (case k_NoRow_ca => k_is)
    (case k_NoRow_gd => k_is)
    (case k_NoRow_tk => k_is)
    (case k_NoRow_ob => k_is)
    (case f_s_NoRow => k_is)
    (case f_s_Base => k_is)
    (case f_i_Twice => kit_is)
    (case f_i_NoPart => kit_is)
    (case f_i_NoName => kit_is)
    (case i_NoRow_ini => k_is)
    (case i_NoRow_l => k_is)
    (case i_NoRow_c => k_is)
    (case i_NoRow_k => k_is)
    (case i_NoRow_f => k_is)
    (case i_NoRow_kc => k_is)
    (case i_NoRow_o => k_is)
    (case i_NoRow_e => k_exc)
    (case i_NoRow_ov => exact .own (.own .base))
    (case i_NoRow_hd => rfl)
    (case i_NoRow_sa => k_is)
    (case i_NoRow_no => k_is)
    (case b_BundleError_ga => k_is)
    (case b_BundleError_rd => k_is)
    (case b_BundleError_fc => k_is)