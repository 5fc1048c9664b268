import PyProof.Rows.All
import Wide.All
import OpenK.AllK
import Wide.FinOn
import Lean
import PyProof.EqAt
import PyProof.EqKinds
import PyProof.TupleCall
import PySem.Challenge.RW_bundlehouse_k04_no_row
set_option Elab.async false
set_option linter.all false
set_option maxRecDepth 100000
namespace HD
open PySem PySem.W
noncomputable abbrev cutTo (p : Program) (ks : List Nat) : Program :=
  { p with main := { p.main with body := ks.filterMap fun i => p.main.body[i]? } }
noncomputable abbrev en (P : Params) (x : Str) (t : Tok) (v : Value) : DictEntry := ⟨PyData.keyHash P x, .str x t, v⟩
noncomputable abbrev tp (p : Program) (i : Nat) : Stmt := p.main.body.getD i (.Pass ⟨0, 0, 0, 0⟩)
noncomputable def inC (s : Stmt) (i : Nat) : Stmt := match s with
  | .ClassDef _ _ _ b _ _ _ _ _ _ _ => b.getD i (.Pass ⟨0, 0, 0, 0⟩)
  | _ => .Pass ⟨0, 0, 0, 0⟩
noncomputable def dA (s : Stmt) : Arguments := match s with
  | .FunctionDef _ a _ _ _ _ _ _ _ _ => a
  | _ => ⟨[], [], none, [], [], none, []⟩
noncomputable def dB (s : Stmt) : List Stmt := match s with
  | .FunctionDef _ _ b _ _ _ _ _ _ _ => b
  | _ => []
noncomputable def dS (s : Stmt) : Scope := match s with
  | .FunctionDef _ _ _ _ _ _ c _ _ _ => c
  | _ => default
theorem left_of {p q : Program} {Xt : Shared → Bool} {α : Type} {Yf : Shared → α} {Ya : World → α} {N : Nat}
    (h1 : ∀ w, ((openEnds treeTable p w N).map fun s => (openSeen q [] (importedModules p.main.body) Xt true s).1) = some (openGood q []).1)
    (h2 : ∀ w, ((openEnds treeTable p w N).map fun s => ((openSeen q [] (importedModules p.main.body) Xt true s).2.1, (openSeen q [] (importedModules p.main.body) Xt true s).2.2.1)) = some ((openGood q []).2.1, (openGood q []).2.2.1))
    (h3 : ∀ w, ((openEnds treeTable p w N).map fun s => (openSeen q [] (importedModules p.main.body) Xt true s).2.2.2) = some (openGood q []).2.2.2)
    (h4 : ∀ w, (openEnds treeTable p w N).map Yf = some (Ya w)) : LeftO p q [] Xt Yf Ya N := by
  intro w
  have a1 := h1 w
  have a2 := h2 w
  have a3 := h3 w
  have a4 := h4 w
  generalize openEnds treeTable p w N = r at a1 a2 a3 a4 ⊢
  cases r with
  | none => cases a4
  | some s =>
    have b1 := Option.some.inj a1
    have b2 := Prod.mk.inj (Option.some.inj a2)
    have b3 := Option.some.inj a3
    have b4 := Option.some.inj a4
    have e : openSeen q [] (importedModules p.main.body) Xt true s = openGood q [] := Prod.ext b1 (Prod.ext b2.1 (Prod.ext b2.2 b3))
    show some (openSeen q [] (importedModules p.main.body) Xt true s, Yf s) = some (openGood q [], Ya w)
    rw [e, b4]
theorem head_of {l : OpenLaw} {q : Program} {K : Params → Frag} {as : List Addr} {N : Nat} {d : DefRec} {kwd : List (Str × Expr)}
    (e : ∀ P, as = (K P).map (·.1)) (said : l.wellSaid = true)
    (hl : LeftO l.row.prog q [] (fun s => xlAt q [] s && recOk (RowW.records l.row.toRowW) s) (kHook K as e).obs (kHook K as e).val N)
    (h1 : defOf q l.row.name = some (d, kwd)) (h2 : l.row.prog.theDef l.row.name = some (d.params, d.body, d.scope))
    (h3 : kwWritten? d.params.kwonlyargs d.params.kw_defaults = some kwd) (h4 : (!l.row.writes || l.row.records.isEmpty) = true)
    (h5 : (chainsOk q && opensWell l.row.prog && (frees l.row.toRowW && l.row.within.isEmpty)) = true)
    (h6 : l.row.prog.bare) (h7 : l.row.toRowW.promised)
    (go : WalkO q [] (XL q []) (kHook K as e).says l.row.toRowW d kwd fun f vs => PySem.call f vs) : l.Holds := by
  refine holds_law said fun sd => ?_
  refine holds_open (XP := XL q []) (YP := (kHook K as e).says) hl (kHook K as e).of (kHook K as e).keeps ?_ XL.keeps h1 h2 h3 ?_ h4 sd h5 h6 h7 go
  · intro s x
    exact xl_of s (Bool.and_eq_true_iff.mp x).1
  · intro s x
    exact recFacts_of (Bool.and_eq_true_iff.mp x).2
end HD
set_option Elab.async false
set_option linter.all false
set_option maxRecDepth 100000
namespace K04
open PySem PySem.W
theorem len1 {α : Type} {us : List α} (h : us.length = 1) : ∃ a, us = [a] := by
  match us, h with
  | [a], _ => exact ⟨a, rfl⟩
theorem len2 {α : Type} {us : List α} (h : us.length = 2) : ∃ a b, us = [a, b] := by
  match us, h with
  | [a, b], _ => exact ⟨a, b, rfl⟩
theorem len3 {α : Type} {us : List α} (h : us.length = 3) : ∃ a b c, us = [a, b, c] := by
  match us, h with
  | [a, b, c], _ => exact ⟨a, b, c, rfl⟩
theorem len4 {α : Type} {us : List α} (h : us.length = 4) : ∃ a b c d, us = [a, b, c, d] := by
  match us, h with
  | [a, b, c, d], _ => exact ⟨a, b, c, d, rfl⟩
set_option maxHeartbeats 0
noncomputable def heapK (P : Params) : PySem.W.Frag :=
  (nat_lit 2, { cls := Value.none, data := Data.dict #[] }) ::
  (nat_lit 3, { cls := Value.type "dict", data := Data.dict #[HD.en P "__name__" 165 (Value.str ("law_bundlehouse_k04_no_row") 535), HD.en P "__doc__" 166 (Value.none), HD.en P "__package__" 167 (Value.none), HD.en P "__loader__" 168 (Value.builtin "__main__.__loader__#opaque"), HD.en P "__spec__" 169 (Value.none), HD.en P "__annotations__" 170 (Value.ref 6), HD.en P "__builtins__" 171 (Value.ref 4), HD.en P "__file__" 173 (Value.str ("/claim/cut.py") 172), HD.en P "__cached__" 174 (Value.none), HD.en P "BundleError" 206 (Value.ref 24), HD.en P "RefusedAt" 233 (Value.ref 44), HD.en P "NoRow" 258 (Value.ref 63), HD.en P "Twice" 274 (Value.ref 75), HD.en P "NoPart" 290 (Value.ref 87), HD.en P "NoName" 306 (Value.ref 99), HD.en P "NotGiven" 322 (Value.ref 111), HD.en P "Endless" 347 (Value.ref 130), HD.en P "Asks" 363 (Value.ref 142), HD.en P "TooMany" 388 (Value.ref 161), HD.en P "NoPlace" 404 (Value.ref 173), HD.en P "NoMap" 420 (Value.ref 185), HD.en P "LETTERS" 424 (Value.str ("abcdefghijklmnopqrstuvwxyz") 423), HD.en P "FIGURES" 426 (Value.str ("0123456789") 425), HD.en P "MOST_SIGNS" 428 (Value.int 8 427), HD.en P "MOST_FIGURES" 430 (Value.int 60 429), HD.en P "MOST_TERMS" 432 (Value.int 6 431), HD.en P "MOST_PAIRS" 434 (Value.int 6 433), HD.en P "read_row" 444 (Value.ref 194), HD.en P "read_bring" 450 (Value.ref 199), HD.en P "read_pair" 457 (Value.ref 206), HD.en P "read_set" 464 (Value.ref 213), HD.en P "read_say" 471 (Value.ref 220), HD.en P "read_ask" 478 (Value.ref 227), HD.en P "has_when" 485 (Value.ref 234), HD.en P "read_sum" 494 (Value.ref 241), HD.en P "read_sign" 501 (Value.ref 248), HD.en P "read_thing" 508 (Value.ref 255), HD.en P "read_only_name" 515 (Value.ref 262), HD.en P "read_name" 522 (Value.ref 269), HD.en P "is_name" 528 (Value.ref 274), HD.en P "is_number" 534 (Value.ref 279), HD.en P "_law_cell_at" 544 (Value.ref 286), HD.en P "_law_name" 556 (Value.ref 293), HD.en P "_law_sum" 568 (Value.ref 300), HD.en P "_law_words" 580 (Value.ref 307), HD.en P "_law_odd" 590 (Value.ref 314), HD.en P "_law_bad_word" 598 (Value.ref 321), HD.en P "_law_spoiled" 610 (Value.ref 328), HD.en P "_law_number" 618 (Value.ref 335), HD.en P "_law_alone" 627 (Value.ref 342), HD.en P "law" 637 (Value.ref 349)] 51 }) ::
  (nat_lit 15, { cls := Value.type "tuple", data := Data.seq #[Value.type "ValueError"] }) ::
  (nat_lit 22, { cls := Value.type "tuple", data := Data.seq #[] }) ::
  (nat_lit 23, { cls := Value.type "dict", data := Data.dict #[HD.en P "__module__" 196 (Value.str ("bundlehouse.errors") 187), HD.en P "__firstlineno__" 200 (Value.int 2 199), HD.en P "__static_attributes__" 201 (Value.ref 22), HD.en P "__weakref__" 203 (Value.ref 25), HD.en P "__doc__" 204 (Value.none)] 3 }) ::
  (nat_lit 24, { cls := Value.type "type", data := Data.cls { name := "BundleError", bases := [Value.type "ValueError"], mro := [Value.ref 24, Value.type "ValueError", Value.type "Exception", Value.type "BaseException", Value.type "object"], ns := 23, qualname := "BundleError", subclasses := [Value.ref 44, Value.ref 63, Value.ref 130, Value.ref 161, Value.ref 173, Value.ref 185] }, slots := #[some (Value.ref 15), none, some (Value.str ("BundleError") 189), some (Value.str ("BundleError") 197), some (Value.builtin "ValueError.__new__"), some (Value.bool true)] }) ::
  (nat_lit 25, { cls := Value.type "getset_descriptor", data := Data.fields #[Value.str ("__weakref__") 202, Value.ref 24, Value.builtin "ExceptionGroup.__weakref__", Value.none] }) ::
  (nat_lit 28, { cls := Value.type "tuple", data := Data.seq #[Value.ref 24] }) ::
  (nat_lit 35, { cls := Value.type "tuple", data := Data.seq #[] }) ::
  (nat_lit 37, { cls := Value.type "tuple", data := Data.seq #[Value.str ("self") 222, Value.str ("part") 223, Value.str ("row") 224] }) ::
  (nat_lit 38, { cls := Value.type "tuple", data := Data.seq #[] }) ::
  (nat_lit 40, { cls := Value.type "code", data := Data.fields #[Value.str ("__init__") 219, Value.str ("RefusedAt.__init__") 220, Value.str ("/claim/cut.py") 221, Value.int 6 0, Value.int 3 0, Value.int 0 0, Value.int 0 0, Value.int 3 0, Value.ref 35, Value.bool true, Value.int 181 0, Value.ref 36, Value.none, Value.ref 37, Value.ref 38, Value.ref 39, Value.int 225 0, Value.int 6 0, Value.str ("/claim/cut.py") 226] }) ::
  (nat_lit 42, { cls := Value.type "tuple", data := Data.seq #[Value.str ("part") 228, Value.str ("row") 229] }) ::
  (nat_lit 43, { cls := Value.type "dict", data := Data.dict #[HD.en P "__module__" 214 (Value.str ("bundlehouse.errors") 187), HD.en P "__firstlineno__" 218 (Value.int 4 217), HD.en P "__init__" 227 (Value.ref 41), HD.en P "__static_attributes__" 230 (Value.ref 42), HD.en P "__doc__" 231 (Value.none)] 2 }) ::
  (nat_lit 44, { cls := Value.type "type", data := Data.cls { name := "RefusedAt", bases := [Value.ref 24], mro := [Value.ref 44, Value.ref 24, Value.type "ValueError", Value.type "Exception", Value.type "BaseException", Value.type "object"], ns := 43, qualname := "RefusedAt", subclasses := [Value.ref 75, Value.ref 87, Value.ref 99, Value.ref 111, Value.ref 142] }, slots := #[some (Value.ref 28), none, some (Value.str ("RefusedAt") 207), some (Value.str ("RefusedAt") 215), some (Value.builtin "ValueError.__new__"), some (Value.bool true)] }) ::
  (nat_lit 47, { cls := Value.type "tuple", data := Data.seq #[Value.ref 24] }) ::
  (nat_lit 54, { cls := Value.type "tuple", data := Data.seq #[] }) ::
  (nat_lit 56, { cls := Value.type "tuple", data := Data.seq #[Value.str ("self") 249, Value.str ("number") 250] }) ::
  (nat_lit 57, { cls := Value.type "tuple", data := Data.seq #[] }) ::
  (nat_lit 59, { cls := Value.type "code", data := Data.fields #[Value.str ("__init__") 246, Value.str ("NoRow.__init__") 247, Value.str ("/claim/cut.py") 248, Value.int 12 0, Value.int 2 0, Value.int 0 0, Value.int 0 0, Value.int 3 0, Value.ref 54, Value.bool true, Value.int 181 0, Value.ref 55, Value.none, Value.ref 56, Value.ref 57, Value.ref 58, Value.int 251 0, Value.int 12 0, Value.str ("/claim/cut.py") 252] }) ::
  (nat_lit 60, ⟨Value.type "function", none, .func (PySem.W.fnOf "__init__" "NoRow.__init__" (HD.dA (HD.inC (HD.tp PySem.Challenge.pw_bundlehouse_k04_no_row 3) 0)) (HD.dB (HD.inC (HD.tp PySem.Challenge.pw_bundlehouse_k04_no_row 3) 0)) (HD.dS (HD.inC (HD.tp PySem.Challenge.pw_bundlehouse_k04_no_row 3) 0)) (Value.none) (Value.none) (Value.none) (Value.str ("bundlehouse.errors") 187) (none) (Value.ref 59) (Value.none)), #[]⟩) ::
  (nat_lit 61, { cls := Value.type "tuple", data := Data.seq #[Value.str ("number") 254] }) ::
  (nat_lit 62, { cls := Value.type "dict", data := Data.dict #[HD.en P "__module__" 241 (Value.str ("bundlehouse.errors") 187), HD.en P "__firstlineno__" 245 (Value.int 10 244), HD.en P "__init__" 253 (Value.ref 60), HD.en P "__static_attributes__" 255 (Value.ref 61), HD.en P "__doc__" 256 (Value.none)] 2 }) ::
  (nat_lit 63, { cls := Value.type "type", data := Data.cls { name := "NoRow", bases := [Value.ref 24], mro := [Value.ref 63, Value.ref 24, Value.type "ValueError", Value.type "Exception", Value.type "BaseException", Value.type "object"], ns := 62, qualname := "NoRow" }, slots := #[some (Value.ref 47), none, some (Value.str ("NoRow") 234), some (Value.str ("NoRow") 242), some (Value.builtin "ValueError.__new__"), some (Value.bool true)] }) ::
  (nat_lit 66, { cls := Value.type "tuple", data := Data.seq #[Value.ref 44] }) ::
  (nat_lit 73, { cls := Value.type "tuple", data := Data.seq #[] }) ::
  (nat_lit 74, { cls := Value.type "dict", data := Data.dict #[HD.en P "__module__" 266 (Value.str ("bundlehouse.errors") 187), HD.en P "__firstlineno__" 270 (Value.int 15 269), HD.en P "__static_attributes__" 271 (Value.ref 73), HD.en P "__doc__" 272 (Value.none)] 2 }) ::
  (nat_lit 75, { cls := Value.type "type", data := Data.cls { name := "Twice", bases := [Value.ref 44], mro := [Value.ref 75, Value.ref 44, Value.ref 24, Value.type "ValueError", Value.type "Exception", Value.type "BaseException", Value.type "object"], ns := 74, qualname := "Twice" }, slots := #[some (Value.ref 66), none, some (Value.str ("Twice") 259), some (Value.str ("Twice") 267), some (Value.builtin "ValueError.__new__"), some (Value.bool true)] }) ::
  (nat_lit 78, { cls := Value.type "tuple", data := Data.seq #[Value.ref 44] }) ::
  (nat_lit 85, { cls := Value.type "tuple", data := Data.seq #[] }) ::
  (nat_lit 86, { cls := Value.type "dict", data := Data.dict #[HD.en P "__module__" 282 (Value.str ("bundlehouse.errors") 187), HD.en P "__firstlineno__" 286 (Value.int 17 285), HD.en P "__static_attributes__" 287 (Value.ref 85), HD.en P "__doc__" 288 (Value.none)] 2 }) ::
  (nat_lit 87, { cls := Value.type "type", data := Data.cls { name := "NoPart", bases := [Value.ref 44], mro := [Value.ref 87, Value.ref 44, Value.ref 24, Value.type "ValueError", Value.type "Exception", Value.type "BaseException", Value.type "object"], ns := 86, qualname := "NoPart" }, slots := #[some (Value.ref 78), none, some (Value.str ("NoPart") 275), some (Value.str ("NoPart") 283), some (Value.builtin "ValueError.__new__"), some (Value.bool true)] }) ::
  (nat_lit 90, { cls := Value.type "tuple", data := Data.seq #[Value.ref 44] }) ::
  (nat_lit 97, { cls := Value.type "tuple", data := Data.seq #[] }) ::
  (nat_lit 98, { cls := Value.type "dict", data := Data.dict #[HD.en P "__module__" 298 (Value.str ("bundlehouse.errors") 187), HD.en P "__firstlineno__" 302 (Value.int 19 301), HD.en P "__static_attributes__" 303 (Value.ref 97), HD.en P "__doc__" 304 (Value.none)] 2 }) ::
  (nat_lit 99, { cls := Value.type "type", data := Data.cls { name := "NoName", bases := [Value.ref 44], mro := [Value.ref 99, Value.ref 44, Value.ref 24, Value.type "ValueError", Value.type "Exception", Value.type "BaseException", Value.type "object"], ns := 98, qualname := "NoName" }, slots := #[some (Value.ref 90), none, some (Value.str ("NoName") 291), some (Value.str ("NoName") 299), some (Value.builtin "ValueError.__new__"), some (Value.bool true)] }) ::
  (nat_lit 102, { cls := Value.type "tuple", data := Data.seq #[Value.ref 44] }) ::
  (nat_lit 109, { cls := Value.type "tuple", data := Data.seq #[] }) ::
  (nat_lit 110, { cls := Value.type "dict", data := Data.dict #[HD.en P "__module__" 314 (Value.str ("bundlehouse.errors") 187), HD.en P "__firstlineno__" 318 (Value.int 21 317), HD.en P "__static_attributes__" 319 (Value.ref 109), HD.en P "__doc__" 320 (Value.none)] 2 }) ::
  (nat_lit 111, { cls := Value.type "type", data := Data.cls { name := "NotGiven", bases := [Value.ref 44], mro := [Value.ref 111, Value.ref 44, Value.ref 24, Value.type "ValueError", Value.type "Exception", Value.type "BaseException", Value.type "object"], ns := 110, qualname := "NotGiven" }, slots := #[some (Value.ref 102), none, some (Value.str ("NotGiven") 307), some (Value.str ("NotGiven") 315), some (Value.builtin "ValueError.__new__"), some (Value.bool true)] }) ::
  (nat_lit 114, { cls := Value.type "tuple", data := Data.seq #[Value.ref 24] }) ::
  (nat_lit 121, { cls := Value.type "tuple", data := Data.seq #[] }) ::
  (nat_lit 123, { cls := Value.type "tuple", data := Data.seq #[Value.str ("self") 338, Value.str ("way") 339] }) ::
  (nat_lit 124, { cls := Value.type "tuple", data := Data.seq #[] }) ::
  (nat_lit 126, { cls := Value.type "code", data := Data.fields #[Value.str ("__init__") 335, Value.str ("Endless.__init__") 336, Value.str ("/claim/cut.py") 337, Value.int 25 0, Value.int 2 0, Value.int 0 0, Value.int 0 0, Value.int 3 0, Value.ref 121, Value.bool true, Value.int 181 0, Value.ref 122, Value.none, Value.ref 123, Value.ref 124, Value.ref 125, Value.int 340 0, Value.int 25 0, Value.str ("/claim/cut.py") 341] }) ::
  (nat_lit 128, { cls := Value.type "tuple", data := Data.seq #[Value.str ("way") 343] }) ::
  (nat_lit 129, { cls := Value.type "dict", data := Data.dict #[HD.en P "__module__" 330 (Value.str ("bundlehouse.errors") 187), HD.en P "__firstlineno__" 334 (Value.int 23 333), HD.en P "__init__" 342 (Value.ref 127), HD.en P "__static_attributes__" 344 (Value.ref 128), HD.en P "__doc__" 345 (Value.none)] 2 }) ::
  (nat_lit 130, { cls := Value.type "type", data := Data.cls { name := "Endless", bases := [Value.ref 24], mro := [Value.ref 130, Value.ref 24, Value.type "ValueError", Value.type "Exception", Value.type "BaseException", Value.type "object"], ns := 129, qualname := "Endless" }, slots := #[some (Value.ref 114), none, some (Value.str ("Endless") 323), some (Value.str ("Endless") 331), some (Value.builtin "ValueError.__new__"), some (Value.bool true)] }) ::
  (nat_lit 133, { cls := Value.type "tuple", data := Data.seq #[Value.ref 44] }) ::
  (nat_lit 140, { cls := Value.type "tuple", data := Data.seq #[] }) ::
  (nat_lit 141, { cls := Value.type "dict", data := Data.dict #[HD.en P "__module__" 355 (Value.str ("bundlehouse.errors") 187), HD.en P "__firstlineno__" 359 (Value.int 28 358), HD.en P "__static_attributes__" 360 (Value.ref 140), HD.en P "__doc__" 361 (Value.none)] 2 }) ::
  (nat_lit 142, { cls := Value.type "type", data := Data.cls { name := "Asks", bases := [Value.ref 44], mro := [Value.ref 142, Value.ref 44, Value.ref 24, Value.type "ValueError", Value.type "Exception", Value.type "BaseException", Value.type "object"], ns := 141, qualname := "Asks" }, slots := #[some (Value.ref 133), none, some (Value.str ("Asks") 348), some (Value.str ("Asks") 356), some (Value.builtin "ValueError.__new__"), some (Value.bool true)] }) ::
  (nat_lit 145, { cls := Value.type "tuple", data := Data.seq #[Value.ref 24] }) ::
  (nat_lit 152, { cls := Value.type "tuple", data := Data.seq #[] }) ::
  (nat_lit 154, { cls := Value.type "tuple", data := Data.seq #[Value.str ("self") 379, Value.str ("parts") 380] }) ::
  (nat_lit 155, { cls := Value.type "tuple", data := Data.seq #[] }) ::
  (nat_lit 157, { cls := Value.type "code", data := Data.fields #[Value.str ("__init__") 376, Value.str ("TooMany.__init__") 377, Value.str ("/claim/cut.py") 378, Value.int 32 0, Value.int 2 0, Value.int 0 0, Value.int 0 0, Value.int 3 0, Value.ref 152, Value.bool true, Value.int 181 0, Value.ref 153, Value.none, Value.ref 154, Value.ref 155, Value.ref 156, Value.int 381 0, Value.int 32 0, Value.str ("/claim/cut.py") 382] }) ::
  (nat_lit 159, { cls := Value.type "tuple", data := Data.seq #[Value.str ("parts") 384] }) ::
  (nat_lit 160, { cls := Value.type "dict", data := Data.dict #[HD.en P "__module__" 371 (Value.str ("bundlehouse.errors") 187), HD.en P "__firstlineno__" 375 (Value.int 30 374), HD.en P "__init__" 383 (Value.ref 158), HD.en P "__static_attributes__" 385 (Value.ref 159), HD.en P "__doc__" 386 (Value.none)] 2 }) ::
  (nat_lit 161, { cls := Value.type "type", data := Data.cls { name := "TooMany", bases := [Value.ref 24], mro := [Value.ref 161, Value.ref 24, Value.type "ValueError", Value.type "Exception", Value.type "BaseException", Value.type "object"], ns := 160, qualname := "TooMany" }, slots := #[some (Value.ref 145), none, some (Value.str ("TooMany") 364), some (Value.str ("TooMany") 372), some (Value.builtin "ValueError.__new__"), some (Value.bool true)] }) ::
  (nat_lit 164, { cls := Value.type "tuple", data := Data.seq #[Value.ref 24] }) ::
  (nat_lit 171, { cls := Value.type "tuple", data := Data.seq #[] }) ::
  (nat_lit 172, { cls := Value.type "dict", data := Data.dict #[HD.en P "__module__" 396 (Value.str ("bundlehouse.errors") 187), HD.en P "__firstlineno__" 400 (Value.int 35 399), HD.en P "__static_attributes__" 401 (Value.ref 171), HD.en P "__doc__" 402 (Value.none)] 2 }) ::
  (nat_lit 173, { cls := Value.type "type", data := Data.cls { name := "NoPlace", bases := [Value.ref 24], mro := [Value.ref 173, Value.ref 24, Value.type "ValueError", Value.type "Exception", Value.type "BaseException", Value.type "object"], ns := 172, qualname := "NoPlace" }, slots := #[some (Value.ref 164), none, some (Value.str ("NoPlace") 389), some (Value.str ("NoPlace") 397), some (Value.builtin "ValueError.__new__"), some (Value.bool true)] }) ::
  (nat_lit 176, { cls := Value.type "tuple", data := Data.seq #[Value.ref 24] }) ::
  (nat_lit 183, { cls := Value.type "tuple", data := Data.seq #[] }) ::
  (nat_lit 184, { cls := Value.type "dict", data := Data.dict #[HD.en P "__module__" 412 (Value.str ("bundlehouse.errors") 187), HD.en P "__firstlineno__" 416 (Value.int 37 415), HD.en P "__static_attributes__" 417 (Value.ref 183), HD.en P "__doc__" 418 (Value.none)] 2 }) ::
  (nat_lit 185, { cls := Value.type "type", data := Data.cls { name := "NoMap", bases := [Value.ref 24], mro := [Value.ref 185, Value.ref 24, Value.type "ValueError", Value.type "Exception", Value.type "BaseException", Value.type "object"], ns := 184, qualname := "NoMap" }, slots := #[some (Value.ref 176), none, some (Value.str ("NoMap") 405), some (Value.str ("NoMap") 413), some (Value.builtin "ValueError.__new__"), some (Value.bool true)] }) ::
  (nat_lit 188, { cls := Value.type "tuple", data := Data.seq #[] }) ::
  (nat_lit 190, { cls := Value.type "tuple", data := Data.seq #[Value.str ("text") 438, Value.str ("words") 439, Value.str ("kind") 440, Value.str ("rest") 441] }) ::
  (nat_lit 191, { cls := Value.type "tuple", data := Data.seq #[] }) ::
  (nat_lit 193, { cls := Value.type "code", data := Data.fields #[Value.str ("read_row") 435, Value.str ("read_row") 436, Value.str ("/claim/cut.py") 437, Value.int 46 0, Value.int 1 0, Value.int 0 0, Value.int 0 0, Value.int 3 0, Value.ref 188, Value.bool true, Value.int 181 0, Value.ref 189, Value.none, Value.ref 190, Value.ref 191, Value.ref 192, Value.int 442 0, Value.int 46 0, Value.str ("/claim/cut.py") 443] }) ::
  (nat_lit 194, ⟨Value.type "function", none, .func (PySem.W.fnOf "read_row" "read_row" (HD.dA (HD.tp PySem.Challenge.pw_bundlehouse_k04_no_row 20)) (HD.dB (HD.tp PySem.Challenge.pw_bundlehouse_k04_no_row 20)) (HD.dS (HD.tp PySem.Challenge.pw_bundlehouse_k04_no_row 20)) (Value.none) (Value.none) (Value.none) (Value.str ("bundlehouse.rows") 421) (none) (Value.ref 193) (Value.none)), #[]⟩) ::
  (nat_lit 195, { cls := Value.type "tuple", data := Data.seq #[] }) ::
  (nat_lit 198, { cls := Value.type "code", data := Data.fields #[Value.str ("read_bring") 445, Value.str ("read_bring") 446, Value.str ("/claim/cut.py") 447, Value.int 65 0, Value.int 1 0, Value.int 0 0, Value.int 0 0, Value.int 3 0, Value.ref 195, Value.bool true, Value.int 181 0, Value.ref 196, Value.none, Value.none, Value.none, Value.ref 197, Value.int 448 0, Value.int 65 0, Value.str ("/claim/cut.py") 449] }) ::
  (nat_lit 199, ⟨Value.type "function", none, .func (PySem.W.fnOf "read_bring" "read_bring" (HD.dA (HD.tp PySem.Challenge.pw_bundlehouse_k04_no_row 21)) (HD.dB (HD.tp PySem.Challenge.pw_bundlehouse_k04_no_row 21)) (HD.dS (HD.tp PySem.Challenge.pw_bundlehouse_k04_no_row 21)) (Value.none) (Value.none) (Value.none) (Value.str ("bundlehouse.rows") 421) (none) (Value.ref 198) (Value.none)), #[]⟩) ::
  (nat_lit 200, { cls := Value.type "tuple", data := Data.seq #[] }) ::
  (nat_lit 202, { cls := Value.type "tuple", data := Data.seq #[Value.str ("words") 454] }) ::
  (nat_lit 203, { cls := Value.type "tuple", data := Data.seq #[] }) ::
  (nat_lit 205, { cls := Value.type "code", data := Data.fields #[Value.str ("read_pair") 451, Value.str ("read_pair") 452, Value.str ("/claim/cut.py") 453, Value.int 70 0, Value.int 1 0, Value.int 0 0, Value.int 0 0, Value.int 3 0, Value.ref 200, Value.bool true, Value.int 181 0, Value.ref 201, Value.none, Value.ref 202, Value.ref 203, Value.ref 204, Value.int 455 0, Value.int 70 0, Value.str ("/claim/cut.py") 456] }) ::
  (nat_lit 206, ⟨Value.type "function", none, .func (PySem.W.fnOf "read_pair" "read_pair" (HD.dA (HD.tp PySem.Challenge.pw_bundlehouse_k04_no_row 22)) (HD.dB (HD.tp PySem.Challenge.pw_bundlehouse_k04_no_row 22)) (HD.dS (HD.tp PySem.Challenge.pw_bundlehouse_k04_no_row 22)) (Value.none) (Value.none) (Value.none) (Value.str ("bundlehouse.rows") 421) (none) (Value.ref 205) (Value.none)), #[]⟩) ::
  (nat_lit 207, { cls := Value.type "tuple", data := Data.seq #[] }) ::
  (nat_lit 209, { cls := Value.type "tuple", data := Data.seq #[Value.str ("words") 461] }) ::
  (nat_lit 210, { cls := Value.type "tuple", data := Data.seq #[] }) ::
  (nat_lit 212, { cls := Value.type "code", data := Data.fields #[Value.str ("read_set") 458, Value.str ("read_set") 459, Value.str ("/claim/cut.py") 460, Value.int 74 0, Value.int 1 0, Value.int 0 0, Value.int 0 0, Value.int 3 0, Value.ref 207, Value.bool true, Value.int 181 0, Value.ref 208, Value.none, Value.ref 209, Value.ref 210, Value.ref 211, Value.int 462 0, Value.int 74 0, Value.str ("/claim/cut.py") 463] }) ::
  (nat_lit 213, ⟨Value.type "function", none, .func (PySem.W.fnOf "read_set" "read_set" (HD.dA (HD.tp PySem.Challenge.pw_bundlehouse_k04_no_row 23)) (HD.dB (HD.tp PySem.Challenge.pw_bundlehouse_k04_no_row 23)) (HD.dS (HD.tp PySem.Challenge.pw_bundlehouse_k04_no_row 23)) (Value.none) (Value.none) (Value.none) (Value.str ("bundlehouse.rows") 421) (none) (Value.ref 212) (Value.none)), #[]⟩) ::
  (nat_lit 214, { cls := Value.type "tuple", data := Data.seq #[] }) ::
  (nat_lit 216, { cls := Value.type "tuple", data := Data.seq #[Value.str ("words") 468] }) ::
  (nat_lit 217, { cls := Value.type "tuple", data := Data.seq #[] }) ::
  (nat_lit 219, { cls := Value.type "code", data := Data.fields #[Value.str ("read_say") 465, Value.str ("read_say") 466, Value.str ("/claim/cut.py") 467, Value.int 78 0, Value.int 1 0, Value.int 0 0, Value.int 0 0, Value.int 3 0, Value.ref 214, Value.bool true, Value.int 181 0, Value.ref 215, Value.none, Value.ref 216, Value.ref 217, Value.ref 218, Value.int 469 0, Value.int 78 0, Value.str ("/claim/cut.py") 470] }) ::
  (nat_lit 220, ⟨Value.type "function", none, .func (PySem.W.fnOf "read_say" "read_say" (HD.dA (HD.tp PySem.Challenge.pw_bundlehouse_k04_no_row 24)) (HD.dB (HD.tp PySem.Challenge.pw_bundlehouse_k04_no_row 24)) (HD.dS (HD.tp PySem.Challenge.pw_bundlehouse_k04_no_row 24)) (Value.none) (Value.none) (Value.none) (Value.str ("bundlehouse.rows") 421) (none) (Value.ref 219) (Value.none)), #[]⟩) ::
  (nat_lit 221, { cls := Value.type "tuple", data := Data.seq #[] }) ::
  (nat_lit 223, { cls := Value.type "tuple", data := Data.seq #[Value.str ("words") 475] }) ::
  (nat_lit 224, { cls := Value.type "tuple", data := Data.seq #[] }) ::
  (nat_lit 226, { cls := Value.type "code", data := Data.fields #[Value.str ("read_ask") 472, Value.str ("read_ask") 473, Value.str ("/claim/cut.py") 474, Value.int 82 0, Value.int 1 0, Value.int 0 0, Value.int 0 0, Value.int 3 0, Value.ref 221, Value.bool true, Value.int 181 0, Value.ref 222, Value.none, Value.ref 223, Value.ref 224, Value.ref 225, Value.int 476 0, Value.int 82 0, Value.str ("/claim/cut.py") 477] }) ::
  (nat_lit 227, ⟨Value.type "function", none, .func (PySem.W.fnOf "read_ask" "read_ask" (HD.dA (HD.tp PySem.Challenge.pw_bundlehouse_k04_no_row 25)) (HD.dB (HD.tp PySem.Challenge.pw_bundlehouse_k04_no_row 25)) (HD.dS (HD.tp PySem.Challenge.pw_bundlehouse_k04_no_row 25)) (Value.none) (Value.none) (Value.none) (Value.str ("bundlehouse.rows") 421) (none) (Value.ref 226) (Value.none)), #[]⟩) ::
  (nat_lit 228, { cls := Value.type "tuple", data := Data.seq #[] }) ::
  (nat_lit 230, { cls := Value.type "tuple", data := Data.seq #[Value.str ("words") 482] }) ::
  (nat_lit 231, { cls := Value.type "tuple", data := Data.seq #[] }) ::
  (nat_lit 233, { cls := Value.type "code", data := Data.fields #[Value.str ("has_when") 479, Value.str ("has_when") 480, Value.str ("/claim/cut.py") 481, Value.int 86 0, Value.int 1 0, Value.int 0 0, Value.int 0 0, Value.int 3 0, Value.ref 228, Value.bool true, Value.int 181 0, Value.ref 229, Value.none, Value.ref 230, Value.ref 231, Value.ref 232, Value.int 483 0, Value.int 86 0, Value.str ("/claim/cut.py") 484] }) ::
  (nat_lit 234, ⟨Value.type "function", none, .func (PySem.W.fnOf "has_when" "has_when" (HD.dA (HD.tp PySem.Challenge.pw_bundlehouse_k04_no_row 26)) (HD.dB (HD.tp PySem.Challenge.pw_bundlehouse_k04_no_row 26)) (HD.dS (HD.tp PySem.Challenge.pw_bundlehouse_k04_no_row 26)) (Value.none) (Value.none) (Value.none) (Value.str ("bundlehouse.rows") 421) (none) (Value.ref 233) (Value.none)), #[]⟩) ::
  (nat_lit 235, { cls := Value.type "tuple", data := Data.seq #[] }) ::
  (nat_lit 237, { cls := Value.type "tuple", data := Data.seq #[Value.str ("words") 489, Value.str ("terms") 490, Value.str ("k") 491] }) ::
  (nat_lit 238, { cls := Value.type "tuple", data := Data.seq #[] }) ::
  (nat_lit 240, { cls := Value.type "code", data := Data.fields #[Value.str ("read_sum") 486, Value.str ("read_sum") 487, Value.str ("/claim/cut.py") 488, Value.int 88 0, Value.int 1 0, Value.int 0 0, Value.int 0 0, Value.int 3 0, Value.ref 235, Value.bool true, Value.int 181 0, Value.ref 236, Value.none, Value.ref 237, Value.ref 238, Value.ref 239, Value.int 492 0, Value.int 88 0, Value.str ("/claim/cut.py") 493] }) ::
  (nat_lit 241, ⟨Value.type "function", none, .func (PySem.W.fnOf "read_sum" "read_sum" (HD.dA (HD.tp PySem.Challenge.pw_bundlehouse_k04_no_row 27)) (HD.dB (HD.tp PySem.Challenge.pw_bundlehouse_k04_no_row 27)) (HD.dS (HD.tp PySem.Challenge.pw_bundlehouse_k04_no_row 27)) (Value.none) (Value.none) (Value.none) (Value.str ("bundlehouse.rows") 421) (none) (Value.ref 240) (Value.none)), #[]⟩) ::
  (nat_lit 242, { cls := Value.type "tuple", data := Data.seq #[] }) ::
  (nat_lit 244, { cls := Value.type "tuple", data := Data.seq #[Value.str ("word") 498] }) ::
  (nat_lit 245, { cls := Value.type "tuple", data := Data.seq #[] }) ::
  (nat_lit 247, { cls := Value.type "code", data := Data.fields #[Value.str ("read_sign") 495, Value.str ("read_sign") 496, Value.str ("/claim/cut.py") 497, Value.int 95 0, Value.int 1 0, Value.int 0 0, Value.int 0 0, Value.int 3 0, Value.ref 242, Value.bool true, Value.int 181 0, Value.ref 243, Value.none, Value.ref 244, Value.ref 245, Value.ref 246, Value.int 499 0, Value.int 95 0, Value.str ("/claim/cut.py") 500] }) ::
  (nat_lit 248, ⟨Value.type "function", none, .func (PySem.W.fnOf "read_sign" "read_sign" (HD.dA (HD.tp PySem.Challenge.pw_bundlehouse_k04_no_row 28)) (HD.dB (HD.tp PySem.Challenge.pw_bundlehouse_k04_no_row 28)) (HD.dS (HD.tp PySem.Challenge.pw_bundlehouse_k04_no_row 28)) (Value.none) (Value.none) (Value.none) (Value.str ("bundlehouse.rows") 421) (none) (Value.ref 247) (Value.none)), #[]⟩) ::
  (nat_lit 249, { cls := Value.type "tuple", data := Data.seq #[] }) ::
  (nat_lit 251, { cls := Value.type "tuple", data := Data.seq #[Value.str ("word") 505] }) ::
  (nat_lit 252, { cls := Value.type "tuple", data := Data.seq #[] }) ::
  (nat_lit 254, { cls := Value.type "code", data := Data.fields #[Value.str ("read_thing") 502, Value.str ("read_thing") 503, Value.str ("/claim/cut.py") 504, Value.int 101 0, Value.int 1 0, Value.int 0 0, Value.int 0 0, Value.int 3 0, Value.ref 249, Value.bool true, Value.int 181 0, Value.ref 250, Value.none, Value.ref 251, Value.ref 252, Value.ref 253, Value.int 506 0, Value.int 101 0, Value.str ("/claim/cut.py") 507] }) ::
  (nat_lit 255, ⟨Value.type "function", none, .func (PySem.W.fnOf "read_thing" "read_thing" (HD.dA (HD.tp PySem.Challenge.pw_bundlehouse_k04_no_row 29)) (HD.dB (HD.tp PySem.Challenge.pw_bundlehouse_k04_no_row 29)) (HD.dS (HD.tp PySem.Challenge.pw_bundlehouse_k04_no_row 29)) (Value.none) (Value.none) (Value.none) (Value.str ("bundlehouse.rows") 421) (none) (Value.ref 254) (Value.none)), #[]⟩) ::
  (nat_lit 256, { cls := Value.type "tuple", data := Data.seq #[] }) ::
  (nat_lit 258, { cls := Value.type "tuple", data := Data.seq #[Value.str ("words") 512] }) ::
  (nat_lit 259, { cls := Value.type "tuple", data := Data.seq #[] }) ::
  (nat_lit 261, { cls := Value.type "code", data := Data.fields #[Value.str ("read_only_name") 509, Value.str ("read_only_name") 510, Value.str ("/claim/cut.py") 511, Value.int 105 0, Value.int 1 0, Value.int 0 0, Value.int 0 0, Value.int 3 0, Value.ref 256, Value.bool true, Value.int 181 0, Value.ref 257, Value.none, Value.ref 258, Value.ref 259, Value.ref 260, Value.int 513 0, Value.int 105 0, Value.str ("/claim/cut.py") 514] }) ::
  (nat_lit 262, ⟨Value.type "function", none, .func (PySem.W.fnOf "read_only_name" "read_only_name" (HD.dA (HD.tp PySem.Challenge.pw_bundlehouse_k04_no_row 30)) (HD.dB (HD.tp PySem.Challenge.pw_bundlehouse_k04_no_row 30)) (HD.dS (HD.tp PySem.Challenge.pw_bundlehouse_k04_no_row 30)) (Value.none) (Value.none) (Value.none) (Value.str ("bundlehouse.rows") 421) (none) (Value.ref 261) (Value.none)), #[]⟩) ::
  (nat_lit 263, { cls := Value.type "tuple", data := Data.seq #[] }) ::
  (nat_lit 265, { cls := Value.type "tuple", data := Data.seq #[Value.str ("word") 519] }) ::
  (nat_lit 266, { cls := Value.type "tuple", data := Data.seq #[] }) ::
  (nat_lit 268, { cls := Value.type "code", data := Data.fields #[Value.str ("read_name") 516, Value.str ("read_name") 517, Value.str ("/claim/cut.py") 518, Value.int 109 0, Value.int 1 0, Value.int 0 0, Value.int 0 0, Value.int 3 0, Value.ref 263, Value.bool true, Value.int 181 0, Value.ref 264, Value.none, Value.ref 265, Value.ref 266, Value.ref 267, Value.int 520 0, Value.int 109 0, Value.str ("/claim/cut.py") 521] }) ::
  (nat_lit 269, ⟨Value.type "function", none, .func (PySem.W.fnOf "read_name" "read_name" (HD.dA (HD.tp PySem.Challenge.pw_bundlehouse_k04_no_row 31)) (HD.dB (HD.tp PySem.Challenge.pw_bundlehouse_k04_no_row 31)) (HD.dS (HD.tp PySem.Challenge.pw_bundlehouse_k04_no_row 31)) (Value.none) (Value.none) (Value.none) (Value.str ("bundlehouse.rows") 421) (none) (Value.ref 268) (Value.none)), #[]⟩) ::
  (nat_lit 270, { cls := Value.type "tuple", data := Data.seq #[] }) ::
  (nat_lit 273, { cls := Value.type "code", data := Data.fields #[Value.str ("is_name") 523, Value.str ("is_name") 524, Value.str ("/claim/cut.py") 525, Value.int 113 0, Value.int 1 0, Value.int 0 0, Value.int 0 0, Value.int 3 0, Value.ref 270, Value.bool true, Value.int 181 0, Value.ref 271, Value.none, Value.none, Value.none, Value.ref 272, Value.int 526 0, Value.int 113 0, Value.str ("/claim/cut.py") 527] }) ::
  (nat_lit 274, ⟨Value.type "function", none, .func (PySem.W.fnOf "is_name" "is_name" (HD.dA (HD.tp PySem.Challenge.pw_bundlehouse_k04_no_row 32)) (HD.dB (HD.tp PySem.Challenge.pw_bundlehouse_k04_no_row 32)) (HD.dS (HD.tp PySem.Challenge.pw_bundlehouse_k04_no_row 32)) (Value.none) (Value.none) (Value.none) (Value.str ("bundlehouse.rows") 421) (none) (Value.ref 273) (Value.none)), #[]⟩) ::
  (nat_lit 275, { cls := Value.type "tuple", data := Data.seq #[] }) ::
  (nat_lit 278, { cls := Value.type "code", data := Data.fields #[Value.str ("is_number") 529, Value.str ("is_number") 530, Value.str ("/claim/cut.py") 531, Value.int 117 0, Value.int 1 0, Value.int 0 0, Value.int 0 0, Value.int 3 0, Value.ref 275, Value.bool true, Value.int 181 0, Value.ref 276, Value.none, Value.none, Value.none, Value.ref 277, Value.int 532 0, Value.int 117 0, Value.str ("/claim/cut.py") 533] }) ::
  (nat_lit 279, ⟨Value.type "function", none, .func (PySem.W.fnOf "is_number" "is_number" (HD.dA (HD.tp PySem.Challenge.pw_bundlehouse_k04_no_row 33)) (HD.dB (HD.tp PySem.Challenge.pw_bundlehouse_k04_no_row 33)) (HD.dS (HD.tp PySem.Challenge.pw_bundlehouse_k04_no_row 33)) (Value.none) (Value.none) (Value.none) (Value.str ("bundlehouse.rows") 421) (none) (Value.ref 278) (Value.none)), #[]⟩) ::
  (nat_lit 280, { cls := Value.type "tuple", data := Data.seq #[] }) ::
  (nat_lit 282, { cls := Value.type "tuple", data := Data.seq #[Value.str ("_law_script") 540, Value.str ("_law_k") 541] }) ::
  (nat_lit 283, { cls := Value.type "tuple", data := Data.seq #[] }) ::
  (nat_lit 285, { cls := Value.type "code", data := Data.fields #[Value.str ("_law_cell_at") 537, Value.str ("_law_cell_at") 538, Value.str ("/claim/cut.py") 539, Value.int 122 0, Value.int 2 0, Value.int 0 0, Value.int 0 0, Value.int 3 0, Value.ref 280, Value.bool true, Value.int 181 0, Value.ref 281, Value.none, Value.ref 282, Value.ref 283, Value.ref 284, Value.int 542 0, Value.int 122 0, Value.str ("/claim/cut.py") 543] }) ::
  (nat_lit 286, ⟨Value.type "function", none, .func (PySem.W.fnOf "_law_cell_at" "_law_cell_at" (HD.dA (HD.tp PySem.Challenge.pw_bundlehouse_k04_no_row 35)) (HD.dB (HD.tp PySem.Challenge.pw_bundlehouse_k04_no_row 35)) (HD.dS (HD.tp PySem.Challenge.pw_bundlehouse_k04_no_row 35)) (Value.none) (Value.none) (Value.none) (Value.str ("law_bundlehouse_k04_no_row") 535) (none) (Value.ref 285) (Value.none)), #[]⟩) ::
  (nat_lit 287, { cls := Value.type "tuple", data := Data.seq #[] }) ::
  (nat_lit 289, { cls := Value.type "tuple", data := Data.seq #[Value.str ("_law_cell") 548, Value.str ("_law_signs") 549, Value.str ("_law_number_here") 550, Value.str ("_law_size") 551, Value.str ("_law_name_here") 552, Value.str ("_law_k") 553] }) ::
  (nat_lit 290, { cls := Value.type "tuple", data := Data.seq #[] }) ::
  (nat_lit 292, { cls := Value.type "code", data := Data.fields #[Value.str ("_law_name") 545, Value.str ("_law_name") 546, Value.str ("/claim/cut.py") 547, Value.int 126 0, Value.int 1 0, Value.int 0 0, Value.int 0 0, Value.int 3 0, Value.ref 287, Value.bool true, Value.int 181 0, Value.ref 288, Value.none, Value.ref 289, Value.ref 290, Value.ref 291, Value.int 554 0, Value.int 126 0, Value.str ("/claim/cut.py") 555] }) ::
  (nat_lit 293, ⟨Value.type "function", none, .func (PySem.W.fnOf "_law_name" "_law_name" (HD.dA (HD.tp PySem.Challenge.pw_bundlehouse_k04_no_row 36)) (HD.dB (HD.tp PySem.Challenge.pw_bundlehouse_k04_no_row 36)) (HD.dS (HD.tp PySem.Challenge.pw_bundlehouse_k04_no_row 36)) (Value.none) (Value.none) (Value.none) (Value.str ("law_bundlehouse_k04_no_row") 535) (none) (Value.ref 292) (Value.none)), #[]⟩) ::
  (nat_lit 294, { cls := Value.type "tuple", data := Data.seq #[] }) ::
  (nat_lit 296, { cls := Value.type "tuple", data := Data.seq #[Value.str ("_law_script") 560, Value.str ("_law_at") 561, Value.str ("_law_many") 562, Value.str ("_law_words_here") 563, Value.str ("_law_k") 564, Value.str ("_law_cell") 565] }) ::
  (nat_lit 297, { cls := Value.type "tuple", data := Data.seq #[] }) ::
  (nat_lit 299, { cls := Value.type "code", data := Data.fields #[Value.str ("_law_sum") 557, Value.str ("_law_sum") 558, Value.str ("/claim/cut.py") 559, Value.int 139 0, Value.int 3 0, Value.int 0 0, Value.int 0 0, Value.int 3 0, Value.ref 294, Value.bool true, Value.int 181 0, Value.ref 295, Value.none, Value.ref 296, Value.ref 297, Value.ref 298, Value.int 566 0, Value.int 139 0, Value.str ("/claim/cut.py") 567] }) ::
  (nat_lit 300, ⟨Value.type "function", none, .func (PySem.W.fnOf "_law_sum" "_law_sum" (HD.dA (HD.tp PySem.Challenge.pw_bundlehouse_k04_no_row 37)) (HD.dB (HD.tp PySem.Challenge.pw_bundlehouse_k04_no_row 37)) (HD.dS (HD.tp PySem.Challenge.pw_bundlehouse_k04_no_row 37)) (Value.none) (Value.none) (Value.none) (Value.str ("law_bundlehouse_k04_no_row") 535) (none) (Value.ref 299) (Value.none)), #[]⟩) ::
  (nat_lit 301, { cls := Value.type "tuple", data := Data.seq #[] }) ::
  (nat_lit 303, { cls := Value.type "tuple", data := Data.seq #[Value.str ("_law_script") 572, Value.str ("_law_kind") 573, Value.str ("_law_own") 574, Value.str ("_law_part") 575, Value.str ("_law_words_here") 576, Value.str ("_law_behind") 577] }) ::
  (nat_lit 304, { cls := Value.type "tuple", data := Data.seq #[] }) ::
  (nat_lit 306, { cls := Value.type "code", data := Data.fields #[Value.str ("_law_words") 569, Value.str ("_law_words") 570, Value.str ("/claim/cut.py") 571, Value.int 150 0, Value.int 1 0, Value.int 0 0, Value.int 0 0, Value.int 3 0, Value.ref 301, Value.bool true, Value.int 181 0, Value.ref 302, Value.none, Value.ref 303, Value.ref 304, Value.ref 305, Value.int 578 0, Value.int 150 0, Value.str ("/claim/cut.py") 579] }) ::
  (nat_lit 307, ⟨Value.type "function", none, .func (PySem.W.fnOf "_law_words" "_law_words" (HD.dA (HD.tp PySem.Challenge.pw_bundlehouse_k04_no_row 38)) (HD.dB (HD.tp PySem.Challenge.pw_bundlehouse_k04_no_row 38)) (HD.dS (HD.tp PySem.Challenge.pw_bundlehouse_k04_no_row 38)) (Value.none) (Value.none) (Value.none) (Value.str ("law_bundlehouse_k04_no_row") 535) (none) (Value.ref 306) (Value.none)), #[]⟩) ::
  (nat_lit 308, { cls := Value.type "tuple", data := Data.seq #[] }) ::
  (nat_lit 310, { cls := Value.type "tuple", data := Data.seq #[Value.str ("_law_one") 584, Value.str ("_law_other") 585, Value.str ("_law_cell") 586, Value.str ("_law_some") 587] }) ::
  (nat_lit 311, { cls := Value.type "tuple", data := Data.seq #[] }) ::
  (nat_lit 313, { cls := Value.type "code", data := Data.fields #[Value.str ("_law_odd") 581, Value.str ("_law_odd") 582, Value.str ("/claim/cut.py") 583, Value.int 173 0, Value.int 3 0, Value.int 0 0, Value.int 0 0, Value.int 3 0, Value.ref 308, Value.bool true, Value.int 181 0, Value.ref 309, Value.none, Value.ref 310, Value.ref 311, Value.ref 312, Value.int 588 0, Value.int 173 0, Value.str ("/claim/cut.py") 589] }) ::
  (nat_lit 314, ⟨Value.type "function", none, .func (PySem.W.fnOf "_law_odd" "_law_odd" (HD.dA (HD.tp PySem.Challenge.pw_bundlehouse_k04_no_row 39)) (HD.dB (HD.tp PySem.Challenge.pw_bundlehouse_k04_no_row 39)) (HD.dS (HD.tp PySem.Challenge.pw_bundlehouse_k04_no_row 39)) (Value.none) (Value.none) (Value.none) (Value.str ("law_bundlehouse_k04_no_row") 535) (none) (Value.ref 313) (Value.none)), #[]⟩) ::
  (nat_lit 315, { cls := Value.type "tuple", data := Data.seq #[] }) ::
  (nat_lit 317, { cls := Value.type "tuple", data := Data.seq #[Value.str ("_law_cell") 594, Value.str ("_law_some") 595] }) ::
  (nat_lit 318, { cls := Value.type "tuple", data := Data.seq #[] }) ::
  (nat_lit 320, { cls := Value.type "code", data := Data.fields #[Value.str ("_law_bad_word") 591, Value.str ("_law_bad_word") 592, Value.str ("/claim/cut.py") 593, Value.int 182 0, Value.int 1 0, Value.int 0 0, Value.int 0 0, Value.int 3 0, Value.ref 315, Value.bool true, Value.int 181 0, Value.ref 316, Value.none, Value.ref 317, Value.ref 318, Value.ref 319, Value.int 596 0, Value.int 182 0, Value.str ("/claim/cut.py") 597] }) ::
  (nat_lit 321, ⟨Value.type "function", none, .func (PySem.W.fnOf "_law_bad_word" "_law_bad_word" (HD.dA (HD.tp PySem.Challenge.pw_bundlehouse_k04_no_row 40)) (HD.dB (HD.tp PySem.Challenge.pw_bundlehouse_k04_no_row 40)) (HD.dS (HD.tp PySem.Challenge.pw_bundlehouse_k04_no_row 40)) (Value.none) (Value.none) (Value.none) (Value.str ("law_bundlehouse_k04_no_row") 535) (none) (Value.ref 320) (Value.none)), #[]⟩) ::
  (nat_lit 322, { cls := Value.type "tuple", data := Data.seq #[] }) ::
  (nat_lit 324, { cls := Value.type "tuple", data := Data.seq #[Value.str ("_law_words_here") 602, Value.str ("_law_way") 603, Value.str ("_law_cell") 604, Value.str ("_law_script") 605, Value.str ("_law_text") 606, Value.str ("_law_at") 607] }) ::
  (nat_lit 325, { cls := Value.type "tuple", data := Data.seq #[] }) ::
  (nat_lit 327, { cls := Value.type "code", data := Data.fields #[Value.str ("_law_spoiled") 599, Value.str ("_law_spoiled") 600, Value.str ("/claim/cut.py") 601, Value.int 186 0, Value.int 4 0, Value.int 0 0, Value.int 0 0, Value.int 3 0, Value.ref 322, Value.bool true, Value.int 181 0, Value.ref 323, Value.none, Value.ref 324, Value.ref 325, Value.ref 326, Value.int 608 0, Value.int 186 0, Value.str ("/claim/cut.py") 609] }) ::
  (nat_lit 328, ⟨Value.type "function", none, .func (PySem.W.fnOf "_law_spoiled" "_law_spoiled" (HD.dA (HD.tp PySem.Challenge.pw_bundlehouse_k04_no_row 41)) (HD.dB (HD.tp PySem.Challenge.pw_bundlehouse_k04_no_row 41)) (HD.dS (HD.tp PySem.Challenge.pw_bundlehouse_k04_no_row 41)) (Value.none) (Value.none) (Value.none) (Value.str ("law_bundlehouse_k04_no_row") 535) (none) (Value.ref 327) (Value.none)), #[]⟩) ::
  (nat_lit 329, { cls := Value.type "tuple", data := Data.seq #[] }) ::
  (nat_lit 331, { cls := Value.type "tuple", data := Data.seq #[Value.str ("_law_text") 614, Value.str ("e") 615] }) ::
  (nat_lit 332, { cls := Value.type "tuple", data := Data.seq #[] }) ::
  (nat_lit 334, { cls := Value.type "code", data := Data.fields #[Value.str ("_law_number") 611, Value.str ("_law_number") 612, Value.str ("/claim/cut.py") 613, Value.int 206 0, Value.int 1 0, Value.int 0 0, Value.int 0 0, Value.int 3 0, Value.ref 329, Value.bool true, Value.int 181 0, Value.ref 330, Value.none, Value.ref 331, Value.ref 332, Value.ref 333, Value.int 616 0, Value.int 206 0, Value.str ("/claim/cut.py") 617] }) ::
  (nat_lit 335, ⟨Value.type "function", none, .func (PySem.W.fnOf "_law_number" "_law_number" (HD.dA (HD.tp PySem.Challenge.pw_bundlehouse_k04_no_row 42)) (HD.dB (HD.tp PySem.Challenge.pw_bundlehouse_k04_no_row 42)) (HD.dS (HD.tp PySem.Challenge.pw_bundlehouse_k04_no_row 42)) (Value.none) (Value.none) (Value.none) (Value.str ("law_bundlehouse_k04_no_row") 535) (none) (Value.ref 334) (Value.none)), #[]⟩) ::
  (nat_lit 336, { cls := Value.type "tuple", data := Data.seq #[] }) ::
  (nat_lit 338, { cls := Value.type "tuple", data := Data.seq #[Value.str ("_law_text") 622, Value.str ("e") 623, Value.str ("_law_some") 624] }) ::
  (nat_lit 339, { cls := Value.type "tuple", data := Data.seq #[] }) ::
  (nat_lit 341, { cls := Value.type "code", data := Data.fields #[Value.str ("_law_alone") 619, Value.str ("_law_alone") 620, Value.str ("/claim/cut.py") 621, Value.int 212 0, Value.int 1 0, Value.int 0 0, Value.int 0 0, Value.int 3 0, Value.ref 336, Value.bool true, Value.int 181 0, Value.ref 337, Value.none, Value.ref 338, Value.ref 339, Value.ref 340, Value.int 625 0, Value.int 212 0, Value.str ("/claim/cut.py") 626] }) ::
  (nat_lit 342, ⟨Value.type "function", none, .func (PySem.W.fnOf "_law_alone" "_law_alone" (HD.dA (HD.tp PySem.Challenge.pw_bundlehouse_k04_no_row 43)) (HD.dB (HD.tp PySem.Challenge.pw_bundlehouse_k04_no_row 43)) (HD.dS (HD.tp PySem.Challenge.pw_bundlehouse_k04_no_row 43)) (Value.none) (Value.none) (Value.none) (Value.str ("law_bundlehouse_k04_no_row") 535) (none) (Value.ref 341) (Value.none)), #[]⟩) ::
  (nat_lit 343, { cls := Value.type "tuple", data := Data.seq #[] }) ::
  (nat_lit 345, { cls := Value.type "tuple", data := Data.seq #[Value.str ("_law_script") 631, Value.str ("_law_words_here") 632, Value.str ("_law_text") 633, Value.str ("_law_found") 634] }) ::
  (nat_lit 346, { cls := Value.type "tuple", data := Data.seq #[] }) ::
  (nat_lit 348, { cls := Value.type "code", data := Data.fields #[Value.str ("law") 628, Value.str ("law") 629, Value.str ("/claim/cut.py") 630, Value.int 220 0, Value.int 1 0, Value.int 0 0, Value.int 0 0, Value.int 3 0, Value.ref 343, Value.bool true, Value.int 181 0, Value.ref 344, Value.none, Value.ref 345, Value.ref 346, Value.ref 347, Value.int 635 0, Value.int 220 0, Value.str ("/claim/cut.py") 636] }) ::
  (nat_lit 349, ⟨Value.type "function", none, .func (PySem.W.fnOf "law" "law" (HD.dA (HD.tp PySem.Challenge.pw_bundlehouse_k04_no_row 44)) (HD.dB (HD.tp PySem.Challenge.pw_bundlehouse_k04_no_row 44)) (HD.dS (HD.tp PySem.Challenge.pw_bundlehouse_k04_no_row 44)) (Value.none) (Value.none) (Value.none) (Value.str ("law_bundlehouse_k04_no_row") 535) (none) (Value.ref 348) (Value.none)), #[]⟩) :: []
noncomputable def heapA : List Addr := [nat_lit 2, nat_lit 3, nat_lit 15, nat_lit 22, nat_lit 23, nat_lit 24, nat_lit 25, nat_lit 28, nat_lit 35, nat_lit 37, nat_lit 38, nat_lit 40, nat_lit 42, nat_lit 43, nat_lit 44, nat_lit 47, nat_lit 54, nat_lit 56, nat_lit 57, nat_lit 59, nat_lit 60, nat_lit 61, nat_lit 62, nat_lit 63, nat_lit 66, nat_lit 73, nat_lit 74, nat_lit 75, nat_lit 78, nat_lit 85, nat_lit 86, nat_lit 87, nat_lit 90, nat_lit 97, nat_lit 98, nat_lit 99, nat_lit 102, nat_lit 109, nat_lit 110, nat_lit 111, nat_lit 114, nat_lit 121, nat_lit 123, nat_lit 124, nat_lit 126, nat_lit 128, nat_lit 129, nat_lit 130, nat_lit 133, nat_lit 140, nat_lit 141, nat_lit 142, nat_lit 145, nat_lit 152, nat_lit 154, nat_lit 155, nat_lit 157, nat_lit 159, nat_lit 160, nat_lit 161, nat_lit 164, nat_lit 171, nat_lit 172, nat_lit 173, nat_lit 176, nat_lit 183, nat_lit 184, nat_lit 185, nat_lit 188, nat_lit 190, nat_lit 191, nat_lit 193, nat_lit 194, nat_lit 195, nat_lit 198, nat_lit 199, nat_lit 200, nat_lit 202, nat_lit 203, nat_lit 205, nat_lit 206, nat_lit 207, nat_lit 209, nat_lit 210, nat_lit 212, nat_lit 213, nat_lit 214, nat_lit 216, nat_lit 217, nat_lit 219, nat_lit 220, nat_lit 221, nat_lit 223, nat_lit 224, nat_lit 226, nat_lit 227, nat_lit 228, nat_lit 230, nat_lit 231, nat_lit 233, nat_lit 234, nat_lit 235, nat_lit 237, nat_lit 238, nat_lit 240, nat_lit 241, nat_lit 242, nat_lit 244, nat_lit 245, nat_lit 247, nat_lit 248, nat_lit 249, nat_lit 251, nat_lit 252, nat_lit 254, nat_lit 255, nat_lit 256, nat_lit 258, nat_lit 259, nat_lit 261, nat_lit 262, nat_lit 263, nat_lit 265, nat_lit 266, nat_lit 268, nat_lit 269, nat_lit 270, nat_lit 273, nat_lit 274, nat_lit 275, nat_lit 278, nat_lit 279, nat_lit 280, nat_lit 282, nat_lit 283, nat_lit 285, nat_lit 286, nat_lit 287, nat_lit 289, nat_lit 290, nat_lit 292, nat_lit 293, nat_lit 294, nat_lit 296, nat_lit 297, nat_lit 299, nat_lit 300, nat_lit 301, nat_lit 303, nat_lit 304, nat_lit 306, nat_lit 307, nat_lit 308, nat_lit 310, nat_lit 311, nat_lit 313, nat_lit 314, nat_lit 315, nat_lit 317, nat_lit 318, nat_lit 320, nat_lit 321, nat_lit 322, nat_lit 324, nat_lit 325, nat_lit 327, nat_lit 328, nat_lit 329, nat_lit 331, nat_lit 332, nat_lit 334, nat_lit 335, nat_lit 336, nat_lit 338, nat_lit 339, nat_lit 341, nat_lit 342, nat_lit 343, nat_lit 345, nat_lit 346, nat_lit 348, nat_lit 349]
theorem heapE : ∀ P, heapA = (heapK P).map (·.1) := fun _ => by kernel_rfl
theorem said : PySem.Challenge.rw_bundlehouse_k04_no_row.wellSaid = true := by kernel_rfl
theorem run1 : ∀ w, ((openEnds treeTable PySem.Challenge.rw_bundlehouse_k04_no_row.row.prog w 7192).map fun s => (openSeen (HD.cutTo PySem.Challenge.rw_bundlehouse_k04_no_row.prog [1, 2, 3, 4, 5, 6, 7, 8, 9, 10, 11, 12, 14, 15, 16, 17, 18, 19, 20, 21, 22, 23, 24, 25, 26, 27, 28, 29, 30, 31, 32, 33, 35, 36, 37, 38, 39, 40, 41, 42, 43, 44]) [] (importedModules PySem.Challenge.rw_bundlehouse_k04_no_row.row.prog.main.body) (fun s => xlAt (HD.cutTo PySem.Challenge.rw_bundlehouse_k04_no_row.prog [1, 2, 3, 4, 5, 6, 7, 8, 9, 10, 11, 12, 14, 15, 16, 17, 18, 19, 20, 21, 22, 23, 24, 25, 26, 27, 28, 29, 30, 31, 32, 33, 35, 36, 37, 38, 39, 40, 41, 42, 43, 44]) [] s && recOk (RowW.records PySem.Challenge.rw_bundlehouse_k04_no_row.row.toRowW) s) true s).1) = some (openGood (HD.cutTo PySem.Challenge.rw_bundlehouse_k04_no_row.prog [1, 2, 3, 4, 5, 6, 7, 8, 9, 10, 11, 12, 14, 15, 16, 17, 18, 19, 20, 21, 22, 23, 24, 25, 26, 27, 28, 29, 30, 31, 32, 33, 35, 36, 37, 38, 39, 40, 41, 42, 43, 44]) []).1 := fun w => by kernel_rfl
theorem run2 : ∀ w, ((openEnds treeTable PySem.Challenge.rw_bundlehouse_k04_no_row.row.prog w 7192).map fun s => ((openSeen (HD.cutTo PySem.Challenge.rw_bundlehouse_k04_no_row.prog [1, 2, 3, 4, 5, 6, 7, 8, 9, 10, 11, 12, 14, 15, 16, 17, 18, 19, 20, 21, 22, 23, 24, 25, 26, 27, 28, 29, 30, 31, 32, 33, 35, 36, 37, 38, 39, 40, 41, 42, 43, 44]) [] (importedModules PySem.Challenge.rw_bundlehouse_k04_no_row.row.prog.main.body) (fun s => xlAt (HD.cutTo PySem.Challenge.rw_bundlehouse_k04_no_row.prog [1, 2, 3, 4, 5, 6, 7, 8, 9, 10, 11, 12, 14, 15, 16, 17, 18, 19, 20, 21, 22, 23, 24, 25, 26, 27, 28, 29, 30, 31, 32, 33, 35, 36, 37, 38, 39, 40, 41, 42, 43, 44]) [] s && recOk (RowW.records PySem.Challenge.rw_bundlehouse_k04_no_row.row.toRowW) s) true s).2.1, (openSeen (HD.cutTo PySem.Challenge.rw_bundlehouse_k04_no_row.prog [1, 2, 3, 4, 5, 6, 7, 8, 9, 10, 11, 12, 14, 15, 16, 17, 18, 19, 20, 21, 22, 23, 24, 25, 26, 27, 28, 29, 30, 31, 32, 33, 35, 36, 37, 38, 39, 40, 41, 42, 43, 44]) [] (importedModules PySem.Challenge.rw_bundlehouse_k04_no_row.row.prog.main.body) (fun s => xlAt (HD.cutTo PySem.Challenge.rw_bundlehouse_k04_no_row.prog [1, 2, 3, 4, 5, 6, 7, 8, 9, 10, 11, 12, 14, 15, 16, 17, 18, 19, 20, 21, 22, 23, 24, 25, 26, 27, 28, 29, 30, 31, 32, 33, 35, 36, 37, 38, 39, 40, 41, 42, 43, 44]) [] s && recOk (RowW.records PySem.Challenge.rw_bundlehouse_k04_no_row.row.toRowW) s) true s).2.2.1)) = some ((openGood (HD.cutTo PySem.Challenge.rw_bundlehouse_k04_no_row.prog [1, 2, 3, 4, 5, 6, 7, 8, 9, 10, 11, 12, 14, 15, 16, 17, 18, 19, 20, 21, 22, 23, 24, 25, 26, 27, 28, 29, 30, 31, 32, 33, 35, 36, 37, 38, 39, 40, 41, 42, 43, 44]) []).2.1, (openGood (HD.cutTo PySem.Challenge.rw_bundlehouse_k04_no_row.prog [1, 2, 3, 4, 5, 6, 7, 8, 9, 10, 11, 12, 14, 15, 16, 17, 18, 19, 20, 21, 22, 23, 24, 25, 26, 27, 28, 29, 30, 31, 32, 33, 35, 36, 37, 38, 39, 40, 41, 42, 43, 44]) []).2.2.1) := fun w => by kernel_rfl
theorem run3 : ∀ w, ((openEnds treeTable PySem.Challenge.rw_bundlehouse_k04_no_row.row.prog w 7192).map fun s => (openSeen (HD.cutTo PySem.Challenge.rw_bundlehouse_k04_no_row.prog [1, 2, 3, 4, 5, 6, 7, 8, 9, 10, 11, 12, 14, 15, 16, 17, 18, 19, 20, 21, 22, 23, 24, 25, 26, 27, 28, 29, 30, 31, 32, 33, 35, 36, 37, 38, 39, 40, 41, 42, 43, 44]) [] (importedModules PySem.Challenge.rw_bundlehouse_k04_no_row.row.prog.main.body) (fun s => xlAt (HD.cutTo PySem.Challenge.rw_bundlehouse_k04_no_row.prog [1, 2, 3, 4, 5, 6, 7, 8, 9, 10, 11, 12, 14, 15, 16, 17, 18, 19, 20, 21, 22, 23, 24, 25, 26, 27, 28, 29, 30, 31, 32, 33, 35, 36, 37, 38, 39, 40, 41, 42, 43, 44]) [] s && recOk (RowW.records PySem.Challenge.rw_bundlehouse_k04_no_row.row.toRowW) s) true s).2.2.2) = some (openGood (HD.cutTo PySem.Challenge.rw_bundlehouse_k04_no_row.prog [1, 2, 3, 4, 5, 6, 7, 8, 9, 10, 11, 12, 14, 15, 16, 17, 18, 19, 20, 21, 22, 23, 24, 25, 26, 27, 28, 29, 30, 31, 32, 33, 35, 36, 37, 38, 39, 40, 41, 42, 43, 44]) []).2.2.2 := fun w => by kernel_rfl
theorem run4 : ∀ w, ((openEnds treeTable PySem.Challenge.rw_bundlehouse_k04_no_row.row.prog w 7192).map (kHook heapK heapA heapE).obs) = some ((kHook heapK heapA heapE).val w) := fun w => by kernel_rfl
theorem top_run : LeftO PySem.Challenge.rw_bundlehouse_k04_no_row.row.prog (HD.cutTo PySem.Challenge.rw_bundlehouse_k04_no_row.prog [1, 2, 3, 4, 5, 6, 7, 8, 9, 10, 11, 12, 14, 15, 16, 17, 18, 19, 20, 21, 22, 23, 24, 25, 26, 27, 28, 29, 30, 31, 32, 33, 35, 36, 37, 38, 39, 40, 41, 42, 43, 44]) [] (fun s => xlAt (HD.cutTo PySem.Challenge.rw_bundlehouse_k04_no_row.prog [1, 2, 3, 4, 5, 6, 7, 8, 9, 10, 11, 12, 14, 15, 16, 17, 18, 19, 20, 21, 22, 23, 24, 25, 26, 27, 28, 29, 30, 31, 32, 33, 35, 36, 37, 38, 39, 40, 41, 42, 43, 44]) [] s && recOk (RowW.records PySem.Challenge.rw_bundlehouse_k04_no_row.row.toRowW) s) (kHook heapK heapA heapE).obs (kHook heapK heapA heapE).val 7192 := HD.left_of run1 run2 run3 run4
end K04
set_option Elab.async false
set_option linter.all false
set_option maxRecDepth 100000
namespace L2
open PySem PySem.Spec PyProof.Rows
noncomputable abbrev Key := Sum Int Str
noncomputable def keyIs : Key → Value → Bool
  | .inl k, v => Value.isInt k v
  | .inr x, v => Value.isStrOf x v
noncomputable def keyH (w : World) : Key → Int
  | .inl k => hashInt k
  | .inr x => hashStr w x
theorem keyIs_shape : ∀ {k : Key} {v : Value}, keyIs k v = true → (∃ i t, k = Sum.inl i ∧ v = Value.int i t) ∨ (∃ x t, k = Sum.inr x ∧ v = Value.str x t)
  | .inl i, v, h => by
    obtain ⟨t, e⟩ := Value.isInt_shape (k := i) (v := v) h
    exact .inl ⟨i, t, rfl, e⟩
  | .inr x, v, h => by
    obtain ⟨t, e⟩ := Value.isStrOf_shape (x := x) (v := v) h
    exact .inr ⟨x, t, rfl, e⟩
theorem key_ll (a b : Int) : decide ((Sum.inl a : Key) = Sum.inl b) = (a == b) := by
  by_cases e : a = b
  · subst e; simp
  · have h : ¬ (Sum.inl a : Key) = Sum.inl b := fun q => e (Sum.inl.inj q)
    rw [decide_eq_false h]
    exact (beq_eq_false_iff_ne.mpr e).symm
theorem key_rr (a b : Str) : decide ((Sum.inr a : Key) = Sum.inr b) = decide (a = b) := by
  by_cases e : a = b
  · subst e; simp
  · have h : ¬ (Sum.inr a : Key) = Sum.inr b := fun q => e (Sum.inr.inj q)
    rw [decide_eq_false h, decide_eq_false e]
theorem key_lr (a : Int) (b : Str) : decide ((Sum.inl a : Key) = Sum.inr b) = false := decide_eq_false (fun q => nomatch q)
theorem key_rl (a : Str) (b : Int) : decide ((Sum.inr a : Key) = Sum.inl b) = false := decide_eq_false (fun q => nomatch q)
noncomputable def mixKind (prog : Program) (w : World) : PySem.KeyKind prog w Key where
  is := keyIs
  hash := keyH w
  inj := fun v a b ha hb => by
    rcases keyIs_shape ha with ⟨i, t, rfl, rfl⟩ | ⟨x, t, rfl, rfl⟩
    · rcases keyIs_shape hb with ⟨j, u, rfl, e⟩ | ⟨y, u, rfl, e⟩
      · injection e with e1 _; rw [e1]
      · exact nomatch e
    · rcases keyIs_shape hb with ⟨j, u, rfl, e⟩ | ⟨y, u, rfl, e⟩
      · exact nomatch e
      · injection e with e1 _; rw [e1]
  byValue := fun k v h => by
    rcases keyIs_shape h with ⟨i, t, rfl, rfl⟩ | ⟨x, t, rfl, rfl⟩ <;> rfl
  pyHash := fun hv h => by
    rcases keyIs_shape hv with ⟨i, t, rfl, rfl⟩ | ⟨x, t, rfl, rfl⟩
    · exact wpAny_pyHash_int h
    · exact wpAny_pyHash_str h
  eqBool := fun hu hv h => by
    rcases keyIs_shape hu with ⟨i, t, rfl, rfl⟩ | ⟨x, t, rfl, rfl⟩
    · rcases keyIs_shape hv with ⟨j, u, rfl, rfl⟩ | ⟨y, u, rfl, rfl⟩
      · rw [key_ll] at h; exact wpAny_eqBool_int h
      · rw [key_lr] at h; exact SeqAt.EqAt.int_str i t y u _ _ _ _ h
    · rcases keyIs_shape hv with ⟨j, u, rfl, rfl⟩ | ⟨y, u, rfl, rfl⟩
      · rw [key_rl] at h; exact SeqAt.EqAt.str_int x t j u _ _ _ _ h
      · rw [key_rr] at h; exact wpAny_eqBool_str h
  «strs» := fun k x t v h => by
    rcases keyIs_shape h with ⟨i, u, rfl, e⟩ | ⟨y, u, rfl, e⟩
    · exact nomatch e
    · injection e with e1 _
      subst e1
      cases v <;> rfl
end L2
namespace L2
open PySem PySem.Spec PyProof.Rows
inductive V where
  | non | bl (b : Bool) | int (i : Int) | str (x : Str) | byt (b : Array UInt8) | flt (b : UInt64) | ref (a : Addr) | ty (n : String)
  deriving DecidableEq
noncomputable def RelV : V → Value → Prop
  | .non, u => u = Value.none
  | .bl b, u => u = Value.bool b
  | .int i, u => ∃ t, u = Value.int i t
  | .str x, u => ∃ t, u = Value.str x t
  | .byt b, u => ∃ t, u = Value.bytes b t
  | .flt b, u => ∃ t, u = Value.float b t
  | .ref a, u => u = Value.ref a
  | .ty n, u => u = Value.type n
noncomputable abbrev Vals : List V → List Value → Prop := Paired RelV
theorem Vals.length {xs : List V} {us : List Value} (r : Vals xs us) : xs.length = us.length := Paired.length r
theorem Vals.get : ∀ {xs : List V} {us : List Value} {i : Nat} {x : V}, Vals xs us → xs[i]? = some x → ∃ u, us[i]? = some u ∧ RelV x u
  | _, _, _, _, .nil, e => by simp at e
  | _, _, 0, _, .cons r _, e => by simp at e; subst e; exact ⟨_, rfl, r⟩
  | _, _, i + 1, x, .cons _ t, e => by
    obtain ⟨u, h1, h2⟩ := Vals.get (i := i) (x := x) t (by simpa using e)
    exact ⟨u, by simpa using h1, h2⟩
theorem Vals.append : ∀ {xs ys : List V} {us ws : List Value}, Vals xs us → Vals ys ws → Vals (xs ++ ys) (us ++ ws)
  | _, _, _, _, .nil, s => s
  | _, _, _, _, .cons r t, s => .cons r (Vals.append t s)
theorem Vals.take : ∀ {xs : List V} {us : List Value} (n : Nat), Vals xs us → Vals (xs.take n) (us.take n)
  | _, _, 0, _ => .nil
  | _, _, _ + 1, .nil => .nil
  | _, _, n + 1, .cons r t => .cons r (Vals.take n t)
theorem Vals.drop : ∀ {xs : List V} {us : List Value} (n : Nat), Vals xs us → Vals (xs.drop n) (us.drop n)
  | _, _, 0, r => r
  | _, _, _ + 1, .nil => .nil
  | _, _, n + 1, .cons _ t => Vals.drop n t
noncomputable def RelO : Option V → Option Value → Prop
  | some v, some u => RelV v u
  | none, none => True
  | _, _ => False
noncomputable def KV {κ : Type} : List (κ × V) → List (κ × Value) → Prop := Paired fun (p : κ × V) (q : κ × Value) => p.1 = q.1 ∧ RelV p.2 q.2
noncomputable def kV : Key → V
  | .inl i => .int i
  | .inr x => .str x
inductive HO where
  | lst (xs : List V)
  | tup (xs : List V)
  | dK (kvs : List (Key × V)) | dT (kvs : List (List Key × V))
  | set (S : Int → Bool) (n : Nat)
  | ins (C dx : Addr) (fs : List (Str × V))
  | own (x : Addr)
  | xd (fs : List (Str × V))
  | met (f x : Addr)
  | rng (lo hi : Int)
  | frz (o : Obj) (u : HO)
  | tbl (ps : Array Value)
  | ext (φ : Heap → Prop)
noncomputable abbrev Hp := Addr → Option HO
noncomputable def upd (H : Hp) (a : Addr) (o : HO) : Hp := fun b => if b = a then some o else H b
theorem upd_same {H : Hp} {a : Addr} {o : HO} : upd H a o a = some o := by unfold upd; rw [if_pos rfl]
theorem upd_ne {H : Hp} {a b : Addr} {o : HO} (h : b ≠ a) : upd H a o b = H b := by unfold upd; rw [if_neg h]
theorem ne_of {H : Hp} {a b : Addr} {o u : HO} (h : H a = some o) (h' : H b = some u) (d : o ≠ u) : a ≠ b := by
  intro e; subst e; rw [h] at h'; exact d (Option.some.inj h')
theorem ne_of_none {H : Hp} {a b : Addr} {o : HO} (h : H a = some o) (h' : H b = none) : a ≠ b := by
  intro e; subst e; rw [h] at h'; cases h'
section
variable (P : Program) (w : World)
noncomputable def ObjOk (H : Hp) (h : Heap) (a : Addr) : HO → Prop
  | .lst xs => xs.length ≤ sizeLine ∧ ∃ (its : List Value) (n : Nat), Vals xs its ∧ h.get? a = some { cls := .type "list", data := .seq its.toArray n }
  | .tup xs => xs.length ≤ sizeLine ∧ ∃ its : List Value, Vals xs its ∧ IsTup h a its.toArray
  | .dK kvs => kvs.length ≤ sizeLine ∧ (a == sysModules) = false ∧ ∃ vs, KV kvs vs ∧ h.DictOf (mixKind P w) a vs
  | .dT kvs => kvs.length ≤ sizeLine ∧ (a == sysModules) = false ∧ ∃ xs : List (List Key × Addr × Value),
      Paired (fun (p : List Key × V) (q : List Key × Addr × Value) => p.1 = q.1 ∧ H q.2.1 = some (.tup (p.1.map kV)) ∧ RelV p.2 q.2.2) kvs xs ∧
      ∃ o es ep, h.get? a = some o ∧ o.ExactDict ∧ o.data = .dict es ep ∧ es.toList = xs.map (entryOfKey (tupleKind (mixKind P w))) ∧ (xs.map (·.1)).Nodup
  | .set S n => h.SetOf (intKind P w) a S n
  | .ins C dx fs => H dx = some (.own a) ∧ fs.length ≤ 1000 ∧ dx ≠ a ∧ h.get? a = some (PySem.W.instObj C dx) ∧
      ∃ mA, h.Ns1 dx mA ∧ (∀ f, RelO (fs.lookup f) (mA f)) ∧ PySem.Within mA (fs.map (·.1))
  | .own _ => ∃ o, h.get? a = some o
  | .xd fs => ∃ mA, h.Ns1 a mA ∧ ∀ f, RelO (fs.lookup f) (mA f)
  | .rng lo hi => ∃ t u v, h.get? a = some { cls := .type "range", data := .fields #[.int lo t, .int hi u, .int 1 v] }
  | .frz o u => h.get? a = some o ∧ ObjOk H h a u
  | .tbl ps => h.get? a = some { cls := .none, data := .fields ps }
  | .met f x => h.get? a = some (PySem.W.methodObj (.ref f) (.ref x))
  | .ext φ => φ h ∧ (∃ o, h.get? a = some o) ∧ ∀ h1 h2 : Heap, φ h1 → (∀ o, h1.get? a = some o → h2.get? a = some o) → φ h2
noncomputable def HOk (H : Hp) (h : Heap) : Prop := ∀ a o, H a = some o → ObjOk P w H h a o
end
section
variable {P : Program} {w : World} {H H' : Hp} {h h' : Heap} {a : Addr} {o : HO}
theorem ObjOk.lt (x : ObjOk P w H h a o) : a < h.objs.size := by
  cases o with
  | lst xs => obtain ⟨_, _, _, _, e⟩ := x; exact Heap.lt_size e
  | tup xs => obtain ⟨_, _, _, p⟩ := x; exact p.lt
  | dK kvs => obtain ⟨_, _, _, _, o, _, _, e, _⟩ := x; exact Heap.lt_size e
  | dT kvs => obtain ⟨_, _, _, _, o, _, _, e, _⟩ := x; exact Heap.lt_size e
  | set S n => obtain ⟨o, _, _, _, e, _⟩ := x; exact Heap.lt_size e
  | ins C dx fs => obtain ⟨_, _, _, e, _⟩ := x; exact Heap.lt_size e
  | own y => obtain ⟨_, e⟩ := x; exact Heap.lt_size e
  | xd fs => obtain ⟨_, ⟨_, _, _, e, _⟩, _⟩ := x; exact Heap.lt_size e
  | rng lo hi => obtain ⟨_, _, _, e⟩ := x; exact Heap.lt_size e
  | frz ob u => obtain ⟨e, _⟩ := x; exact Heap.lt_size e
  | tbl ps => exact Heap.lt_size (show h.get? a = some _ from x)
  | met f y => exact Heap.lt_size (show h.get? a = some _ from x)
  | ext φ => obtain ⟨_, ⟨_, e⟩, _⟩ := x; exact Heap.lt_size e
theorem Paired.mapP {α β : Type} {F G : α → β → Prop} : ∀ {l₁ : List α} {l₂ : List β}, Paired F l₁ l₂ → (∀ a b, F a b → G a b) → Paired G l₁ l₂
  | _, _, .nil, _ => .nil
  | _, _, .cons r t, f => .cons (f _ _ r) (Paired.mapP t f)
theorem ObjOk.stay (x : ObjOk P w H h a o) (k : ∀ b u, (b = a ∨ H b = some (.own a)) → h.get? b = some u → h'.get? b = some u)
    (ho : ∀ b, H b = some (.own a) → H' b = some (.own a)) (ht : ∀ b xs, H b = some (.tup xs) → H' b = some (.tup xs)) : ObjOk P w H' h' a o := by
  induction o with
  | lst xs => obtain ⟨z, its, n, r, e⟩ := x; exact ⟨z, its, n, r, k _ _ (.inl rfl) e⟩
  | tup xs => obtain ⟨z, its, r, ob, e, c⟩ := x; exact ⟨z, its, r, ob, k _ _ (.inl rfl) e, c⟩
  | dK kvs => obtain ⟨z, y, vs, r, ob, es, ep, e, c⟩ := x; exact ⟨z, y, vs, r, ob, es, ep, k _ _ (.inl rfl) e, c⟩
  | dT kvs =>
    obtain ⟨z, y, xs, r, ob, es, ep, e, c⟩ := x
    exact ⟨z, y, xs, Paired.mapP r fun p q z => ⟨z.1, ht _ _ z.2.1, z.2.2⟩, ob, es, ep, k _ _ (.inl rfl) e, c⟩
  | set S n => obtain ⟨ob, es, ep, t, e, c⟩ := x; exact ⟨ob, es, ep, t, k _ _ (.inl rfl) e, c⟩
  | ins C dx fs =>
    obtain ⟨d, z, ne, e, mA, ⟨od, es, ep, e2, c⟩, r⟩ := x
    exact ⟨ho _ d, z, ne, k _ _ (.inl rfl) e, mA, ⟨od, es, ep, k _ _ (.inr d) e2, c⟩, r⟩
  | own y => obtain ⟨ob, e⟩ := x; exact ⟨ob, k _ _ (.inl rfl) e⟩
  | xd fs => obtain ⟨mA, ⟨od, es, ep, e, c⟩, r⟩ := x; exact ⟨mA, ⟨od, es, ep, k _ _ (.inl rfl) e, c⟩, r⟩
  | rng lo hi => obtain ⟨t, u, v, e⟩ := x; exact ⟨t, u, v, k _ _ (.inl rfl) e⟩
  | frz ob u ih => obtain ⟨e, q⟩ := x; exact ⟨k _ _ (.inl rfl) e, ih q⟩
  | tbl ps =>
    have e : h.get? a = some { cls := .none, data := .fields ps } := x
    show h'.get? a = some { cls := .none, data := .fields ps }
    exact k a _ (.inl rfl) e
  | met f y =>
    have e : h.get? a = some (PySem.W.methodObj (.ref f) (.ref y)) := x
    show h'.get? a = some (PySem.W.methodObj (.ref f) (.ref y))
    exact k a _ (.inl rfl) e
  | ext φ => obtain ⟨p, ⟨o, e⟩, st⟩ := x; exact ⟨st _ _ p fun o q => k _ _ (.inl rfl) q, ⟨o, k _ _ (.inl rfl) e⟩, st⟩
theorem HOk.lt (x : HOk P w H h) (e : H a = some o) : a < h.objs.size := (x a o e).lt
theorem HOk.fresh (x : HOk P w H h) (e : h.objs.size ≤ a) : H a = none := by
  cases q : H a with
  | none => rfl
  | some u => exact absurd (Nat.lt_of_lt_of_le (x.lt q) e) (Nat.lt_irrefl _)
theorem HOk.kept (x : HOk P w H h) (k : ∀ b u, h.get? b = some u → h'.get? b = some u) : HOk P w H h' := fun a o e =>
  (x a o e).stay (fun b u _ q => k b u q) (fun _ q => q) fun _ _ q => q
theorem HOk.laid (x : HOk P w H h) (k : ∀ b u, h.get? b = some u → h'.get? b = some u) (hp : h.objs.size ≤ a) (new : ObjOk P w (upd H a o) h' a o) : HOk P w (upd H a o) h' := fun b u e => by
  have hn := x.fresh hp
  by_cases hb : b = a
  · subst hb; rw [upd_same] at e; cases e; exact new
  · rw [upd_ne hb] at e
    exact (x b u e).stay (fun c v _ q => k c v q) (fun c q => by rw [upd_ne (ne_of_none q hn)]; exact q) fun c xs q => by rw [upd_ne (ne_of_none q hn)]; exact q
end
noncomputable def Rd (H : Hp) (a : Addr) (u : HO) : Prop := H a = some u ∨ ∃ o, H a = some (.frz o u)
theorem Rd.ok {P : Program} {w : World} {H : Hp} {h : Heap} {a : Addr} {u : HO} (r : Rd H a u) (x : HOk P w H h) : ObjOk P w H h a u := by
  rcases r with r | ⟨o, r⟩
  · exact x a u r
  · obtain ⟨_, q⟩ := x a _ r
    exact q
noncomputable def Mut : Option HO → Prop
  | some (.lst _) => True
  | some (.dK _) => True
  | some (.dT _) => True
  | some (.set _ _) => True
  | some (.ins _ _ _) => True
  | some (.ext _) => True
  | _ => False
section
variable {P : Program} {w : World} {H : Hp} {h h' : Heap} {x e : Addr} {o' : HO}
theorem HOk.write (ok : HOk P w H h) (mu : Mut (H x)) (he : e = x ∨ H e = some (.own x)) (k : ∀ b u, b ≠ e → h.get? b = some u → h'.get? b = some u) (heo : ∃ u, h'.get? e = some u)
    (new : ObjOk P w (upd H x o') h' x o') : HOk P w (upd H x o') h' := fun b u q => by
  have nown : ∀ c y, H c = some (.own y) → c ≠ x := fun c y r z => by subst z; rw [r] at mu; exact mu
  have ntup : ∀ c xs, H c = some (.tup xs) → c ≠ x := fun c xs r z => by subst z; rw [r] at mu; exact mu
  by_cases hb : b = x
  · subst hb; rw [upd_same] at q; cases q; exact new
  · rw [upd_ne hb] at q
    by_cases hbe : b = e
    · have q' : H b = some (.own x) := by
        rcases he with z | z
        · exact absurd (hbe.trans z) hb
        · rw [hbe]; exact z
      rw [q] at q'; cases q'
      obtain ⟨v, hv⟩ := heo
      exact ⟨v, by rw [hbe]; exact hv⟩
    · refine (ok b u q).stay (fun c v hc r => k c v ?_ r) (fun c r => by rw [upd_ne (nown c b r)]; exact r) fun c xs r => by rw [upd_ne (ntup c xs r)]; exact r
      rcases hc with rfl | hc
      · exact hbe
      · rintro rfl
        rcases he with z | z
        · exact nown c b hc z
        · rw [hc] at z; cases z; exact hb rfl
end
structure Un (fs ex : List Addr) (H H' : Hp) (h h' : Heap) : Prop where
  keep : ∀ b o, h.get? b = some o → H b = none → b ∉ fs → b ∉ ex → h'.get? b = some o
  slot : ∀ b o, h.get? b = some o → H b = none → b ∈ fs → b ∉ ex → ∃ sl, h'.get? b = some { o with slots := sl }
  free : ∀ b o, h.get? b = some o → H b = none → b ∉ ex → H' b = none
  there : ∀ b o, h.get? b = some o → b ∉ ex → ∃ o', h'.get? b = some o'
  tups : ∀ b xs, H b = some (.tup xs) → H' b = some (.tup xs)
  frzs : ∀ b o u, H b = some (.frz o u) → H' b = some (.frz o u)
  tbls : ∀ b ps, H b = some (.tbl ps) → ∃ more, H' b = some (.tbl (ps ++ more))
section
variable {fs fs' ex ex' : List Addr} {H H1 H2 : Hp} {h h1 h2 h' : Heap} {a x e : Addr} {o : HO}
theorem Un.any (u : Un fs ex H H1 h h1) {b : Addr} {ob : Obj} (q : h.get? b = some ob) (n : H b = none) (hx : b ∉ ex) : ∃ sl, h1.get? b = some { ob with slots := sl } := by
  by_cases hb : b ∈ fs
  · exact u.slot b ob q n hb hx
  · exact ⟨ob.slots, u.keep b ob q n hb hx⟩
theorem Un.kept (k : ∀ b u, h.get? b = some u → h'.get? b = some u) : Un fs ex H H h h' :=
  ⟨fun b ob q _ _ _ => k b ob q, fun b ob q _ _ _ => ⟨ob.slots, k b ob q⟩, fun _ _ _ n _ => n, fun b ob q _ => ⟨ob, k b ob q⟩, fun _ _ q => q, fun _ _ _ q => q, fun _ ps q => ⟨#[], by rw [q]; simp⟩⟩
theorem Un.refl : Un fs ex H H h h := Un.kept fun _ _ q => q
theorem Un.laid (k : ∀ b u, h.get? b = some u → h'.get? b = some u) (hp : h.objs.size ≤ a) (hn : H a = none) : Un fs ex H (upd H a o) h h' where
  keep := fun b u q _ _ _ => k b u q
  slot := fun b u q _ _ _ => ⟨u.slots, k b u q⟩
  free := fun b u q n _ => by rw [upd_ne (Nat.ne_of_lt (Nat.lt_of_lt_of_le (Heap.lt_size q) hp))]; exact n
  there := fun b u q _ => ⟨u, k b u q⟩
  tups := fun b xs q => by rw [upd_ne (ne_of_none q hn)]; exact q
  frzs := fun b u xs q => by rw [upd_ne (ne_of_none q hn)]; exact q
  tbls := fun b ps q => ⟨#[], by rw [upd_ne (ne_of_none q hn), q]; simp⟩
theorem Un.write (mu : Mut (H x)) (he : e = x ∨ H e = some (.own x)) (k : ∀ b u, b ≠ e → h.get? b = some u → h'.get? b = some u) (heo : ∃ u, h'.get? e = some u) : Un fs ex H (upd H x o) h h' := by
  have hx : ∀ b, H b = none → b ≠ x := fun b n z => by subst z; rw [n] at mu; exact mu
  have hb : ∀ b, H b = none → b ≠ e := fun b n z => by
    subst z
    rcases he with r | r
    · exact hx b n r
    · rw [n] at r; cases r
  have hm : ∀ b u, H b = some u → ¬ Mut (some u) → b ≠ x := fun b u q nm z => by subst z; rw [q] at mu; exact nm mu
  refine ⟨fun b u q n _ _ => k b u (hb b n) q, fun b u q n _ _ => ⟨u.slots, k b u (hb b n) q⟩, fun b u q n _ => by rw [upd_ne (hx b n)]; exact n, fun b u q _ => ?_,
    fun b xs q => by rw [upd_ne (hm b _ q fun z => z)]; exact q, fun b u xs q => by rw [upd_ne (hm b _ q fun z => z)]; exact q, fun b ps q => ⟨#[], by rw [upd_ne (hm b _ q fun z => z), q]; simp⟩⟩
  by_cases hbe : b = e
  · subst hbe; exact heo
  · exact ⟨u, k b u hbe q⟩
end
noncomputable def trk (h : Heap) (H : Hp) : List Addr := (List.range h.objs.size).filter fun a => (H a).isSome
noncomputable def hidT (h : Heap) (H : Hp) : Heap := PySem.W.hideAll h (trk h H)
theorem hidT_size (h : Heap) (H : Hp) : (hidT h H).objs.size = h.objs.size := PySem.W.hideAll_size _ _
theorem hidT_get {h : Heap} {H : Hp} {b : Addr} {o : Obj} (e : h.get? b = some o) (n : H b = none) : (hidT h H).get? b = some o :=
  PySem.W.hideAll_get _ e fun hm => by
    have q : (H b).isSome = true := (List.mem_filter.mp hm).2
    rw [n] at q; simp at q
theorem of_hidT {h : Heap} {H : Hp} {b : Addr} {o : Obj} (e : (hidT h H).get? b = some o) : h.get? b = some o ∧ H b = none := by
  have e' : h.get? b = some o := PySem.W.of_hideAll (trk h H) e
  refine ⟨e', ?_⟩
  cases q : H b with
  | none => rfl
  | some x =>
    have hm : b ∈ trk h H := List.mem_filter.mpr ⟨List.mem_range.mpr (Heap.lt_size e'), by simp [q]⟩
    have z : (hidT h H).get? b = none := PySem.W.hideAll_none (trk h H) hm
    rw [z] at e; cases e
end L2
namespace L2
open PySem PySem.Spec PyProof.Rows
structure Mod (K : PySem.W.Frag) (mg : Str → Option Value) (base : Heap) : Prop where
  kin : K.In base
  glob : base.Ns mainGlobals mg
  blt : ∃ mb, base.Ns builtinsNs mb ∧ ∀ x : Str, x ≠ "__name__" → mb x = bootBuiltins x
  nolimit : base.NoLimit
structure Cx where
  prog : Program
  w : World
  K : PySem.W.Frag
  mg : Str → Option Value
  base : Heap
  A : Around
  N : List Str
  s₀ : Shared
  H₀ : Hp
  env : Env
  outer : List Env
  stack : List Env
  ex : List Addr
  fn : Str → Bool
  calm : Bool
  pn : List (Addr × Obj)
  xe : Value → Shared → Prop
noncomputable def frs (l : List Env) : List Addr := l.filterMap (·.frame)
noncomputable abbrev Cx.fs (X : Cx) : List Addr := frs X.outer
noncomputable def Vis (sc : Scope) (x : Str) : Prop := sc.names.lookup x = some .local ∨ sc.names.lookup x = some .cell ∨ sc.names.lookup x = some .free
noncomputable def Loc (sc : Scope) (x : Str) : Prop := sc.names.lookup x = some .local ∨ sc.names.lookup x = some .cell
noncomputable def Look (env : Env) (h : Heap) (m : Str → Option Value) (x : Str) (u : Value) : Prop :=
  (env.kindOf x = some .local ∧ m x = some u) ∨ ((env.kindOf x = some .cell ∨ env.kindOf x = some .free) ∧ ∃ c, env.cells.lookup x = some c ∧ h.IsCell c (some u))
structure Cx.Ok (X : Cx) : Prop where
  mod : Mod X.K X.mg X.base
  kind : X.env.scope.kind = .function
  glob : X.env.globals = mainGlobals
  blt : X.env.builtins = builtinsNs
  above : X.s₀.heap.objs.size ≤ X.env.locals
  inj : ∀ x y c, X.env.cells.lookup x = some c → X.env.cells.lookup y = some c → x = y
  has : ∀ x, (X.env.kindOf x = some .cell ∨ X.env.kindOf x = some .free) → ∃ c, X.env.cells.lookup x = some c
  cab : ∀ x c, X.fn x = true → X.env.cells.lookup x = some c → X.s₀.heap.objs.size ≤ c
  hd : X.calm = true → X.A.handled = none
  frames : X.A.frames = some X.stack
  stk : X.stack = X.outer ∨ (X.stack = X.env :: X.outer ∧ X.env.frame = some X.env.locals)
  exf : ∀ b ∈ X.ex, b ≠ X.env.locals ∧ ∀ x c, X.env.cells.lookup x = some c → c ≠ b
  bs : ∀ b o, X.base.get? b = some o → X.s₀.heap.get? b = some o ∧ X.H₀ b = none
  bsz : X.base.objs.size ≤ X.s₀.heap.objs.size
  noex : ∀ b o, X.base.get? b = some o → b ∉ X.ex
  exfs : ∀ b ∈ X.ex, b ∉ X.fs
  funs : X.s₀.heap.FunFrames X.base X.outer
  frf : ∀ b ∈ X.fs, X.H₀ b = none
structure Inv (X : Cx) (pins : List (Addr × Obj)) (σ : List (Option V)) (H : Hp) (s : Shared) : Prop where
  ok : X.Ok
  os : s.os = X.s₀.os
  bare : AllBare s.gens
  base : Un X.fs X.ex X.H₀ H X.s₀.heap s.heap
  loc : ∃ m, s.heap.Ns X.env.locals m ∧ ∀ (i : Nat) (x : Str) (v : V), X.N[i]? = some x → σ[i]? = some (some v) → Vis X.env.scope x → ∃ u, RelV v u ∧ Look X.env s.heap m x u
  cell : ∀ x c, X.env.cells.lookup x = some c → ∃ v, s.heap.IsCell c v
  free : H X.env.locals = none
  freeC : ∀ x c, X.env.cells.lookup x = some c → H c = none
  pin : ∀ p ∈ X.pn ++ pins, s.heap.get? p.1 = some p.2 ∧ H p.1 = none ∧ p.1 ≠ X.env.locals ∧ p.1 ∉ X.fs ∧ ∀ v, p.2.data ≠ .cell v
  hok : HOk X.prog X.w H s.heap
  len : σ.length = X.N.length
section
variable {X : Cx} {pins : List (Addr × Obj)} {σ : List (Option V)} {H H' : Hp} {s : Shared} {h' : Heap}
theorem Cx.Ok.nofr (ok : X.Ok) {b : Addr} {o : Obj} (e : X.base.get? b = some o) : b ∉ X.fs := fun hb => by
  have := (ok.funs.mem hb).1
  rw [e] at this; cases this
theorem Inv.bs (I : Inv X pins σ H s) : ∀ b o, X.base.get? b = some o → s.heap.get? b = some o ∧ H b = none := fun b o e =>
  ⟨I.base.keep b o (I.ok.bs b o e).1 (I.ok.bs b o e).2 (I.ok.nofr e) (I.ok.noex b o e), I.base.free b o (I.ok.bs b o e).1 (I.ok.bs b o e).2 (I.ok.noex b o e)⟩
theorem Inv.bk (I : Inv X pins σ H s) : ∀ b o, X.base.get? b = some o → s.heap.get? b = some o := fun b o e => (I.bs b o e).1
theorem Inv.mod (I : Inv X pins σ H s) : Mod X.K X.mg X.base := I.ok.mod
theorem Inv.kIn (I : Inv X pins σ H s) : X.K.In s.heap := I.ok.mod.kin.keeps I.bk
theorem Inv.lt (I : Inv X pins σ H s) : X.env.locals < s.heap.objs.size := let ⟨_, hn, _⟩ := I.loc; hn.lt
theorem Inv.sz (I : Inv X pins σ H s) : X.s₀.heap.objs.size ≤ s.heap.objs.size := Nat.le_trans I.ok.above (Nat.le_of_lt I.lt)
theorem Inv.nofs (I : Inv X pins σ H s) {a : Addr} (h : s.heap.objs.size ≤ a) : a ∉ X.fs := fun hb => by
  obtain ⟨_, o, ho, _⟩ := I.ok.funs.mem hb
  exact absurd (Nat.lt_of_lt_of_le (Heap.lt_size ho) (Nat.le_trans I.sz h)) (Nat.lt_irrefl _)
theorem Inv.cne (I : Inv X pins σ H s) : ∀ x c, X.env.cells.lookup x = some c → c ≠ X.env.locals := fun x c e z => by
  obtain ⟨v, o, ho, hd⟩ := I.cell x c e
  obtain ⟨m, ⟨o', es, ep, ho', hd', _⟩, _⟩ := I.loc
  rw [z, ho'] at ho; cases ho; rw [hd'] at hd; cases hd
theorem Inv.funs (I : Inv X pins σ H s) : s.heap.FunFrames X.base X.outer := by
  have all : ∀ (l : List Env), (∀ b ∈ frs l, b ∈ X.fs) → X.s₀.heap.FunFrames X.base l → s.heap.FunFrames X.base l := by
    intro l
    induction l with
    | nil => intro _ _; trivial
    | cons env r ih =>
      intro hs hl
      obtain ⟨hk, ⟨L, o, hf, hn, ho, hd⟩, hr⟩ := hl
      have hL : L ∈ X.fs := hs L (by unfold frs; rw [List.filterMap_cons, hf]; exact List.mem_cons_self)
      obtain ⟨sl, e⟩ := I.base.slot L o ho (I.ok.frf L hL) hL fun z => I.ok.exfs L z hL
      exact ⟨hk, ⟨L, _, hf, hn, e, hd⟩, ih (fun b hb => hs b (by unfold frs; rw [List.filterMap_cons, hf]; exact List.mem_cons_of_mem _ hb)) hr⟩
  exact all X.outer (fun _ hb => hb) I.ok.funs
theorem Inv.stack (I : Inv X pins σ H s) : s.heap.FunFrames X.base X.stack := by
  rcases I.ok.stk with e | ⟨e, hf⟩
  · rw [e]; exact I.funs
  · rw [e]
    obtain ⟨m, hn, _⟩ := I.loc
    refine .cons (by rw [I.ok.kind]; decide) hf hn ?_ I.funs
    exact Heap.get?_none_of_le (Nat.le_trans I.ok.bsz I.ok.above)
theorem Inv.stkSub (I : Inv X pins σ H s) : ∀ b ∈ frs X.stack, b ∈ X.env.locals :: X.fs := fun b hb => by
  rcases I.ok.stk with e | ⟨e, hf⟩
  · rw [e] at hb; exact List.mem_cons_of_mem _ hb
  · rw [e] at hb
    unfold frs at hb
    rw [List.filterMap_cons, hf] at hb
    exact hb
theorem Inv.stkFree (I : Inv X pins σ H s) : ∀ b ∈ frs X.stack, H b = none := fun b hb => by
  rcases List.mem_cons.mp (I.stkSub b hb) with e | hb
  · rw [e]; exact I.free
  · obtain ⟨_, o, ho, _⟩ := I.ok.funs.mem hb
    exact I.base.free b o ho (I.ok.frf b hb) fun z => I.ok.exfs b z hb
theorem Inv.step {g' : Array GenState} {t' : Nat} {d' : Drawn} {ch : List Addr} (I : Inv X pins σ H s)
    (hch : ∀ b ∈ ch, (b ∈ X.ex ∨ X.s₀.heap.objs.size ≤ b) ∧ b ≠ X.env.locals ∧ (∀ x c, X.env.cells.lookup x = some c → c ≠ b) ∧ ∀ p ∈ X.pn ++ pins, p.1 ≠ b)
    (keep : ∀ b o, b ≠ X.env.locals → b ∉ X.fs → b ∉ ch → s.heap.get? b = some o → H b = none → h'.get? b = some o)
    (slot : ∀ b o, b ≠ X.env.locals → b ∈ X.fs → b ∉ ch → s.heap.get? b = some o → H b = none → ∃ sl, h'.get? b = some { o with slots := sl }) (free : ∀ b o, b ∉ ch → s.heap.get? b = some o → H b = none → H' b = none)
    (there : ∀ b o, b ∉ ch → s.heap.get? b = some o → ∃ o', h'.get? b = some o')
    (tups : ∀ b xs, H b = some (.tup xs) → H' b = some (.tup xs)) (frzs : ∀ b o u, H b = some (.frz o u) → H' b = some (.frz o u)) (tbls : ∀ b ps, H b = some (.tbl ps) → ∃ more, H' b = some (.tbl (ps ++ more)))
    (ns : ∀ m, s.heap.Ns X.env.locals m → h'.Ns X.env.locals m) (hok : HOk X.prog X.w H' h') (hg : AllBare g') :
    Inv X pins σ H' { s with heap := h', gens := g', drawn := d', toks := t' } := by
  have neL : ∀ b o, X.s₀.heap.get? b = some o → b ≠ X.env.locals := fun b o e => Nat.ne_of_lt (Nat.lt_of_lt_of_le (Heap.lt_size e) I.ok.above)
  have neC : ∀ b o, X.s₀.heap.get? b = some o → b ∉ X.ex → b ∉ ch := fun b o e hx hb => by
    rcases (hch b hb).1 with z | z
    · exact hx z
    · exact absurd (Nat.lt_of_lt_of_le (Heap.lt_size e) z) (Nat.lt_irrefl _)
  have cellK : ∀ x c, X.env.cells.lookup x = some c → ∀ v, s.heap.IsCell c v → h'.IsCell c v := fun x c e v ⟨o, ho, hd⟩ => by
    have nch : c ∉ ch := fun z => (hch c z).2.2.1 x c e rfl
    by_cases hc : c ∈ X.fs
    · obtain ⟨sl, q⟩ := slot c o (I.cne x c e) hc nch ho (I.freeC x c e)
      exact ⟨_, q, hd⟩
    · exact ⟨o, keep c o (I.cne x c e) hc nch ho (I.freeC x c e), hd⟩
  refine ⟨I.ok, I.os, hg, ⟨fun b o e n hb hx => ?_, fun b o e n hb hx => ?_, fun b o e n hx => ?_, fun b o e hx => ?_, fun b xs e => tups b xs (I.base.tups b xs e), fun b o xs e => frzs b o xs (I.base.frzs b o xs e), fun b ps e => ?_⟩, ?_, fun x c e => ?_, ?_, fun x c e => ?_, fun p hp => ?_, hok, I.len⟩
  · exact keep b o (neL b o e) hb (neC b o e hx) (I.base.keep b o e n hb hx) (I.base.free b o e n hx)
  · obtain ⟨sl, e1⟩ := I.base.slot b o e n hb hx
    obtain ⟨sl', e2⟩ := slot b _ (neL b o e) hb (neC b o e hx) e1 (I.base.free b o e n hx)
    exact ⟨sl', e2⟩
  · obtain ⟨o', e1⟩ := I.base.there b o e hx
    exact free b o' (neC b o e hx) e1 (I.base.free b o e n hx)
  · obtain ⟨o', e1⟩ := I.base.there b o e hx
    exact there b o' (neC b o e hx) e1
  · obtain ⟨m1, e1⟩ := I.base.tbls b ps e
    obtain ⟨m2, e2⟩ := tbls b _ e1
    exact ⟨m1 ++ m2, by rw [e2, Array.append_assoc]⟩
  · obtain ⟨m, hn, hl⟩ := I.loc
    refine ⟨m, ns m hn, fun i x v e1 e2 e3 => ?_⟩
    obtain ⟨u, r, l⟩ := hl i x v e1 e2 e3
    refine ⟨u, r, ?_⟩
    rcases l with l | ⟨k, c, e, z⟩
    · exact .inl l
    · exact .inr ⟨k, c, e, cellK x c e _ z⟩
  · obtain ⟨v, z⟩ := I.cell x c e
    exact ⟨v, cellK x c e v z⟩
  · obtain ⟨m, ⟨o, _, _, ho, _⟩, _⟩ := I.loc
    exact free _ o (fun z => (hch _ z).2.1 rfl) ho I.free
  · obtain ⟨v, o, ho, hd⟩ := I.cell x c e
    exact free c o (fun z => (hch c z).2.2.1 x c e rfl) ho (I.freeC x c e)
  · obtain ⟨e, n, ne, nf, d⟩ := I.pin p hp
    have nch : p.1 ∉ ch := fun z => (hch p.1 z).2.2.2 p hp rfl
    exact ⟨keep p.1 p.2 ne nf nch e n, free p.1 p.2 nch e n, ne, nf, d⟩
theorem Inv.un {t' : Nat} (I : Inv X pins σ H s) (u : Un X.fs [] H H' s.heap h') (hok : HOk X.prog X.w H' h') : Inv X pins σ H' { s with heap := h', toks := t' } := by
  obtain ⟨m, ⟨o, es, ep, ho, r⟩, _⟩ := id I.loc
  obtain ⟨sl, hL⟩ := u.any ho I.free (by simp)
  exact I.step (g' := s.gens) (d' := s.drawn) (ch := []) (fun _ z => nomatch z) (fun b o _ hb _ e n => u.keep b o e n hb (by simp)) (fun b o _ hb _ e n => u.slot b o e n hb (by simp)) (fun b o _ e n => u.free b o e n (by simp)) (fun b o _ e => u.there b o e (by simp)) u.tups u.frzs u.tbls (fun m' hm => by
    obtain ⟨o', es', ep', ho', r'⟩ := hm
    rw [ho] at ho'; cases ho'
    exact ⟨_, es', ep', hL, r'⟩) hok I.bare
theorem Inv.call {g' : Array GenState} {t' : Nat} {d' : Drawn} {ch : List Addr} (I : Inv X pins σ H s) (u : Un (frs X.stack) ch H H' s.heap h') (hok : HOk X.prog X.w H' h') (hg : AllBare g')
    (hch : ∀ b ∈ ch, (b ∈ X.ex ∨ X.s₀.heap.objs.size ≤ b) ∧ b ≠ X.env.locals ∧ (∀ x c, X.env.cells.lookup x = some c → c ≠ b) ∧ ∀ p ∈ X.pn ++ pins, p.1 ≠ b) :
    Inv X pins σ H' { s with heap := h', gens := g', drawn := d', toks := t' } := by
  obtain ⟨m, ⟨o, es, ep, ho, r⟩, _⟩ := id I.loc
  obtain ⟨sl, hL⟩ := u.any ho I.free fun z => (hch _ z).2.1 rfl
  exact I.step (ch := ch) hch (fun b o hL hb hc e n => u.keep b o e n (fun z => (List.mem_cons.mp (I.stkSub b z)).elim hL hb) hc) (fun b o _ _ hc e n => u.any e n hc) (fun b o hc e n => u.free b o e n hc) (fun b o hc e => u.there b o e hc) u.tups u.frzs u.tbls (fun m' hm => by
    obtain ⟨o', es', ep', ho', r'⟩ := hm
    rw [ho] at ho'; cases ho'
    exact ⟨_, es', ep', hL, r'⟩) hok hg
theorem Inv.turned {t' : Nat} {it : Addr} (I : Inv X pins σ H s) (k : ∀ b o, b ≠ it → s.heap.get? b = some o → h'.get? b = some o) (hn : H it = none) (hL : it ≠ X.env.locals)
    (h1 : it ∈ X.ex ∨ X.s₀.heap.objs.size ≤ it) (h2 : ∀ x c, X.env.cells.lookup x = some c → c ≠ it) (h3 : ∀ p ∈ X.pn ++ pins, p.1 ≠ it) : Inv X pins σ H { s with heap := h', toks := t' } := by
  have nit : ∀ b u, H b = some u → b ≠ it := fun b u e z => by rw [z, hn] at e; cases e
  refine I.step (g' := s.gens) (d' := s.drawn) (ch := [it]) (fun b hb => ?_) (fun b o _ _ hc e _ => k b o (fun z => hc (by simp [z])) e) (fun b o _ _ hc e _ => ⟨o.slots, k b o (fun z => hc (by simp [z])) e⟩) (fun _ _ _ _ n => n)
    (fun b o hc e => ⟨o, k b o (fun z => hc (by simp [z])) e⟩) (fun _ _ e => e) (fun _ _ _ e => e) (fun b ps e => ⟨#[], by rw [e]; simp⟩) (fun m hm => ?_) (fun b u e => ?_) I.bare
  · have e : b = it := by simpa using hb
    subst e
    exact ⟨h1, hL, h2, h3⟩
  · obtain ⟨o, es, ep, ho, r⟩ := hm
    exact ⟨o, es, ep, k _ o (Ne.symm hL) ho, r⟩
  · refine (I.hok b u e).stay (fun c v hc q => k c v ?_ q) (fun _ q => q) fun _ _ q => q
    rcases hc with z | z
    · rw [z]; exact nit b u e
    · exact nit c _ z
theorem Inv.tok (I : Inv X pins σ H s) (t : Nat) : Inv X pins σ H { s with toks := t } := I.un (h' := s.heap) (t' := t) Un.refl I.hok
theorem Inv.kept {t' : Nat} (I : Inv X pins σ H s) (k : ∀ b u, s.heap.get? b = some u → h'.get? b = some u) : Inv X pins σ H { s with heap := h', toks := t' } := I.un (Un.kept k) (I.hok.kept k)
theorem Inv.laid {a : Addr} {o : HO} {t' : Nat} (I : Inv X pins σ H s) (k : ∀ b u, s.heap.get? b = some u → h'.get? b = some u) (hp : s.heap.objs.size ≤ a) (new : ObjOk X.prog X.w (upd H a o) h' a o) :
    Inv X pins σ (upd H a o) { s with heap := h', toks := t' } := I.un (Un.laid k hp (I.hok.fresh hp)) (I.hok.laid k hp new)
theorem Inv.write {x e : Addr} {o : HO} {t' : Nat} (I : Inv X pins σ H s) (mu : Mut (H x)) (he : e = x ∨ H e = some (.own x)) (k : ∀ b u, b ≠ e → s.heap.get? b = some u → h'.get? b = some u) (heo : ∃ u, h'.get? e = some u)
    (new : ObjOk X.prog X.w (upd H x o) h' x o) : Inv X pins σ (upd H x o) { s with heap := h', toks := t' } := I.un (Un.write mu he k heo) (I.hok.write mu he k heo new)
theorem Inv.pins_of {pins' : List (Addr × Obj)} (I : Inv X pins σ H s) (h : ∀ p ∈ pins', s.heap.get? p.1 = some p.2 ∧ H p.1 = none ∧ p.1 ≠ X.env.locals ∧ p.1 ∉ X.fs ∧ ∀ v, p.2.data ≠ .cell v) : Inv X pins' σ H s :=
  ⟨I.ok, I.os, I.bare, I.base, I.loc, I.cell, I.free, I.freeC, fun p hp => (List.mem_append.mp hp).elim (fun z => I.pin p (List.mem_append_left _ z)) (h p), I.hok, I.len⟩
theorem nodup_ix {N : List Str} (hN : N.Nodup) {i j : Nat} {x : Str} (a : N[i]? = some x) (b : N[j]? = some x) : i = j := by
  obtain ⟨h1, e1⟩ := List.getElem?_eq_some_iff.mp a
  obtain ⟨h2, e2⟩ := List.getElem?_eq_some_iff.mp b
  exact (List.getElem_inj hN).mp (e1.trans e2.symm)
theorem store_ok2 {M : Model} {A : Around} {E : Value → Shared → Prop} {i : Nat} {x : Str} {v : V} {u : Value} {Q : Unit → Shared → Prop} (I : Inv X pins σ H s) (hN : X.N.Nodup) (hi : X.N[i]? = some x) (hx : Loc X.env.scope x) (r : RelV v u)
    (h : ∀ s', Inv X pins (σ.set i (some v)) H s' → (∃ a, Heap.SameBut a s.heap s'.heap ∧ (a = X.env.locals ∨ X.env.cells.lookup x = some a)) → Q () s') (hf : X.fn x = true ∨ X.env.scope.names.lookup x = some .local := by first | exact .inl rfl | exact .inr rfl | assumption) : wpAny M A (storeName X.env x u) Q E s := by
  obtain ⟨m, hn, hl⟩ := id I.loc
  have hcls : (X.env.scope.kind == .class || (X.env.scope.kind == .module && X.env.locals != X.env.globals)) = false := by rw [I.ok.kind]; rfl
  have hiσ : i < σ.length := by rw [I.len]; exact (List.getElem?_eq_some_iff.mp hi).1
  have cne := I.cne
  have tracked : ∀ {a : Addr} {h' : Heap}, (∃ o, s.heap.get? a = some o ∧ H a = none) → Heap.SameBut a s.heap h' → HOk X.prog X.w H h' := fun {a h'} ha hs b ob e => by
    obtain ⟨_, _, hfree⟩ := ha
    refine (I.hok b ob e).stay (fun c w' hc q => (hs.2 c ?_).trans q) (fun _ q => q) fun _ _ q => q
    rintro rfl
    rcases hc with rfl | hc
    · rw [hfree] at e; cases e
    · rw [hfree] at hc; cases hc
  rcases hx with hk | hk
  · refine wpAny_storeName_local hk hn (fun h' hn' hs => ?_) hcls
    obtain ⟨oL, _, _, hoL, _⟩ := id hn
    refine h _ ⟨I.ok, I.os, I.bare, ⟨fun b o e n hb hx => ?_, fun b o e n hb hx => ?_, I.base.free, fun b o e hx => ?_, I.base.tups, I.base.frzs, I.base.tbls⟩, ⟨_, hn', fun j y v' e1 e2 e3 => ?_⟩, fun y c e => ?_, I.free, I.freeC, fun p hp => ?_, tracked ⟨oL, hoL, I.free⟩ hs, by simpa using I.len⟩ ⟨_, hs, .inl rfl⟩
    · exact (hs.2 b (Nat.ne_of_lt (Nat.lt_of_lt_of_le (Heap.lt_size e) I.ok.above))).trans (I.base.keep b o e n hb hx)
    · obtain ⟨sl, e1⟩ := I.base.slot b o e n hb hx
      exact ⟨sl, (hs.2 b (Nat.ne_of_lt (Nat.lt_of_lt_of_le (Heap.lt_size e) I.ok.above))).trans e1⟩
    · obtain ⟨o', e1⟩ := I.base.there b o e hx
      exact ⟨o', (hs.2 b (Nat.ne_of_lt (Nat.lt_of_lt_of_le (Heap.lt_size e) I.ok.above))).trans e1⟩
    · by_cases hj : j = i
      · subst hj
        rw [hi] at e1; cases e1
        rw [List.getElem?_set_self hiσ] at e2
        cases e2
        exact ⟨u, r, .inl ⟨hk, by simp⟩⟩
      · rw [List.getElem?_set_ne (Ne.symm hj)] at e2
        obtain ⟨u', r', q⟩ := hl j y v' e1 e2 e3
        refine ⟨u', r', ?_⟩
        rcases q with ⟨k, e⟩ | ⟨k, c, e, z⟩
        · refine .inl ⟨k, ?_⟩
          have : y ≠ x := fun e => hj (nodup_ix hN e1 (e ▸ hi))
          simp [this, e]
        · exact .inr ⟨k, c, e, z.sameBut hs (cne y c e)⟩
    · obtain ⟨w', z⟩ := I.cell y c e
      exact ⟨w', z.sameBut hs (cne y c e)⟩
    · obtain ⟨e, n, ne, nf, d⟩ := I.pin p hp
      exact ⟨(hs.2 p.1 ne).trans e, n, ne, nf, d⟩
  · have hfn : X.fn x = true := by
      rcases hf with z | z
      · exact z
      · rw [z] at hk; cases hk
    obtain ⟨c, hc⟩ := I.ok.has x (.inl hk)
    obtain ⟨w', z⟩ := I.cell x c hc
    refine wpAny_storeName_cell I.ok.kind hk hc z (fun h' hc' hs => ?_)
    obtain ⟨oc, hoc, hocd⟩ := id z
    refine h { s with heap := h' } ⟨I.ok, I.os, I.bare, ⟨fun b o e n hb hx => ?_, fun b o e n hb hx => ?_, I.base.free, fun b o e hx => ?_, I.base.tups, I.base.frzs, I.base.tbls⟩, ⟨m, hn.sameBut hs (Ne.symm (cne x c hc)), fun j y v' e1 e2 e3 => ?_⟩, fun y c' e => ?_, I.free, I.freeC, fun p hp => ?_, tracked ⟨oc, hoc, I.freeC x c hc⟩ hs, by simpa using I.len⟩ ⟨c, hs, .inr hc⟩
    · exact (hs.2 b (Nat.ne_of_lt (Nat.lt_of_lt_of_le (Heap.lt_size e) (I.ok.cab x c hfn hc)))).trans (I.base.keep b o e n hb hx)
    · obtain ⟨sl, e1⟩ := I.base.slot b o e n hb hx
      exact ⟨sl, (hs.2 b (Nat.ne_of_lt (Nat.lt_of_lt_of_le (Heap.lt_size e) (I.ok.cab x c hfn hc)))).trans e1⟩
    · obtain ⟨o', e1⟩ := I.base.there b o e hx
      exact ⟨o', (hs.2 b (Nat.ne_of_lt (Nat.lt_of_lt_of_le (Heap.lt_size e) (I.ok.cab x c hfn hc)))).trans e1⟩
    · by_cases hj : j = i
      · subst hj
        rw [hi] at e1; cases e1
        rw [List.getElem?_set_self hiσ] at e2
        cases e2
        exact ⟨u, r, .inr ⟨.inl hk, c, hc, hc'⟩⟩
      · rw [List.getElem?_set_ne (Ne.symm hj)] at e2
        obtain ⟨u', r', q⟩ := hl j y v' e1 e2 e3
        refine ⟨u', r', ?_⟩
        rcases q with q | ⟨k, c', e, z'⟩
        · exact .inl q
        · refine .inr ⟨k, c', e, z'.sameBut hs ?_⟩
          rintro rfl
          exact hj (nodup_ix hN e1 (I.ok.inj _ _ _ e hc ▸ hi))
    · by_cases hcc : c' = c
      · subst hcc; exact ⟨_, hc'⟩
      · obtain ⟨w2, z2⟩ := I.cell y c' e
        exact ⟨w2, z2.sameBut hs hcc⟩
    · obtain ⟨e, n, ne, nf, d⟩ := I.pin p hp
      refine ⟨(hs.2 p.1 ?_).trans e, n, ne, nf, d⟩
      intro q
      rw [q, hoc] at e
      have q' : oc = p.2 := Option.some.inj e
      exact d w' (by rw [← q']; exact hocd)
theorem store_ok {M : Model} {A : Around} {E : Value → Shared → Prop} {i : Nat} {x : Str} {v : V} {u : Value} {Q : Unit → Shared → Prop} (I : Inv X pins σ H s) (hN : X.N.Nodup) (hi : X.N[i]? = some x) (hx : Loc X.env.scope x) (r : RelV v u)
    (h : ∀ s', Inv X pins (σ.set i (some v)) H s' → Q () s') (hf : X.fn x = true ∨ X.env.scope.names.lookup x = some .local := by first | exact .inl rfl | exact .inr rfl | assumption) : wpAny M A (storeName X.env x u) Q E s :=
  store_ok2 I hN hi hx r (fun s' I' _ => h s' I') hf
theorem Inv.call' {s' : Shared} {ch : List Addr} (I : Inv X pins σ H s) (ho : s'.os = s.os) (u : Un (frs X.stack) ch H H' s.heap s'.heap) (hok : HOk X.prog X.w H' s'.heap) (hg : AllBare s'.gens)
    (hch : ∀ b ∈ ch, (b ∈ X.ex ∨ X.s₀.heap.objs.size ≤ b) ∧ b ≠ X.env.locals ∧ (∀ x c, X.env.cells.lookup x = some c → c ≠ b) ∧ ∀ p ∈ X.pn ++ pins, p.1 ≠ b) : Inv X pins σ H' s' := by
  obtain ⟨h', g', d', t', o'⟩ := s'
  have e : o' = s.os := ho
  subst e
  exact I.call (g' := g') (t' := t') (d' := d') u hok hg hch
end
noncomputable abbrev XK := Value → Option Addr → Hp → Prop
noncomputable abbrev St := List (Option V)
noncomputable abbrev VK := V → Hp → Prop
noncomputable abbrev TE := St → Hp → VK → Prop
noncomputable abbrev TT := St → Hp → (Bool → Hp → Prop) → Prop
noncomputable abbrev TA := St → Hp → (List V → Hp → Prop) → Prop
structure Ends where
  nx : St → Hp → Prop
  rt : VK
  bk : St → Hp → Prop := fun _ _ => False
  ct : St → Hp → Prop := fun _ _ => False
noncomputable abbrev TS := Ends → St → Hp → Prop
noncomputable def EP (X : Cx) (pins : List (Addr × Obj)) (σ : St) (Q : VK) (u : Value) (s' : Shared) : Prop := ∃ v H', Inv X pins σ H' s' ∧ RelV v u ∧ Q v H'
noncomputable def TP (X : Cx) (pins : List (Addr × Obj)) (σ : St) (Q : Bool → Hp → Prop) (b : Bool) (s' : Shared) : Prop := ∃ H', Inv X pins σ H' s' ∧ Q b H'
noncomputable def AP (X : Cx) (pins : List (Addr × Obj)) (σ : St) (Q : List V → Hp → Prop) (us : List Value) (s' : Shared) : Prop := ∃ vs H', Inv X pins σ H' s' ∧ Vals vs us ∧ Q vs H'
noncomputable def SP (X : Cx) (pins : List (Addr × Obj)) (D : Ends) (f : Flow) (s' : Shared) : Prop :=
  match f with
  | .next => ∃ σ' H', Inv X pins σ' H' s' ∧ D.nx σ' H'
  | .brk => ∃ σ' H', Inv X pins σ' H' s' ∧ D.bk σ' H'
  | .cont => ∃ σ' H', Inv X pins σ' H' s' ∧ D.ct σ' H'
  | .ret u => ∃ v σ' H', Inv X pins σ' H' s' ∧ RelV v u ∧ D.rt v H'
noncomputable def PE (X : Cx) (e : Expr) (t : TE) : Prop :=
  ∀ (pins : List (Addr × Obj)) (s : Shared) (σ : St) (H : Hp) (Q : VK), Inv X pins σ H s → t σ H Q → wpAny (model X.prog X.w) X.A (eval e X.env) (EP X pins σ Q) X.xe s
noncomputable def PT (X : Cx) (e : Expr) (t : TT) : Prop :=
  ∀ (pins : List (Addr × Obj)) (s : Shared) (σ : St) (H : Hp) (Q : Bool → Hp → Prop), Inv X pins σ H s → t σ H Q → wpAny (model X.prog X.w) X.A (isTrue e X.env (eval e X.env)) (TP X pins σ Q) X.xe s
noncomputable def PW (X : Cx) (e : Expr) (t : TT) : Prop :=
  ∀ (whole : Sem Value) (pins : List (Addr × Obj)) (s : Shared) (σ : St) (H : Hp) (Q : Bool → Hp → Prop), Inv X pins σ H s → t σ H Q → wpAny (model X.prog X.w) X.A (isTrue e X.env whole) (TP X pins σ Q) X.xe s
theorem PW.pt {X : Cx} {e : Expr} {t : TT} (h : PW X e t) : PT X e t := h _
noncomputable def PA (X : Cx) (es : List Expr) (t : TA) : Prop :=
  ∀ (pos : Pos) (pins : List (Addr × Obj)) (s : Shared) (σ : St) (H : Hp) (Q : List V → Hp → Prop), Inv X pins σ H s → t σ H Q → wpAny (model X.prog X.w) X.A (spliced (backTo pos (starEach es X.env))) (AP X pins σ Q) X.xe s
noncomputable def PS (X : Cx) (st : Stmt) (t : TS) : Prop :=
  ∀ (pins : List (Addr × Obj)) (s : Shared) (σ : St) (H : Hp) (D : Ends), Inv X pins σ H s → t D σ H → wpAny (model X.prog X.w) X.A (exec st X.env) (SP X pins D) X.xe s
noncomputable def PSs (X : Cx) (st : List Stmt) (t : TS) : Prop :=
  ∀ (pins : List (Addr × Obj)) (s : Shared) (σ : St) (H : Hp) (D : Ends), Inv X pins σ H s → t D σ H → wpAny (model X.prog X.w) X.A (execs st X.env) (SP X pins D) X.xe s
theorem thn {α : Type} {t : Sem α} {Q Q' : α → Shared → Prop} {M : Model} {A : Around} {E : Value → Shared → Prop} {s : Shared} (h : wpAny M A t Q E s) (hQ : ∀ a s, Q a s → Q' a s) : wpAny M A t Q' E s := wpAny_mono h hQ fun _ _ x => x
end L2
namespace L2
open PySem PySem.Spec PyProof.Rows
section
variable {X : Cx}
noncomputable def tVar (i : Nat) : TE := fun σ H Q => ∃ v, σ[i]? = some (some v) ∧ Q v H
noncomputable def tC (v : V) : TE := fun _ H Q => Q v H
theorem pe_var {i : Nat} {x : Str} {pos : Pos} (hN : X.N[i]? = some x) (hv : Vis X.env.scope x) (hd : (x == ("__debug__" : Str)) = false := by decide) (hcd : (x == ("__classdict__" : Str)) = false := by decide) : PE X (.Name x pos) (tVar i) := by
  intro pins s σ H Q I h
  obtain ⟨v, e, h⟩ := h
  obtain ⟨m, hn, hl⟩ := I.loc
  obtain ⟨u, r, l⟩ := hl i x v hN e hv
  have fin : EP X pins σ Q u s := ⟨v, H, I, r, h⟩
  rcases l with ⟨hk, hm⟩ | ⟨hk, c, hc, hcell⟩
  · exact wpAny_Name (wpAny_loadName_local I.ok.kind hk hn hm fin) hd
  · rcases hk with hk | hk
    · exact wpAny_Name (wpAny_loadName_cell I.ok.kind hk hc hcell fin) hd
    · exact wpAny_Name (wpAny_loadName_free I.ok.kind hk hc hcell fin hcd) hd
theorem pe_int {i j pos} : PE X (.Constant (.int i) j pos) (tC (.int i)) := fun _ _ _ H _ I h => wpAny_Constant_int ⟨.int i, H, I.tok _, ⟨_, rfl⟩, h⟩
theorem pe_bl {b j pos} : PE X (.Constant (.bool b) j pos) (tC (.bl b)) := fun _ _ _ H _ I h => Constant_bool ⟨.bl b, H, I, rfl, h⟩
theorem pe_non {j pos} : PE X (.Constant .none j pos) (tC .non) := fun _ _ _ H _ I h => Constant_none ⟨.non, H, I, rfl, h⟩
theorem pe_str {x j pos} : PE X (.Constant (.str x) j pos) (tC (.str x)) := fun _ _ _ H _ I h => Calls.Constant_str ⟨.str x, H, I.tok _, ⟨_, rfl⟩, h⟩
noncomputable def Gl (X : Cx) (x : Str) : Prop := X.env.kindOf x = some .globalImplicit
theorem ld_glob {E : Value → Shared → Prop} {pins : List (Addr × Obj)} {s : Shared} {σ : St} {H : Hp} {x : Str} {u : Value} {pos : Pos} {Q : Value → Shared → Prop} (I : Inv X pins σ H s) (hg : Gl X x) (hm : X.mg x = some u) (h : Q u s)
    (hd : (x == ("__debug__" : Str)) = false := by decide) : wpAny (model X.prog X.w) X.A (eval (.Name x pos) X.env) Q E s :=
  Calls.Name_function_global I.ok.kind hg (Calls.loadGlobal_global (by rw [I.ok.glob]; exact I.mod.glob.keeps I.bk) hm h) hd
theorem ld_blt {E : Value → Shared → Prop} {pins : List (Addr × Obj)} {s : Shared} {σ : St} {H : Hp} {x : Str} {u : Value} {pos : Pos} {Q : Value → Shared → Prop} (I : Inv X pins σ H s) (hg : Gl X x) (hm : X.mg x = none) (hv : bootBuiltins x = some u) (h : Q u s)
    (hn : x ≠ "__name__" := by decide) (hd : (x == ("__debug__" : Str)) = false := by decide) : wpAny (model X.prog X.w) X.A (eval (.Name x pos) X.env) Q E s := by
  obtain ⟨mb, h1, h2⟩ := I.mod.blt
  exact Calls.Name_function_global I.ok.kind hg (Calls.loadGlobal_builtin (by rw [I.ok.glob]; exact I.mod.glob.keeps I.bk) hm (by rw [I.ok.blt]; exact h1.keeps I.bk) ((h2 x hn).trans hv) h) hd
theorem pe_glob {x : Str} {v : V} {u : Value} {pos : Pos} (hg : Gl X x) (hm : X.mg x = some u) (r : RelV v u) (hd : (x == ("__debug__" : Str)) = false := by decide) : PE X (.Name x pos) (tC v) :=
  fun _ _ _ H _ I h => ld_glob I hg hm ⟨v, H, I, r, h⟩ hd
theorem pe_bltn {x : Str} {v : V} {u : Value} {pos : Pos} (hg : Gl X x) (hm : X.mg x = none) (hv : bootBuiltins x = some u) (r : RelV v u) (hn : x ≠ "__name__" := by decide) (hd : (x == ("__debug__" : Str)) = false := by decide) : PE X (.Name x pos) (tC v) :=
  fun _ _ _ H _ I h => ld_blt I hg hm hv ⟨v, H, I, r, h⟩ hn hd
variable {a b : Expr} {ta tb : TE} {pos : Pos}
noncomputable def tB (t : TE) : TT := fun σ H Q => t σ H fun x H1 => ∃ c, x = .bl c ∧ Q c H1
theorem pt_val {e : Expr} {t : TE} (h : PE X e t) (he : ∀ whole, isTrue e X.env whole = (do let v ← whole; standAt e.pos; holding [v] (truthy v)) := by intro _; rfl) : PT X e (tB t) := by
  intro pins s σ H Q I hw
  refine isTrue_plain (thn (h pins s σ H _ I hw) fun v s1 ⟨x, H1, I1, r1, q1⟩ => ?_) (he _)
  obtain ⟨d, rfl, q⟩ := q1
  cases r1
  exact wpAny_truthy_bool ⟨H1, I1, q⟩
variable {tA tB' : TT} {rest : List Expr}
noncomputable def tAnd (t u : TT) : TT := fun σ H Q => t σ H fun c H1 => if c = true then u σ H1 Q else Q false H1
noncomputable def tOr (t u : TT) : TT := fun σ H Q => t σ H fun c H1 => if c = true then Q true H1 else u σ H1 Q
noncomputable def tNot (t : TT) : TT := fun σ H Q => t σ H fun c H1 => Q (!c) H1
theorem pw_and1 (ha : PT X a tA) : PW X (.BoolOp .And [a] pos) tA := by
  intro wh pins s σ H Q I h
  refine isTrue_and (thn (ha pins s σ H Q I h) fun c s1 e => ?_)
  cases c with
  | true => exact isTrue_and_nil e
  | false => exact e
theorem pw_or1 (ha : PT X a tA) : PW X (.BoolOp .Or [a] pos) tA := by
  intro wh pins s σ H Q I h
  refine isTrue_or (thn (ha pins s σ H Q I h) fun c s1 e => ?_)
  cases c with
  | false => exact isTrue_or_nil e
  | true => exact e
theorem pw_and (ha : PT X a tA) (hb : PW X (.BoolOp .And (b :: rest) pos) tB') : PW X (.BoolOp .And (a :: b :: rest) pos) (tAnd tA tB') := by
  intro wh pins s σ H Q I h
  refine isTrue_and (thn (ha pins s σ H _ I h) fun c s1 ⟨H1, I1, q1⟩ => ?_)
  cases c with
  | true => exact hb wh pins s1 σ H1 Q I1 q1
  | false => exact ⟨H1, I1, q1⟩
theorem pw_or (ha : PT X a tA) (hb : PW X (.BoolOp .Or (b :: rest) pos) tB') : PW X (.BoolOp .Or (a :: b :: rest) pos) (tOr tA tB') := by
  intro wh pins s σ H Q I h
  refine isTrue_or (thn (ha pins s σ H _ I h) fun c s1 ⟨H1, I1, q1⟩ => ?_)
  cases c with
  | true => exact ⟨H1, I1, q1⟩
  | false => exact hb wh pins s1 σ H1 Q I1 q1
theorem pt_not (ha : PT X a tA) : PT X (.UnaryOp .Not a pos) (tNot tA) := by
  intro pins s σ H Q I h
  exact isTrue_not (ha pins s σ H (fun c H1 => Q (!c) H1) I h)
noncomputable def tAndV (ta tb : TE) : TE := fun σ H Q => ta σ H fun x H1 => ∃ c, x = .bl c ∧ if c = true then tb σ H1 Q else Q (.bl false) H1
noncomputable def tOrV (ta tb : TE) : TE := fun σ H Q => ta σ H fun x H1 => ∃ c, x = .bl c ∧ if c = true then Q (.bl true) H1 else tb σ H1 Q
noncomputable def tNotV (ta : TE) : TE := fun σ H Q => ta σ H fun x H1 => ∃ c, x = .bl c ∧ Q (.bl (!c)) H1
theorem pe_one {op} {t : TE} (h : PE X a t) : PE X (.BoolOp op [a] pos) t := fun pins s σ H Q I hw => BoolOp_one (h pins s σ H Q I hw)
theorem pe_and (ha : PE X a ta) (hb : PE X (.BoolOp .And (b :: rest) pos) tb) : PE X (.BoolOp .And (a :: b :: rest) pos) (tAndV ta tb) := by
  intro pins s σ H Q I h
  refine BoolOp_and (thn (ha pins s σ H _ I h) fun v s1 ⟨x, H1, I1, r1, q1⟩ => ?_)
  obtain ⟨c, rfl, q1⟩ := q1
  cases r1
  refine wpAny_truthy_bool ?_
  cases c with
  | true => exact hb pins s1 σ H1 Q I1 q1
  | false => exact ⟨.bl false, H1, I1, rfl, q1⟩
theorem pe_or (ha : PE X a ta) (hb : PE X (.BoolOp .Or (b :: rest) pos) tb) : PE X (.BoolOp .Or (a :: b :: rest) pos) (tOrV ta tb) := by
  intro pins s σ H Q I h
  refine BoolOp_or (thn (ha pins s σ H _ I h) fun v s1 ⟨x, H1, I1, r1, q1⟩ => ?_)
  obtain ⟨c, rfl, q1⟩ := q1
  cases r1
  refine wpAny_truthy_bool ?_
  cases c with
  | false => exact hb pins s1 σ H1 Q I1 q1
  | true => exact ⟨.bl true, H1, I1, rfl, q1⟩
theorem pe_not (ha : PE X a ta) : PE X (.UnaryOp .Not a pos) (tNotV ta) := by
  intro pins s σ H Q I h
  refine UnaryOp_ (thn (ha pins s σ H _ I h) fun v s1 ⟨x, H1, I1, r1, q1⟩ => ?_)
  obtain ⟨c, rfl, q1⟩ := q1
  cases r1
  exact not_of (wpAny_truthy_bool ⟨.bl (!c), H1, I1, rfl, q1⟩)
end
end L2
namespace L2
open PySem PySem.Spec PyProof.Rows
noncomputable def SqL (K : PySem.W.Frag) (H : Hp) (a : Addr) (xs : List V) : Prop :=
  Rd H a (.lst xs) ∨
    ∃ (o : Obj) (its : Array Value) (n : Nat), K.lookup a = some o ∧ o.cls = .type "list" ∧ o.dict = none ∧ o.data = .seq its n ∧ its.size ≤ sizeLine ∧ Vals xs its.toList
noncomputable def SqT (K : PySem.W.Frag) (H : Hp) (a : Addr) (xs : List V) : Prop :=
  Rd H a (.tup xs) ∨
    ∃ (o : Obj) (its : Array Value) (n : Nat), K.lookup a = some o ∧ o.cls = .type "tuple" ∧ o.data = .seq its n ∧ its.size ≤ sizeLine ∧ Vals xs its.toList
section
variable {X : Cx} {pins : List (Addr × Obj)} {σ : St} {H : Hp} {s : Shared} {a : Addr} {xs ys : List V}
theorem SqL.of {K : PySem.W.Frag} (h : H a = some (.lst xs)) : SqL K H a xs := .inl (.inl h)
theorem SqT.of {K : PySem.W.Frag} (h : H a = some (.tup xs)) : SqT K H a xs := .inl (.inl h)
theorem Inv.list (I : Inv X pins σ H s) (h : SqL X.K H a xs) : ∃ its : List Value, Vals xs its ∧ PlainL s.heap a its.toArray ∧ xs.length ≤ sizeLine := by
  rcases h with h | ⟨o, its, n, hk, hc, hd, hs, hz, r⟩
  · obtain ⟨z, its, n, r, e⟩ := h.ok I.hok
    exact ⟨its, r, ⟨_, n, e, rfl, rfl, rfl⟩, z⟩
  · refine ⟨its.toList, r, ⟨o, n, I.kIn a o hk, hc, hd, by simpa using hs⟩, ?_⟩
    have e := r.length
    simp only [Array.length_toList] at e
    omega
theorem Inv.tuple (I : Inv X pins σ H s) (h : SqT X.K H a xs) : ∃ its : List Value, Vals xs its ∧ IsTup s.heap a its.toArray ∧ xs.length ≤ sizeLine := by
  rcases h with h | ⟨o, its, n, hk, hc, hs, hz, r⟩
  · obtain ⟨z, its, r, p⟩ := h.ok I.hok
    exact ⟨its, r, p, z⟩
  · refine ⟨its.toList, r, ⟨o, I.kIn a o hk, hc, n, by simpa using hs⟩, ?_⟩
    have e := r.length
    simp only [Array.length_toList] at e
    omega
end
noncomputable abbrev Cx.wish (X : Cx) (E : Value → Shared → Prop) : Cx := { X with xe := E }
noncomputable abbrev Cx.nox (X : Cx) : Cx := X.wish fun _ _ => False
theorem Cx.Ok.wish {X : Cx} (ok : X.Ok) (E : Value → Shared → Prop) : (X.wish E).Ok :=
  ⟨ok.mod, ok.kind, ok.glob, ok.blt, ok.above, ok.inj, ok.has, ok.cab, ok.hd, ok.frames, ok.stk, ok.exf, ok.bs, ok.bsz, ok.noex, ok.exfs, ok.funs, ok.frf⟩
theorem Cx.Ok.unwish {X : Cx} {E : Value → Shared → Prop} (ok : (X.wish E).Ok) : X.Ok :=
  ⟨ok.mod, ok.kind, ok.glob, ok.blt, ok.above, ok.inj, ok.has, ok.cab, ok.hd, ok.frames, ok.stk, ok.exf, ok.bs, ok.bsz, ok.noex, ok.exfs, ok.funs, ok.frf⟩
section
variable {X : Cx} {pins : List (Addr × Obj)} {σ : St} {H : Hp} {s : Shared} {E : Value → Shared → Prop}
theorem Inv.wish (I : Inv X pins σ H s) (E : Value → Shared → Prop) : Inv (X.wish E) pins σ H s := ⟨I.ok.wish E, I.os, I.bare, I.base, I.loc, I.cell, I.free, I.freeC, I.pin, I.hok, I.len⟩
theorem Inv.unwish (I : Inv (X.wish E) pins σ H s) : Inv X pins σ H s := ⟨I.ok.unwish, I.os, I.bare, I.base, I.loc, I.cell, I.free, I.freeC, I.pin, I.hok, I.len⟩
theorem SP.unwish {D : Ends} {f : Flow} {s' : Shared} (h : SP (X.wish E) pins D f s') : SP X pins D f s' := by
  cases f with
  | next => obtain ⟨σ', H', I, q⟩ := h; exact ⟨σ', H', I.unwish, q⟩
  | brk => obtain ⟨σ', H', I, q⟩ := h; exact ⟨σ', H', I.unwish, q⟩
  | cont => obtain ⟨σ', H', I, q⟩ := h; exact ⟨σ', H', I.unwish, q⟩
  | ret u => obtain ⟨v, σ', H', I, r, q⟩ := h; exact ⟨v, σ', H', I.unwish, r, q⟩
theorem PSs.nox {st : List Stmt} {t : TS} (h : PSs X.nox st t) : PSs X st t := fun pins s σ H D I hw =>
  wpAny_mono (h pins s σ H D (I.wish _) hw) (fun _ _ q => q.unwish) fun _ _ z => False.elim z
end
section
variable {X : Cx} {st : Stmt} {rest : List Stmt} {t u : TS} {e : Expr} {te : TE} {pos : Pos}
noncomputable def tNext : TS := fun D σ H => D.nx σ H
noncomputable def tSeq (t u : TS) : TS := fun D σ H => t { D with nx := u D } σ H
theorem pss_nil : PSs X [] tNext := fun _ _ σ H _ I h => wpAny_execs_nil ⟨σ, H, I, h⟩
theorem pss_cons (h1 : PS X st t) (h2 : PSs X rest u) : PSs X (st :: rest) (tSeq t u) := by
  intro pins s σ H D I h
  refine wpAny_execs_cons (thn (h1 pins s σ H { D with nx := u D } I h) fun f s1 q => ?_)
  cases f with
  | next =>
    obtain ⟨σ', H', I', q⟩ := q
    exact h2 pins s1 σ' H' D I' q
  | ret v => exact q
  | brk => exact q
  | cont => exact q
theorem pss_one (h1 : PS X st t) : PSs X [st] t := by
  intro pins s σ H D I h
  refine wpAny_execs_cons (thn (h1 pins s σ H D I h) fun f s1 q => ?_)
  cases f with
  | next => exact wpAny_execs_nil q
  | ret v => exact q
  | brk => exact q
  | cont => exact q
theorem Inv.quiet {pins : List (Addr × Obj)} {σ : St} {H : Hp} {s : Shared} (I : Inv X pins σ H s) : interactive X.env = false := by simp [interactive, I.ok.kind]
noncomputable def tDrop (te : TE) : TS := fun D σ H => te σ H fun _ H1 => D.nx σ H1
theorem ps_expr (he : PE X e te) (hs : swapsWith e none pos.line X.env = pure false := by rfl) : PS X (.Expr e pos) (tDrop te) := by
  intro pins s σ H D I h
  exact wpAny_Expr_any (thn (he pins s σ H _ I h) fun v s1 ⟨x, H1, I1, r1, q1⟩ => ⟨σ, H1, I1, q1⟩) I.quiet hs
noncomputable def tRet (te : TE) : TS := fun D σ H => te σ H D.rt
theorem ps_ret (he : PE X e te) : PS X (.Return (some e) pos) (tRet te) := by
  intro pins s σ H D I h
  exact wpAny_Return_some (thn (he pins s σ H _ I h) fun v s1 ⟨x, H1, I1, r1, q1⟩ => ⟨x, σ, H1, I1, r1, q1⟩)
noncomputable def tIfS (c : TT) (t u : TS) : TS := fun D σ H => c σ H fun b H1 => if b = true then t D σ H1 else u D σ H1
theorem ps_if {c : Expr} {a b : List Stmt} {tc : TT} (hc : PT X c tc) (ha : PSs X a t) (hb : PSs X b u) : PS X (.If c a b pos) (tIfS tc t u) := by
  intro pins s σ H D I h
  refine wpAny_If (thn (hc pins s σ H _ I h) fun d s1 ⟨H1, I1, q1⟩ => ?_)
  cases d with
  | true => exact ha pins s1 σ H1 D I1 q1
  | false => exact hb pins s1 σ H1 D I1 q1
noncomputable def tNever : TS := fun _ _ _ => False
theorem ps_never : PS X st tNever := fun _ _ _ _ _ _ h => h.elim
end
noncomputable abbrev TG := V → St → Hp → (St → Hp → Prop) → Prop
noncomputable abbrev TGs := List V → St → Hp → (St → Hp → Prop) → Prop
noncomputable def PG (X : Cx) (target : Expr) (t : TG) : Prop :=
  ∀ (pins : List (Addr × Obj)) (s : Shared) (σ : St) (H : Hp) (v : V) (u : Value) (Q : St → Hp → Prop), Inv X pins σ H s → RelV v u → t v σ H Q →
    wpAny (model X.prog X.w) X.A (assign target X.env u) (fun _ s' => ∃ σ' H', Inv X pins σ' H' s' ∧ Q σ' H') X.xe s
noncomputable abbrev TSet := V → V → V → Hp → (Hp → Prop) → Prop
noncomputable abbrev TIp := V → V → Hp → VK → Prop
section
variable {X : Cx} {pos : Pos}
noncomputable def gName (i : Nat) : TG := fun v σ H Q => Q (σ.set i (some v)) H
theorem pg_name {i : Nat} {x : Str} (hN : X.N.Nodup) (hi : X.N[i]? = some x) (hx : Loc X.env.scope x) (hf : X.fn x = true ∨ X.env.scope.names.lookup x = some .local := by first | exact .inl rfl | exact .inr rfl | assumption) : PG X (.Name x pos) (gName i) := by
  intro pins s σ H v u Q I r h
  exact wpAny_assign_Name (store_ok I hN hi hx r (fun s' I' => ⟨_, H, I', h⟩) hf)
noncomputable def tAsg (te : TE) (g : TG) : TS := fun D σ H => te σ H fun x H1 => g x σ H1 D.nx
theorem ps_set {i : Nat} {x : Str} {e : Expr} {te : TE} {pos' : Pos} (hN : X.N.Nodup) (hi : X.N[i]? = some x) (hx : Loc X.env.scope x) (he : PE X e te) (hs : swapsWith e (some (.Name x pos')) pos.line X.env = pure false := by rfl) (hf : X.fn x = true ∨ X.env.scope.names.lookup x = some .local := by first | exact .inl rfl | exact .inr rfl | assumption) :
    PS X (.Assign [.Name x pos'] e pos) (tAsg te (gName i)) := by
  intro pins s σ H D I h
  refine wpAny_Assign_Name (thn (he pins s σ H _ I h) fun v s1 ⟨y, H1, I1, r1, q1⟩ => ?_) hs
  exact store_ok I1 hN hi hx r1 (fun s2 I2 => ⟨_, H1, I2, q1⟩) hf
end
section
variable {X : Cx} {pos : Pos}
end
structure It where
  go : Nat → Hp → Prop
  yld : Nat → Hp → V → Hp → Prop
  stop : Nat → Hp → Prop
noncomputable def FpOk (X : Cx) (pins : List (Addr × Obj)) (H : Hp) (b : Addr) : Prop :=
  H b = none ∧ b ≠ X.env.locals ∧ b ∉ X.fs ∧ (b ∈ X.ex ∨ X.s₀.heap.objs.size ≤ b) ∧ (∀ x c, X.env.cells.lookup x = some c → c ≠ b) ∧ ∀ p ∈ X.pn ++ pins, p.1 ≠ b
theorem Inv.fpOk {X : Cx} {pins : List (Addr × Obj)} {σ : St} {H H' : Hp} {s : Shared} {b : Addr} (I : Inv X pins σ H s) (hb : s.heap.objs.size ≤ b) (hn : H' b = none) : FpOk X pins H' b := by
  refine ⟨hn, Nat.ne_of_gt (Nat.lt_of_lt_of_le I.lt hb), I.nofs hb, .inr (Nat.le_trans I.sz hb), fun x c e z => ?_, fun p hp z => ?_⟩
  · obtain ⟨v, q⟩ := I.cell x c e
    exact absurd (Nat.lt_of_lt_of_le q.lt (by rw [z]; exact hb)) (Nat.lt_irrefl _)
  · exact absurd (Nat.lt_of_lt_of_le (Heap.lt_size (I.pin p hp).1) (by rw [z]; exact hb)) (Nat.lt_irrefl _)
structure Turn (P : Program) (w : World) (K : PySem.W.Frag) (tg : Expr) (J : It) (fp : List Addr) (it : Addr) (tn : Nat → Heap → Prop) : Prop where
  mem : it ∈ fp
  obj : ∀ i h, tn i h → ∀ b ∈ fp, ∃ o, h.get? b = some o ∧ ∀ v, o.data ≠ .cell v
  keep : ∀ i h h', tn i h → (∀ b ∈ fp, ∀ o, h.get? b = some o → h'.get? b = some o) → tn i h'
  item : ∀ (X : Cx), X.prog = P → X.w = w → X.K = K → X.calm = true → ∀ (i : Nat) (pins : List (Addr × Obj)) (s : Shared) (σ : St) (H : Hp) (E : Value → Shared → Prop), Inv X pins σ H s → (∀ b ∈ fp, FpOk X pins H b) → tn i s.heap → J.go i H →
    wpAny (model P w) X.A (pyNext (.ref it)) (fun r s1 => ∃ u, r = some u ∧
      wpAny (model P w) X.A (letOwnedTupleGo tg (.ref it) u) (fun _ s2 => ∃ x H', Inv X pins σ H' s2 ∧ RelV x u ∧ J.yld i H x H' ∧ tn (i + 1) s2.heap ∧ ∀ b ∈ fp, H' b = none) E s1) E s
  done : ∀ (X : Cx), X.prog = P → X.w = w → X.K = K → X.calm = true → ∀ (i : Nat) (pins : List (Addr × Obj)) (s : Shared) (σ : St) (H : Hp) (E : Value → Shared → Prop), Inv X pins σ H s → (∀ b ∈ fp, FpOk X pins H b) → tn i s.heap → J.stop i H →
    wpAny (model P w) X.A (pyNext (.ref it)) (fun r s1 => r = none ∧ Inv X pins σ H s1) E s
  self : ∀ (A : Around) (i : Nat) (s : Shared) (Q : Value → Shared → Prop) (E : Value → Shared → Prop), tn i s.heap → Q (.ref it) s → wpAny (model P w) A (pyIter (.ref it)) Q E s
noncomputable abbrev TI := St → Hp → (It → Hp → Prop) → Prop
noncomputable def PIE (X : Cx) (pins : List (Addr × Obj)) (σ : St) (tg : Expr) (R : It → Hp → Prop) (itv : Value) (s2 : Shared) : Prop :=
  ∃ (it : Addr) (fp : List Addr) (tn : Nat → Heap → Prop) (J : It) (H' : Hp), itv = .ref it ∧ Inv X pins σ H' s2 ∧ Turn X.prog X.w X.K tg J fp it tn ∧ tn 0 s2.heap ∧ (∀ b ∈ fp, FpOk X pins H' b) ∧ R J H'
noncomputable def PI (X : Cx) (tg iter : Expr) (wi : TI) : Prop :=
  ∀ (pins : List (Addr × Obj)) (s : Shared) (σ : St) (H : Hp) (R : It → Hp → Prop), Inv X pins σ H s → wi σ H R →
    wpAny (model X.prog X.w) X.A (eval iter X.env) (fun v s1 => wpAny (model X.prog X.w) X.A (pyIter v) (PIE X pins σ tg R) X.xe s1) X.xe s
theorem go_of {M : Model} {A : Around} {E : Value → Shared → Prop} {s : Shared} {tg : Expr} {it : Addr} {u : Value} {o : Obj} {n : String} {vs : Array Value} {Q : Unit → Shared → Prop} (ho : s.heap.get? it = some o) (hc : o.cls = .type n) (hd : o.data = .fields vs)
    (hn : ["enumerate", "zip", "dict_itemiterator", "dict_reverseitemiterator", "odict_iterator", "itertools.zip_longest", "itertools.pairwise"].contains n = false) (hQ : Q () s) : wpAny M A (letOwnedTupleGo tg (.ref it) u) Q E s := by
  unfold letOwnedTupleGo
  cases tg <;> first
    | exact wpAny_pure hQ
    | (cases u <;> first
        | exact wpAny_pure hQ
        | (refine wpAny_bind (wpAny_load ho ?_)
           rw [hc, hd]
           show wpAny M A (if (["enumerate", "zip", "dict_itemiterator", "dict_reverseitemiterator", "odict_iterator", "itertools.zip_longest", "itertools.pairwise"].contains n && vs[0]? == some (rawInt _)) = true then _ else _) Q E s
           rw [if_neg (by intro h; rw [hn, Bool.false_and] at h; cases h)]
           exact wpAny_pure hQ))
noncomputable def Itr (lo : Int) (n : Nat) : It := ⟨fun i _ => i < n, fun i H x H' => H' = H ∧ x = .int (lo + i), fun i _ => n ≤ i⟩
theorem turn_range {P : Program} {w : World} {K : PySem.W.Frag} {tg : Expr} (it : Addr) (lo : Int) (n : Nat) : Turn P w K tg (Itr lo n) [it] it (fun i h => IsRangeIter h it (lo + (i : Nat) * 1) ((n : Int) - (i : Nat)) 1) where
  mem := by simp
  obj := fun i h st b hb => by
    have e : b = it := by simpa using hb
    subst e
    exact ⟨_, st, fun v z => by
      have z' : Data.fields _ = Data.cell v := z
      cases z'⟩
  keep := fun i h h' st k => k it (by simp) _ st
  item := by
    intro X hP hw hK hc i pins s σ H E I hf st hg
    subst hP hw hK
    obtain ⟨f0, f1, f2, f3, f4, f5⟩ := hf it (by simp)
    have W := Walks.range (prog := X.prog) (w := X.w) (I.ok.hd hc) it lo 1 n
    refine W.item i s _ _ hg st fun v h' tk hv st' kk => ?_
    obtain ⟨t, rfl⟩ := hv
    have I1 : Inv X pins σ H { s with heap := h', toks := tk } := I.turned (fun b o hb e => kk b o (by simpa using hb) e) f0 f1 f3 f4 f5
    refine ⟨_, rfl, go_of (s := { s with heap := h', toks := tk }) (n := "range_iterator") st' rfl rfl (by decide) ⟨.int (lo + i), H, I1, ⟨t, ?_⟩, ⟨rfl, rfl⟩, st', fun b hb => (hf b hb).1⟩⟩
    rw [Int.mul_one]
  done := by
    intro X hP hw hK hc i pins s σ H E I hf st hg
    subst hP hw hK
    obtain ⟨f0, f1, f2, f3, f4, f5⟩ := hf it (by simp)
    exact wpAny_pyNext_range_end (I.ok.hd hc) st (by have : n ≤ i := hg; omega) fun h' eb => ⟨rfl, I.turned (t' := s.toks) (fun b o hb e => eb b o hb e) f0 f1 f3 f4 f5⟩
  self := fun _ _ _ _ _ st h => wpAny_pyIter_rangeiter st h
end L2
namespace L2
open PySem PySem.Spec PyProof.Rows
section
variable {X : Cx} {tg : Expr}
theorem range_it {pins : List (Addr × Obj)} {σ : St} {H : Hp} {s : Shared} {R : It → Hp → Prop} {E : Value → Shared → Prop} {lo hi : Int} {t u v : Tok} {tk : Nat} (I : Inv X pins σ H s) (h1 : -(2 ^ 62) ≤ lo) (h2 : lo < 2 ^ 62) (h3 : -(2 ^ 62) ≤ hi) (h4 : hi < 2 ^ 62)
    (q : R (Itr lo (hi - lo).toNat) H) : wpAny (model X.prog X.w) X.A (pyIter (.ref s.heap.objs.size)) (PIE X pins σ tg R) E { s with heap := s.heap.push { cls := .type "range", data := .fields #[.int lo t, .int hi u, .int 1 v] }, toks := tk } := by
  refine wpAny_pyIter_range (IsRange.new ..) (small_one h1 h2 h3 h4) ?_
  have I1 : Inv X pins σ H { s with heap := s.heap.push { cls := .type "range", data := .fields #[.int lo t, .int hi u, .int 1 v] }, toks := tk } := I.kept fun b o e => Heap.get?_push_of_some _ e
  refine ⟨(s.heap.push { cls := .type "range", data := .fields #[.int lo t, .int hi u, .int 1 v] }).objs.size, [(s.heap.push { cls := .type "range", data := .fields #[.int lo t, .int hi u, .int 1 v] }).objs.size], _, _, H, rfl,
    I1.kept (t' := tk) fun b o e => Heap.get?_push_of_some _ e, turn_range _ lo (hi - lo).toNat, ?_, fun b hb => ?_, q⟩
  · have e1 : lo + ((0 : Nat) : Int) * 1 = lo := by simp
    have e2 : (((hi - lo).toNat : Nat) : Int) - ((0 : Nat) : Int) = Builtin.Range.rangeSize lo hi 1 := by rw [rangeSize_one]; split <;> omega
    show IsRangeIter _ _ (lo + ((0 : Nat) : Int) * 1) ((((hi - lo).toNat : Nat) : Int) - ((0 : Nat) : Int)) 1
    rw [e1, e2]
    exact Heap.get?_push_size _ rfl
  · have e : b = (s.heap.push { cls := .type "range", data := .fields #[.int lo t, .int hi u, .int 1 v] }).objs.size := by simpa using hb
    subst e
    exact I1.fpOk (Nat.le_refl _) (I1.hok.fresh (Nat.le_refl _))
noncomputable def iRng1 (ta : TA) : TI := fun σ H R => ta σ H fun vs H1 => ∃ j : Int, vs = [.int j] ∧ -(2 ^ 62) ≤ j ∧ j < 2 ^ 62 ∧ R (Itr 0 j.toNat) H1
theorem pi_range1 {a : Expr} {ta : TA} {p pos : Pos} (hg : Gl X "range") (hm : X.mg "range" = none) (ha : PA X [a] ta) (hs : starEach [a] X.env = [(false, eval a X.env)] := by rfl) : PI X tg (.Call (.Name "range" p) [a] [] pos) (iRng1 ta) := by
  intro pins s σ H R I h
  refine Call_ (ld_blt I hg hm boot_range (PyProof.Rows.callWith_type1 (thn (ha pos pins s σ H _ I h) fun us s1 ⟨vs, H1, I1, r1, q1⟩ => ?_) hs rfl))
  obtain ⟨j, e, q1, q2, q⟩ := q1
  subst e
  cases r1 with
  | cons r rr =>
    cases rr
    obtain ⟨t, rfl⟩ := r
    exact call_range_1 (range_it I1 (by omega) (by omega) q1 q2 (by simpa using q))
noncomputable def tFor (wi : TI) (g : TG) (tb : TS) : TS := fun D σ H => wi σ H fun J H1 => ∃ W : Nat → Nat → St → Hp → Prop, (∃ m, W 0 m σ H1) ∧ ∀ i m σ H, W i m σ H →
  (J.stop i H ∧ D.nx σ H) ∨ (J.go i H ∧ ∃ N : St → Hp → Prop, (∀ σ' H', N σ' H' → ∃ m', m' < m ∧ W (i + 1) m' σ' H') ∧ ∀ x H', J.yld i H x H' → g x σ H' fun σ2 H2 => tb { D with nx := N, ct := N, bk := D.nx } σ2 H2)
noncomputable def pinsAt (fp : List Addr) (h : Heap) : List (Addr × Obj) := fp.filterMap fun b => (h.get? b).map fun o => (b, o)
theorem mem_pinsAt {fp : List Addr} {h : Heap} {b : Addr} {o : Obj} (hb : b ∈ fp) (e : h.get? b = some o) : (b, o) ∈ pinsAt fp h := List.mem_filterMap.mpr ⟨b, hb, by rw [e]; rfl⟩
theorem of_pinsAt {fp : List Addr} {h : Heap} {p : Addr × Obj} (hp : p ∈ pinsAt fp h) : p.1 ∈ fp ∧ h.get? p.1 = some p.2 := by
  obtain ⟨b, hb, e⟩ := List.mem_filterMap.mp hp
  cases q : h.get? b with
  | none => rw [q] at e; cases e
  | some o =>
    rw [q] at e
    have e' : (b, o) = p := Option.some.inj e
    subst e'
    exact ⟨hb, q⟩
theorem Inv.pinned {pins : List (Addr × Obj)} {σ : St} {H : Hp} {s : Shared} {fp : List Addr} (I : Inv X pins σ H s) (hf : ∀ b ∈ fp, FpOk X pins H b) (ho : ∀ b ∈ fp, ∃ o, s.heap.get? b = some o ∧ ∀ v, o.data ≠ .cell v) : Inv X (pins ++ pinsAt fp s.heap) σ H s :=
  I.pins_of fun p hp => (List.mem_append.mp hp).elim (fun z => I.pin p (List.mem_append_right _ z)) fun z => by
    obtain ⟨hb, e⟩ := of_pinsAt z
    obtain ⟨f0, f1, f2, _⟩ := hf p.1 hb
    obtain ⟨o, e', d⟩ := ho p.1 hb
    rw [e] at e'; cases e'
    exact ⟨e, f0, f1, f2, d⟩
theorem Inv.unpinned {pins pl : List (Addr × Obj)} {σ : St} {H : Hp} {s : Shared} (I : Inv X (pins ++ pl) σ H s) : Inv X pins σ H s := I.pins_of fun p hp => I.pin p (List.mem_append_right _ (List.mem_append_left _ hp))
theorem ps_for {iter : Expr} {body : List Stmt} {wi : TI} {g : TG} {tb : TS} {pos : Pos} (hp : PassesOwn (model X.prog X.w) X.A X.env X.xe) (hc : X.calm = true) (hi : PI X tg iter wi) (hg : PG X tg g) (hb : PSs X body tb)
    (hs : ∀ x, foldedSetIterable iter X.env x = pure x := by intro _; rfl) : PS X (.For tg iter body [] pos) (tFor wi g tb) := by
  intro pins s σ H D I h
  refine wpAny_For (thn (hi pins s σ H _ I h) fun v s1 h1 => thn h1 fun itv s2 h2 => ?_) hs
  obtain ⟨it, fp, tn, J, H2, e, I2, T, st2, f2, W, ⟨m0, w0⟩, turn⟩ := h2
  subst e
  have stat : ∀ {H' : Hp}, (∀ b ∈ fp, H' b = none) → ∀ b ∈ fp, FpOk X pins H' b := fun hn b hb => ⟨hn b hb, (f2 b hb).2⟩
  refine codeAny_forLoop_any (fun n s' => ∃ i σ' H', Inv X pins σ' H' s' ∧ tn i s'.heap ∧ (∀ b ∈ fp, H' b = none) ∧ W i n σ' H') ?_ m0 ⟨0, σ, H2, I2, st2, fun b hb => (f2 b hb).1, w0⟩
  rintro n s3 ⟨i, σ3, H3, I3, st3, fr3, w3⟩
  rcases turn i n σ3 H3 w3 with ⟨stop, qn⟩ | ⟨go, N, hN, step⟩
  · refine wpAny_passesOwn hp (thn (T.done X rfl rfl rfl hc i pins s3 σ3 H3 X.xe I3 (stat fr3) st3 stop) fun r s4 ⟨hr, I4⟩ => ?_)
    subst hr
    exact wpAny_execs_nil ⟨σ3, H3, I4, qn⟩
  · refine wpAny_passesOwn hp (thn (T.item X rfl rfl rfl hc i pins s3 σ3 H3 X.xe I3 (stat fr3) st3 go) fun r s4 ⟨u, hr, h4⟩ => ?_)
    subst hr
    refine wpAny_passesOwn hp (thn h4 fun _ s5 ⟨x, H5, I5, r5, y5, st5, fr5⟩ => ?_)
    have I5' := I5.pinned (stat fr5) (T.obj _ _ st5)
    refine wpAny_passesOwn hp (thn (hg _ s5 σ3 H5 x u _ I5' r5 (step x H5 y5)) fun _ s6 ⟨σ6, H6, I6, q6⟩ => ?_)
    refine wpAny_passesOwn hp (thn (hb _ s6 σ6 H6 _ I6 q6) fun f s7 q7 => ?_)
    have again : ∀ {σ7 : St} {H7 : Hp}, Inv X (pins ++ pinsAt fp s5.heap) σ7 H7 s7 → N σ7 H7 → ∃ m, m < n ∧ ∃ i σ' H', Inv X pins σ' H' s7 ∧ tn i s7.heap ∧ (∀ b ∈ fp, H' b = none) ∧ W i m σ' H' := fun {σ7 H7} I7 n7 => by
      obtain ⟨m', hm, w7⟩ := hN σ7 H7 n7
      refine ⟨m', hm, i + 1, σ7, H7, I7.unpinned, T.keep _ _ _ st5 fun b hb o e => (I7.pin (b, o) (List.mem_append_right _ (List.mem_append_right _ (mem_pinsAt hb e)))).1, fun b hb => ?_, w7⟩
      obtain ⟨o, e, d⟩ := T.obj _ _ st5 b hb
      exact (I7.pin (b, o) (List.mem_append_right _ (List.mem_append_right _ (mem_pinsAt hb e)))).2.1
    cases f with
    | next => obtain ⟨σ7, H7, I7, n7⟩ := q7; exact again I7 n7
    | cont => obtain ⟨σ7, H7, I7, n7⟩ := q7; exact again I7 n7
    | brk => obtain ⟨σ7, H7, I7, q7⟩ := q7; exact ⟨σ7, H7, I7.unpinned, q7⟩
    | ret v => obtain ⟨x7, σ7, H7, I7, r7, q7⟩ := q7; exact ⟨x7, σ7, H7, I7.unpinned, r7, q7⟩
end
theorem for_range {lo : Int} {n : Nat} {g : TG} {tb : TS} {D : Ends} {σ : St} {H : Hp} (Pv : Nat → St → Hp → Prop) (h0 : Pv 0 σ H)
    (hs : ∀ i σ H, i < n → Pv i σ H → g (.int (lo + i)) σ H fun σ2 H2 => tb { D with nx := Pv (i + 1), ct := Pv (i + 1), bk := D.nx } σ2 H2) (hd : ∀ σ H, Pv n σ H → D.nx σ H) :
    ∃ W : Nat → Nat → St → Hp → Prop, (∃ m, W 0 m σ H) ∧ ∀ i m σ H, W i m σ H →
      ((Itr lo n).stop i H ∧ D.nx σ H) ∨ ((Itr lo n).go i H ∧ ∃ N : St → Hp → Prop, (∀ σ' H', N σ' H' → ∃ m', m' < m ∧ W (i + 1) m' σ' H') ∧ ∀ x H', (Itr lo n).yld i H x H' → g x σ H' fun σ2 H2 => tb { D with nx := N, ct := N, bk := D.nx } σ2 H2) := by
  refine ⟨fun i m σ H => m = n - i ∧ i ≤ n ∧ Pv i σ H, ⟨n, by simp, Nat.zero_le _, h0⟩, ?_⟩
  rintro i m σ H ⟨rfl, hi, p⟩
  by_cases hlt : i < n
  · refine .inr ⟨hlt, Pv (i + 1), fun σ' H' p' => ⟨n - (i + 1), by omega, rfl, hlt, p'⟩, fun x H' y => ?_⟩
    obtain ⟨e, y⟩ := y
    subst e y
    exact hs i σ _ hlt p
  · have e : i = n := by omega
    subst e
    exact .inl ⟨Nat.le_refl _, hd σ H p⟩
end L2
namespace L2
open PySem PySem.Spec PyProof.Rows
noncomputable abbrev R2 := V → V → Hp → VK → Prop
noncomputable def OpR (X : Cx) (f : Value → Value → Sem Value) (r : R2) : Prop :=
  ∀ (pins : List (Addr × Obj)) (s : Shared) (σ : St) (H : Hp) (x y : V) (v u : Value) (Q : VK), Inv X pins σ H s → RelV x v → RelV y u → r x y H Q →
    wpAny (model X.prog X.w) X.A (f v u) (EP X pins σ Q) X.xe s
noncomputable def UnR (X : Cx) (f : Value → Sem Value) (r : V → Hp → VK → Prop) : Prop :=
  ∀ (pins : List (Addr × Obj)) (s : Shared) (σ : St) (H : Hp) (x : V) (v : Value) (Q : VK), Inv X pins σ H s → RelV x v → r x H Q →
    wpAny (model X.prog X.w) X.A (f v) (EP X pins σ Q) X.xe s
noncomputable def CallR (X : Cx) (f : Value) (r : List V → Hp → VK → Prop) : Prop :=
  ∀ (pins : List (Addr × Obj)) (s : Shared) (σ : St) (H : Hp) (xs : List V) (us : List Value) (Q : VK), Inv X pins σ H s → Vals xs us → r xs H Q →
    wpAny (model X.prog X.w) X.A (call f us) (EP X pins σ Q) X.xe s
noncomputable def tOp (r : R2) (ta tb : TE) : TE := fun σ H Q => ta σ H fun x H1 => tb σ H1 fun y H2 => r x y H2 Q
noncomputable def tUn (r : V → Hp → VK → Prop) (ta : TE) : TE := fun σ H Q => ta σ H fun x H1 => r x H1 Q
noncomputable def rI (C : Int → Int → Prop) (g : Int → Int → V) : R2 := fun x y H Q => ∃ i j, x = .int i ∧ y = .int j ∧ C i j ∧ Q (g i j) H
noncomputable def rI0 (g : Int → Int → V) : R2 := fun x y H Q => ∃ i j, x = .int i ∧ y = .int j ∧ Q (g i j) H
noncomputable def rU (g : Int → V) : V → Hp → VK → Prop := fun x H Q => ∃ i, x = .int i ∧ Q (g i) H
section
variable {X : Cx} {a b c : Expr} {ta tb tc : TE} {pos : Pos}
theorem binT (ha : PE X a ta) (hb : PE X b tb) {pins : List (Addr × Obj)} {s : Shared} {σ : St} {H : Hp} {R : V → V → Hp → Prop} (I : Inv X pins σ H s)
    (h : ta σ H fun x H1 => tb σ H1 fun y H2 => R x y H2) {Q : Value → Shared → Prop} {f : Value → Value → Sem Value}
    (hf : ∀ v u s2 x y H2, Inv X pins σ H2 s2 → RelV x v → RelV y u → R x y H2 → wpAny (model X.prog X.w) X.A (f v u) Q X.xe s2) :
    wpAny (model X.prog X.w) X.A (eval a X.env) (fun v s₁ => wpAny (model X.prog X.w) X.A (eval b X.env) (fun u s₂ => wpAny (model X.prog X.w) X.A (f v u) Q X.xe s₂) X.xe s₁) X.xe s := by
  refine thn (ha pins s σ H _ I h) fun v s1 ⟨x, H1, I1, r1, q1⟩ => ?_
  refine thn (hb pins s1 σ H1 _ I1 q1) fun u s2 ⟨y, H2, I2, r2, q2⟩ => ?_
  exact hf v u s2 x y H2 I2 r1 r2 q2
theorem pe_op {op : Operator} {r : R2} (ho : OpR X (binaryOp op) r) (ha : PE X a ta) (hb : PE X b tb) : PE X (.BinOp a op b pos) (tOp r ta tb) := by
  intro pins s σ H Q I h
  exact wpAny_BinOp (binT ha hb I h fun v u s2 x y H2 I2 rx ry q => ho pins s2 σ H2 x y v u Q I2 rx ry q)
theorem pe_un {op : UnaryOp} {r : V → Hp → VK → Prop} (ho : UnR X (unaryOp op) r) (ha : PE X a ta) : PE X (.UnaryOp op a pos) (tUn r ta) := by
  intro pins s σ H Q I h
  exact UnaryOp_ (thn (ha pins s σ H _ I h) fun v s1 ⟨x, H1, I1, r1, q1⟩ => ho pins s1 σ H1 x v Q I1 r1 q1)
theorem opI {f : Value → Value → Sem Value} {C : Int → Int → Prop} {g : Int → Int → Int}
    (rule : ∀ (i j : Int) (t u : Tok) (s : Shared) (Q : Value → Shared → Prop) (E : Value → Shared → Prop), C i j → Q (.int (g i j) s.toks) { s with toks := s.toks + 1 } → wpAny (model X.prog X.w) X.A (f (.int i t) (.int j u)) Q E s) :
    OpR X f (rI C fun i j => .int (g i j)) := by
  intro pins s σ H x y v u Q I rx ry h
  obtain ⟨i, j, rfl, rfl, hc, q⟩ := h
  obtain ⟨t, rfl⟩ := rx
  obtain ⟨t', rfl⟩ := ry
  exact rule i j t t' s _ _ hc ⟨.int (g i j), H, I.tok _, ⟨_, rfl⟩, q⟩
theorem opI0 {f : Value → Value → Sem Value} {g : Int → Int → Int}
    (rule : ∀ (i j : Int) (t u : Tok) (s : Shared) (Q : Value → Shared → Prop) (E : Value → Shared → Prop), Q (.int (g i j) s.toks) { s with toks := s.toks + 1 } → wpAny (model X.prog X.w) X.A (f (.int i t) (.int j u)) Q E s) :
    OpR X f (rI0 fun i j => .int (g i j)) := by
  intro pins s σ H x y v u Q I rx ry h
  obtain ⟨i, j, rfl, rfl, q⟩ := h
  obtain ⟨t, rfl⟩ := rx
  obtain ⟨t', rfl⟩ := ry
  exact rule i j t t' s _ _ ⟨.int (g i j), H, I.tok _, ⟨_, rfl⟩, q⟩
theorem opB0 {f : Value → Value → Sem Value} {g : Int → Int → Bool}
    (rule : ∀ (i j : Int) (t u : Tok) (s : Shared) (Q : Value → Shared → Prop) (E : Value → Shared → Prop), Q (.bool (g i j)) s → wpAny (model X.prog X.w) X.A (f (.int i t) (.int j u)) Q E s) :
    OpR X f (rI0 fun i j => .bl (g i j)) := by
  intro pins s σ H x y v u Q I rx ry h
  obtain ⟨i, j, rfl, rfl, q⟩ := h
  obtain ⟨t, rfl⟩ := rx
  obtain ⟨t', rfl⟩ := ry
  exact rule i j t t' s _ _ ⟨.bl (g i j), H, I, rfl, q⟩
noncomputable def CDiv (i j : Int) : Prop := 0 < j ∧ j < 1073741824
noncomputable def CPow (i j : Int) : Prop := 0 ≤ j ∧ j ≤ 1000000 ∧ i.natAbs < 2 ^ 64
noncomputable def CMul (i j : Int) : Prop := (-(2 ^ 64) < i ∧ i < 2 ^ 64) ∨ (-(2 ^ 64) < j ∧ j < 2 ^ 64)
theorem CMul.ok {i j : Int} (h : CMul i j) : IntMulOk i j := by
  rcases h with ⟨h1, h2⟩ | ⟨h1, h2⟩
  · exact .of_left (intBits_le_64 h1 h2)
  · exact .of_right (intBits_le_64 h1 h2)
theorem op_add : OpR X (binaryOp .Add) (rI0 fun i j => .int (i + j)) := opI0 fun _ _ _ _ _ _ _ q => add_int q
theorem op_sub : OpR X (binaryOp .Sub) (rI0 fun i j => .int (i - j)) := opI0 fun _ _ _ _ _ _ _ q => sub_int q
theorem op_mul : OpR X (binaryOp .Mult) (rI CMul fun i j => .int (i * j)) := opI fun _ _ _ _ _ _ _ hc q => mul_int q hc.ok
theorem op_fdiv : OpR X (binaryOp .FloorDiv) (rI CDiv fun i j => .int (i / j)) := opI fun i j _ _ _ _ _ hc q => by
  have h1 : (0 : Int) < j := hc.1
  have h2 : j < 1073741824 := hc.2
  exact floordiv_int (by omega) (by rw [Int.fdiv_eq_ediv_of_nonneg i (by omega)]; exact q) (.inl (PyProof.noPylong_small (by omega)))
theorem op_mod : OpR X (binaryOp .Mod) (rI (fun _ j => 0 < j) fun i j => .int (i % j)) := opI fun i j _ _ _ _ _ hc q => by
  have h1 : (0 : Int) < j := hc
  exact mod_int' (by omega) (by rw [Int.fmod_eq_emod_of_nonneg i (by omega)]; exact q)
theorem op_pow : OpR X (binaryOp .Pow) (rI CPow fun i j => .int (i ^ j.toNat)) := opI fun _ _ _ _ _ _ _ hc q => pow_int_small hc.1 hc.2.1 hc.2.2 q
theorem unI {f : Value → Sem Value} {g : Int → Int}
    (rule : ∀ (i : Int) (t : Tok) (s : Shared) (Q : Value → Shared → Prop) (E : Value → Shared → Prop), Q (.int (g i) s.toks) { s with toks := s.toks + 1 } → wpAny (model X.prog X.w) X.A (f (.int i t)) Q E s) :
    UnR X f (rU fun i => .int (g i)) := by
  intro pins s σ H x v Q I rx h
  obtain ⟨i, rfl, q⟩ := h
  obtain ⟨t, rfl⟩ := rx
  exact rule i t s _ _ ⟨.int (g i), H, I.tok _, ⟨_, rfl⟩, q⟩
theorem un_neg : UnR X (unaryOp .USub) (rU fun i => .int (-i)) := unI fun _ _ _ _ _ q => neg_int q
end
noncomputable def scal : V → V → Bool
  | .non, .non => true | .non, .int _ => true | .int _, .non => true | .non, .bl _ => true | .bl _, .non => true | .non, .str _ => true | .str _, .non => true
  | .int _, .int _ => true | .bl _, .bl _ => true | .str _, .str _ => true | .byt _, .byt _ => true
  | .int _, .str _ => true | .str _, .int _ => true | .bl _, .str _ => true | .str _, .bl _ => true
  | _, _ => false
noncomputable def rEq : R2 := fun x y H Q => scal x y = true ∧ Q (.bl (decide (x = y))) H
noncomputable def rNe : R2 := fun x y H Q => scal x y = true ∧ Q (.bl (!decide (x = y))) H
theorem dec_int {i j : Int} : decide (V.int i = V.int j) = (i == j) := by
  rw [Bool.eq_iff_iff]
  simp
theorem dec_bl {i j : Bool} : decide (V.bl i = V.bl j) = (i == j) := by
  rw [Bool.eq_iff_iff]
  simp
theorem dec_str {i j : Str} : decide (V.str i = V.str j) = (i == j) := by
  rw [Bool.eq_iff_iff]
  simp
theorem dec_byt {i j : Array UInt8} : decide (V.byt i = V.byt j) = (i.toList == j.toList) := by
  rw [Bool.eq_iff_iff]
  cases i
  cases j
  simp
section
variable {X : Cx} {a b c : Expr} {ta tb tc : TE} {pos : Pos}
theorem fin_bl {pins : List (Addr × Obj)} {σ : St} {H : Hp} {s : Shared} {Q : VK} {k k' : Bool} (I : Inv X pins σ H s) (q : Q (.bl k) H) (e : k = k') : EP X pins σ Q (.bool k') s := by
  subst e
  exact ⟨.bl k, H, I, rfl, q⟩
theorem op_eq : OpR X (compareOp .Eq) rEq := by
  intro pins s σ H x y v u Q I rx ry h
  obtain ⟨hs, q⟩ := h
  cases x with
  | non =>
    cases rx
    cases y with
    | non => cases ry; exact PySem.EqNone.eq_none_none (fin_bl I q (by simp))
    | bl j => cases ry; exact PySem.EqNone.eq_none_bool (fin_bl I q (by simp))
    | int j => obtain ⟨t', rfl⟩ := ry; exact PySem.EqNone.eq_none_int (fin_bl I q (by simp))
    | str j => obtain ⟨t', rfl⟩ := ry; exact PySem.EqNone.eq_none_str (fin_bl I q (by simp))
    | _ => exact absurd (show false = true from hs) Bool.false_ne_true
  | bl i =>
    cases rx
    cases y with
    | non => cases ry; exact PySem.EqNone.eq_bool_none (fin_bl I q (by simp))
    | bl j => cases ry; exact eq_bool (fin_bl I q dec_bl)
    | str j => obtain ⟨t', rfl⟩ := ry; exact PySem.EqMixed.eq_bool_str (fin_bl I q (by simp))
    | _ => exact absurd (show false = true from hs) Bool.false_ne_true
  | int i =>
    obtain ⟨t, rfl⟩ := rx
    cases y with
    | non => cases ry; exact PySem.EqNone.eq_int_none (fin_bl I q (by simp))
    | int j => obtain ⟨t', rfl⟩ := ry; exact eq_int (fin_bl I q dec_int)
    | str j => obtain ⟨t', rfl⟩ := ry; exact PySem.EqMixed.eq_int_str (fin_bl I q (by simp))
    | _ => exact absurd (show false = true from hs) Bool.false_ne_true
  | str i =>
    obtain ⟨t, rfl⟩ := rx
    cases y with
    | non => cases ry; exact PySem.EqNone.eq_str_none (fin_bl I q (by simp))
    | bl j => cases ry; exact PySem.EqMixed.eq_str_bool (fin_bl I q (by simp))
    | int j => obtain ⟨t', rfl⟩ := ry; exact PySem.EqMixed.eq_str_int (fin_bl I q (by simp))
    | str j => obtain ⟨t', rfl⟩ := ry; exact eq_str (fin_bl I q dec_str)
    | _ => exact absurd (show false = true from hs) Bool.false_ne_true
  | byt i =>
    obtain ⟨t, rfl⟩ := rx
    cases y with
    | byt j => obtain ⟨t', rfl⟩ := ry; exact PySem.W.eq_bytes (fin_bl I q dec_byt)
    | _ => exact absurd (show false = true from hs) Bool.false_ne_true
  | _ => cases y <;> exact absurd (show false = true from hs) Bool.false_ne_true
theorem op_ne : OpR X (compareOp .NotEq) rNe := by
  intro pins s σ H x y v u Q I rx ry h
  obtain ⟨hs, q⟩ := h
  cases x with
  | non =>
    cases rx
    cases y with
    | non => cases ry; exact PySem.EqNone.ne_none_none (fin_bl I q (by simp))
    | bl j => cases ry; exact PySem.EqNone.ne_none_bool (fin_bl I q (by simp))
    | int j => obtain ⟨t', rfl⟩ := ry; exact PySem.EqNone.ne_none_int (fin_bl I q (by simp))
    | str j => obtain ⟨t', rfl⟩ := ry; exact PySem.EqNone.ne_none_str (fin_bl I q (by simp))
    | _ => exact absurd (show false = true from hs) Bool.false_ne_true
  | bl i =>
    cases rx
    cases y with
    | non => cases ry; exact PySem.EqNone.ne_bool_none (fin_bl I q (by simp))
    | bl j => cases ry; exact ne_bool (fin_bl I q (congrArg not dec_bl))
    | str j => obtain ⟨t', rfl⟩ := ry; exact PySem.EqMixed.ne_bool_str (fin_bl I q (by simp))
    | _ => exact absurd (show false = true from hs) Bool.false_ne_true
  | int i =>
    obtain ⟨t, rfl⟩ := rx
    cases y with
    | non => cases ry; exact PySem.EqNone.ne_int_none (fin_bl I q (by simp))
    | int j => obtain ⟨t', rfl⟩ := ry; exact ne_int (fin_bl I q (congrArg not dec_int))
    | str j => obtain ⟨t', rfl⟩ := ry; exact PySem.EqMixed.ne_int_str (fin_bl I q (by simp))
    | _ => exact absurd (show false = true from hs) Bool.false_ne_true
  | str i =>
    obtain ⟨t, rfl⟩ := rx
    cases y with
    | non => cases ry; exact PySem.EqNone.ne_str_none (fin_bl I q (by simp))
    | bl j => cases ry; exact PySem.EqMixed.ne_str_bool (fin_bl I q (by simp))
    | int j => obtain ⟨t', rfl⟩ := ry; exact PySem.EqMixed.ne_str_int (fin_bl I q (by simp))
    | str j => obtain ⟨t', rfl⟩ := ry; exact ne_str (fin_bl I q (congrArg not dec_str))
    | _ => exact absurd (show false = true from hs) Bool.false_ne_true
  | byt i =>
    obtain ⟨t, rfl⟩ := rx
    cases y with
    | byt j => obtain ⟨t', rfl⟩ := ry; exact PySem.W.ne_bytes (fin_bl I q (congrArg not dec_byt))
    | _ => exact absurd (show false = true from hs) Bool.false_ne_true
  | _ => cases y <;> exact absurd (show false = true from hs) Bool.false_ne_true
theorem op_lt : OpR X (compareOp .Lt) (rI0 fun i j => .bl (decide (i < j))) := opB0 fun _ _ _ _ _ _ _ q => lt_int q
theorem op_le : OpR X (compareOp .LtE) (rI0 fun i j => .bl (decide (i ≤ j))) := opB0 fun _ _ _ _ _ _ _ q => le_int q
theorem op_gt : OpR X (compareOp .Gt) (rI0 fun i j => .bl (decide (j < i))) := opB0 fun _ _ _ _ _ _ _ q => gt_int q
theorem op_in_str : OpR X (compareOp .In) (fun x y H Q => ∃ i j, x = .str i ∧ y = .str j ∧ Q (.bl (!(Builtin.Str.occurrences j i 0 j.length 1).isEmpty)) H) := by
  intro pins s σ H x y v u Q I rx ry h
  obtain ⟨i, j, rfl, rfl, q⟩ := h
  obtain ⟨t, rfl⟩ := rx
  obtain ⟨t', rfl⟩ := ry
  exact in_str (fin_bl I q rfl)
theorem op_notin_str : OpR X (compareOp .NotIn) (fun x y H Q => ∃ i j, x = .str i ∧ y = .str j ∧ Q (.bl (!(!(Builtin.Str.occurrences j i 0 j.length 1).isEmpty))) H) := by
  intro pins s σ H x y v u Q I rx ry h
  obtain ⟨i, j, rfl, rfl, q⟩ := h
  obtain ⟨t, rfl⟩ := rx
  obtain ⟨t', rfl⟩ := ry
  exact notIn_str (fin_bl I q rfl)
theorem nomark (b : Expr) {op : CmpOp} (h : op ≠ .In := by decide) (h2 : op ≠ .NotIn := by decide) : behindInMarks op b = false := by
  have e1 : (op == CmpOp.In) = false := by cases op <;> first | rfl | exact absurd rfl h
  have e2 : (op == CmpOp.NotIn) = false := by cases op <;> first | rfl | exact absurd rfl h2
  cases b <;> simp [behindInMarks, e1, e2]
theorem pe_cmpR {op : CmpOp} {r : R2} (ho : OpR X (compareOp op) r) (ha : PE X a ta) (hb : PE X b tb) (hm : behindInMarks op b = false) : PE X (.Compare a [op] [b] pos) (tOp r ta tb) := by
  intro pins s σ H Q I h
  exact wpAny_Compare1 (binT ha hb I h fun v u s2 x y H2 I2 rx ry q => ho pins s2 σ H2 x y v u Q I2 rx ry q) hm
noncomputable def tTest (t : TE) : TT := fun σ H Q => t σ H fun x H' => ∃ k, x = .bl k ∧ Q k H'
theorem pt_cmpR {op : CmpOp} {r : R2} (ho : OpR X (compareOp op) r) (ha : PE X a ta) (hb : PE X b tb) (hm : behindInMarks op b = false) : PT X (.Compare a [op] [b] pos) (tTest (tOp r ta tb)) := by
  intro pins s σ H Q I h
  refine wpAny_isTrue_Compare1 (thn (ha pins s σ H _ I h) fun v s1 ⟨x, H1, I1, r1, q1⟩ => thn (hb pins s1 σ H1 _ I1 q1) fun u s2 ⟨y, H2, I2, r2, q2⟩ =>
    thn (ho pins s2 σ H2 x y v u _ I2 r1 r2 q2) fun c s3 ⟨z, H3, I3, r3, k, e, q3⟩ => ?_) hm
  subst e
  cases r3
  exact wpAny_truthy_bool ⟨H3, I3, q3⟩
noncomputable def tChain (r r' : R2) (ta tb tc : TE) : TE := fun σ H Q => ta σ H fun x H1 => tb σ H1 fun y H2 => r x y H2 fun z H3 => ∃ k, z = .bl k ∧
  (if k = true then tc σ H3 fun w' H4 => r' y w' H4 Q else Q (.bl false) H3)
theorem pt_chain {op op' : CmpOp} {r r' : R2} (ho : OpR X (compareOp op) r) (ho' : OpR X (compareOp op') r') (ha : PE X a ta) (hb : PE X b tb) (hc : PE X c tc)
    (hm : lastMarks [op, op'] [b, c] = false := by with_unfolding_all rfl) : PT X (.Compare a [op, op'] [b, c] pos) (tTest (tChain r r' ta tb tc)) := by
  intro pins s σ H Q I h
  refine isTrue_chain (thn (ha pins s σ H _ I h) fun v s1 ⟨x, H1, I1, r1, q1⟩ => test_link (thn (hb pins s1 σ H1 _ I1 q1) fun u s2 ⟨y, H2, I2, r2, q2⟩ =>
    thn (ho pins s2 σ H2 x y v u _ I2 r1 r2 q2) fun d s3 ⟨z, H3, I3, r3, k, e, q3⟩ => ?_)) hm
  subst e
  cases r3
  refine wpAny_truthy_bool ?_
  cases k with
  | false =>
    obtain ⟨k', e', q'⟩ := q3
    cases e'
    exact ite_ff ⟨H3, I3, q'⟩
  | true =>
    refine ite_tt (test_last (thn (hc pins s3 σ H3 _ I3 q3) fun w' s4 ⟨z', H4, I4, r4, q4⟩ => thn (ho' pins s4 σ H4 y z' u w' _ I4 r2 r4 q4) fun d' s5 ⟨z2, H5, I5, r5, k2, e2, q5⟩ => ?_))
    subst e2
    cases r5
    exact wpAny_truthy_bool ⟨H5, I5, q5⟩
theorem line63 : (sizeLine : Nat) < 2 ^ 63 := by rw [sizeLine_eq]; decide
theorem op_add_str : OpR X (binaryOp .Add) (fun x y H Q => ∃ i j, x = .str i ∧ y = .str j ∧ i.length + j.length ≤ sizeLine ∧ Q (.str (i ++ j)) H) := by
  intro pins s σ H x y v u Q I rx ry h
  obtain ⟨i, j, rfl, rfl, hz, q⟩ := h
  obtain ⟨t, rfl⟩ := rx
  obtain ⟨t', rfl⟩ := ry
  exact add_str (fun t' tk => ⟨.str (i ++ j), H, I.tok _, ⟨_, rfl⟩, q⟩) hz
theorem vals1 {x : V} {us : List Value} (r : Vals [x] us) : ∃ u, us = [u] ∧ RelV x u := by
  cases r with
  | cons r1 r2 => cases r2; exact ⟨_, rfl, r1⟩
theorem vals2 {x y : V} {us : List Value} (r : Vals [x, y] us) : ∃ u w', us = [u, w'] ∧ RelV x u ∧ RelV y w' := by
  cases r with
  | cons r1 r2 =>
    cases r2 with
    | cons r3 r4 => cases r4; exact ⟨_, _, rfl, r1, r3⟩
theorem call_str_int : CallR X (.type "str") (fun xs H Q => ∃ i, xs = [.int i] ∧ i.natAbs.log2 < 1920 ∧ Q (.str (toString i)) H) := by
  intro pins s σ H xs us Q I r h
  obtain ⟨i, rfl, hz, q⟩ := h
  obtain ⟨u, rfl, t, rfl⟩ := vals1 r
  exact PySem.P.str_of_int hz ⟨.str _, H, I.tok _, ⟨_, rfl⟩, q⟩
end
end L2
namespace L2
open PySem PySem.Spec PyProof.Rows
structure ObjM (h : Heap) (x dx C : Addr) (mA : Str → Option Value) : Prop where
  obj : h.get? x = some (PySem.W.instObj C dx)
  ns : h.Ns1 dx mA
  ne : dx ≠ x
theorem lookIn_ns {h : Heap} {dx : Addr} {mA : Str → Option Value} (n : h.Ns1 dx mA) : ∃ od, h.get? dx = some od ∧ ∀ name, PySem.W.lookIn name od = some (mA name) := by
  obtain ⟨o, es, ep, ho, hd, hk, _, hm⟩ := n
  refine ⟨o, ho, fun name => ?_⟩
  have e := hm name
  unfold nsFind findBy at e
  rw [← Array.find?_toList] at e
  unfold PySem.W.lookIn
  rw [hd]
  dsimp only
  split
  · rename_i y q
    rw [q] at e
    exact congrArg some e
  · rename_i q
    rw [q] at e
    have a : es.toList.any (·.refKey) = false := by
      rw [List.any_eq_false]
      intro y hy
      obtain ⟨z, t, hkey⟩ := hk y (Array.mem_toList_iff.mp hy)
      simp [DictEntry.refKey, hkey]
    have a' : ¬ es.toList.any (·.refKey) = true := by rw [a]; exact Bool.false_ne_true
    rw [if_neg a']
    exact congrArg some e
theorem ObjM.look {h : Heap} {x dx C : Addr} {mA : Str → Option Value} (I : ObjM h x dx C mA) : ∃ od, PySem.W.InstAt h x (PySem.W.instObj C dx) C (some od) ∧ ∀ name, PySem.W.lookIn name od = some (mA name) :=
  let ⟨od, ho, hl⟩ := lookIn_ns I.ns
  ⟨od, ⟨I.obj, rfl, rfl, ho⟩, hl⟩
section
variable {prog : Program} {w : World} {A : Around} {E : Value → Shared → Prop} {s : Shared} {K : PySem.W.Frag} {x dx C f : Addr} {mA : Str → Option Value} {name : Str} {v : Value}
end
section
variable {P : Program} {w : World} {H H' : Hp} {h h' : Heap} {a C dx : Addr} {fs fs' : List (Str × V)}
theorem ins_get (hok : HOk P w H h) (e : H a = some (.ins C dx fs)) : ∃ mA, ObjM h a dx C mA ∧ (∀ f, RelO (fs.lookup f) (mA f)) ∧ PySem.Within mA (fs.map (·.1)) ∧ fs.length ≤ 1000 ∧ H dx = some (.own a) := by
  obtain ⟨d, z, ne, ob, mA, n, r, q⟩ := (show ObjOk P w H h a (.ins C dx fs) from hok a _ e)
  exact ⟨mA, ⟨ob, n, ne⟩, r, q, z, d⟩
end
structure Cls (K : PySem.W.Frag) (C : Addr) : Prop where
  pg : PySem.W.plainGet K C Str.empty = true
  hd : PySem.W.hasDictIn K C = true
  po : PySem.W.plainOver K C = true
  sa : PySem.W.findIn K (.ref C) "__setattr__" = some (some (.builtin "object.__setattr__"))
theorem Cls.get {K : PySem.W.Frag} {C : Addr} (c : Cls K C) (f : Str) : PySem.W.plainGet K C f = true := c.pg
section
variable {X : Cx} {pins : List (Addr × Obj)} {σ : St} {H : Hp} {s : Shared} {a C dx : Addr} {fs : List (Str × V)} {f : Str} {v : V} {A : Around} {E : Value → Shared → Prop}
theorem attr_of {prog : Program} {w : World} {env : Env} {e : Expr} {f : Str} {pos : Pos} {s : Shared} {Q : Value → Shared → Prop} (hb : attributeBase e f env (eval e env) = eval e env)
    (h : wpAny (model prog w) A (eval e env) (fun o s₁ => wpAny (model prog w) A (getAttr o f true) Q E s₁) E s) : wpAny (model prog w) A (eval (.Attribute e f pos) env) Q E s :=
  Attribute_any_ h (by rw [arm_eval_Attribute, hb])
end
section
variable {X : Cx} {o e value : Expr} {f : Str} {pos pos' tpos : Pos} {ta tv : TE}
end
section
variable {X : Cx} {pins : List (Addr × Obj)} {σ : St} {H : Hp} {s : Shared} {A : Around} {E : Value → Shared → Prop} {Q : Value → Shared → Prop} {c : Value} {b : Bool}
inductive TyOf (K : PySem.W.Frag) (H : Hp) : V → Value → Prop where
  | non : TyOf K H .non (.type "NoneType")
  | bl (x : Bool) : TyOf K H (.bl x) (.type "bool")
  | int (i : Int) : TyOf K H (.int i) (.type "int")
  | str (x : Str) : TyOf K H (.str x) (.type "str")
  | flt (x : UInt64) : TyOf K H (.flt x) (.type "float")
  | lst {a : Addr} {xs : List V} (e : H a = some (.lst xs)) : TyOf K H (.ref a) (.type "list")
  | frz {a : Addr} {o : Obj} {xs : List V} (e : H a = some (.frz o (.lst xs))) : TyOf K H (.ref a) (.type "list")
  | tup {a : Addr} {xs : List V} (e : H a = some (.tup xs)) : TyOf K H (.ref a) (.type "tuple")
  | dK {a : Addr} {kvs : List (Key × V)} (e : H a = some (.dK kvs)) : TyOf K H (.ref a) (.type "dict")
  | dT {a : Addr} {kvs : List (List Key × V)} (e : H a = some (.dT kvs)) : TyOf K H (.ref a) (.type "dict")
  | ins {a C dx : Addr} {fs : List (Str × V)} (e : H a = some (.ins C dx fs)) (cl : Cls K C) (ha : PySem.W.findIn K (.ref C) "__class__" = some (some (.builtin "object.__class__")))
      (hn : PySem.W.specialIn K (.builtin "object.__class__") "__get__" = some (some (.builtin "getset_descriptor.__get__"))) (htk : PySem.W.takesIn K (.builtin "object.__class__") = some true)
      (hm : PySem.W.mroIn K C (.type "object") = some true) : TyOf K H (.ref a) (.ref C)
theorem isinst_ok {x : V} {u t : Value} (I : Inv X pins σ H s) (rx : RelV x u) (ty : TyOf X.K H x t) (e : PySem.W.kitOne X.K t c = some b) (h : ∀ tk, Q (.bool b) { s with toks := tk }) :
    wpAny (model X.prog X.w) A (call (.builtin "isinstance") [u, c]) Q E s := by
  cases ty with
  | non => cases (show u = Value.none from rx); exact PySem.W.kia_one PySem.W.kitx_none I.kIn True.intro e (fun z => nomatch z) h
  | bl y => cases (show u = Value.bool y from rx); exact PySem.W.kia_one PySem.W.kitx_bool I.kIn True.intro e (fun z => nomatch z) h
  | int i => obtain ⟨t, q⟩ := (show ∃ t, u = Value.int i t from rx); cases q; exact PySem.W.kia_one PySem.W.kitx_int I.kIn True.intro e (fun z => nomatch z) h
  | str y => obtain ⟨t, q⟩ := (show ∃ t, u = Value.str y t from rx); cases q; exact PySem.W.kia_one PySem.W.kitx_str I.kIn True.intro e (fun z => nomatch z) h
  | flt y => obtain ⟨t, q⟩ := (show ∃ t, u = Value.float y t from rx); cases q; exact PySem.W.kia_one PySem.W.kitx_float I.kIn True.intro e (fun z => nomatch z) h
  | @lst a xs ea =>
    cases (show u = Value.ref a from rx)
    obtain ⟨_, _, n, _, h1⟩ := (show ObjOk X.prog X.w H s.heap a (.lst xs) from I.hok a _ ea)
    exact PySem.W.kia_one PySem.W.kitx_list I.kIn ⟨_, h1, rfl⟩ e (fun z => nomatch z) h
  | @frz a ob xs ea =>
    cases (show u = Value.ref a from rx)
    obtain ⟨_, _, _, n, _, h1⟩ := (show ObjOk X.prog X.w H s.heap a (.frz ob (.lst xs)) from I.hok a _ ea)
    exact PySem.W.kia_one PySem.W.kitx_list I.kIn ⟨_, h1, rfl⟩ e (fun z => nomatch z) h
  | @tup a xs ea =>
    cases (show u = Value.ref a from rx)
    obtain ⟨_, _, _, p⟩ := (show ObjOk X.prog X.w H s.heap a (.tup xs) from I.hok a _ ea)
    obtain ⟨o, h1, h2, _⟩ := p
    exact PySem.W.kia_one PySem.W.kitx_tuple I.kIn ⟨o, h1, h2⟩ e (fun z => nomatch z) h
  | @dK a kvs ea =>
    cases (show u = Value.ref a from rx)
    obtain ⟨_, _, vs, _, p⟩ := (show ObjOk X.prog X.w H s.heap a (.dK kvs) from I.hok a _ ea)
    obtain ⟨o, es, ep, h1, h2, _⟩ := p
    exact PySem.W.kia_one PySem.W.kitx_dict I.kIn ⟨o, h1, h2.1⟩ e (fun z => nomatch z) h
  | @dT a kvs ea =>
    cases (show u = Value.ref a from rx)
    obtain ⟨_, _, xs, _, o, es, ep, h1, h2, _⟩ := (show ObjOk X.prog X.w H s.heap a (.dT kvs) from I.hok a _ ea)
    exact PySem.W.kia_one PySem.W.kitx_dict I.kIn ⟨o, h1, h2.1⟩ e (fun z => nomatch z) h
  | @ins a C dx fs ea cl ha hn htk hm =>
    cases (show u = Value.ref a from rx)
    obtain ⟨mA, O, _⟩ := ins_get I.hok ea
    obtain ⟨od, J, _⟩ := O.look
    exact PySem.W.kia_one (PySem.W.kitx_own (cl.get _) cl.hd ha hn htk hm) I.kIn J e (fun z => nomatch z) h
end
end L2
namespace L2
open PySem PySem.Spec PyProof.Rows
structure Room (k : Nat) (A : Around) : Prop where
  hd : A.handled = none
  dp : A.depth + 3 * k + 5 < recursionLimit
  un : A.units + 16 * k + 200 < cLine
theorem Room.mono {j k : Nat} {A : Around} (r : Room k A) (h : j ≤ k) : Room j A := ⟨r.hd, by have := r.dp; omega, by have := r.un; omega⟩
theorem Room.deeper {k : Nat} {A : Around} (r : Room (k + 1) A) (env : Env) : Room k (A.deeper env) :=
  ⟨r.hd, by have := r.dp; show A.depth + 1 + 3 * k + 5 < _; omega, by have := r.un; show A.units + 3 + 16 * k + 200 < _; omega⟩
theorem make_depth {A : Around} {C : Addr} {us : List Value} {kw : List (Str × Value)} : (A.under (.builtin "type.__call__" ⟨.ref C :: us, kw⟩)).depth = A.depth + 1 := by
  first | rfl | simp [Around.under, Code.weight, Code.isCreation, Code.isGuard, Code.isCaller, Code.frames, Code.isFrame, guardIds]
theorem make_units {A : Around} {C : Addr} {us : List Value} {kw : List (Str × Value)} : (A.under (.builtin "type.__call__" ⟨.ref C :: us, kw⟩)).units = A.units + 1 := by
  first | rfl | simp [Around.under, Code.cUnits, Code.frames, Code.isFrame]
theorem Room.make {k : Nat} {A : Around} (r : Room (k + 1) A) (C : Addr) (us : List Value) (kw : List (Str × Value)) : Room k (A.under (.builtin "type.__call__" ⟨.ref C :: us, kw⟩)) :=
  ⟨r.hd, by have := r.dp; rw [make_depth]; omega, by have := r.un; rw [make_units]; omega⟩
theorem Room.depth {k : Nat} {A : Around} (r : Room k A) : A.depth < recursionLimit := by have := r.dp; omega
theorem Room.units {k : Nat} {A : Around} (r : Room k A) : A.units + 64 < cLine := by have := r.un; omega
noncomputable def tNil : TA := fun _ H Q => Q [] H
noncomputable def tCons (ta : TE) (tr : TA) : TA := fun σ H Q => ta σ H fun x H1 => tr σ H1 fun xs H2 => Q (x :: xs) H2
section
variable {X : Cx} {e : Expr} {es : List Expr} {te : TE} {t : TA} {pos : Pos}
theorem pa_nil : PA X [] tNil := fun _ _ _ _ H Q I h => Calls.spliced_nil ⟨[], H, I, .nil, h⟩
theorem pa_cons (ha : PE X e te) (hr : PA X es t) (hs : starEach (e :: es) X.env = (false, eval e X.env) :: starEach es X.env := by rfl) : PA X (e :: es) (tCons te t) := by
  intro pos pins s σ H Q I h
  rw [hs]
  show wpAny _ _ (spliced ((false, eval e X.env) :: backTo pos (starEach es X.env))) _ _ s
  refine Calls.spliced_cons (thn (ha pins s σ H _ I h) fun u s1 ⟨x, H1, I1, r1, q1⟩ => ?_)
  exact thn (hr pos pins s1 σ H1 _ I1 q1) fun us s2 ⟨xs, H2, I2, r2, q2⟩ => ⟨x :: xs, H2, I2, .cons r1 r2, q2⟩
noncomputable def tTup (t : TA) : TE := fun σ H Q => t σ H fun xs H1 => xs.length ≤ sizeLine ∧ ∀ p, H1 p = none → Q (.ref p) (upd H1 p (.tup xs))
noncomputable def tLst (t : TA) : TE := fun σ H Q => t σ H fun xs H1 => xs.length ≤ sizeLine ∧ ∀ p, H1 p = none → Q (.ref p) (upd H1 p (.lst xs))
theorem pe_tup {x1} (h : PA X es t) : PE X (.Tuple es x1 pos) (tTup t) := by
  intro pins s σ H Q I hq
  refine wpAny_Tuple_spliced (thn (h pos pins s σ H _ I hq) fun us s1 ⟨xs, H1, I1, r, z, q⟩ => ⟨by rw [← r.length]; exact z, ?_⟩)
  have hf : H1 s1.heap.objs.size = none := I1.hok.fresh (Nat.le_refl _)
  refine ⟨.ref s1.heap.objs.size, upd H1 s1.heap.objs.size (.tup xs), I1.laid (t' := s1.toks) (fun b u e => Heap.get?_push_of_some _ e) (Nat.le_refl _) ?_, rfl, q _ hf⟩
  exact ⟨z, us, r, ⟨_, Heap.get?_push_size _ rfl, rfl, _, rfl⟩⟩
theorem pe_lst (h : PA X es t) : PE X (.List es pos) (tLst t) := by
  intro pins s σ H Q I hq
  refine wpAny_List_spliced (thn (h pos pins s σ H _ I hq) fun us s1 ⟨xs, H1, I1, r, z, q⟩ => ⟨by rw [← r.length]; exact z, ?_⟩)
  have hf : H1 s1.heap.objs.size = none := I1.hok.fresh (Nat.le_refl _)
  refine ⟨.ref s1.heap.objs.size, upd H1 s1.heap.objs.size (.lst xs), I1.laid (t' := s1.toks) (fun b u e => Heap.get?_push_of_some _ e) (Nat.le_refl _) ?_, rfl, q _ hf⟩
  exact ⟨z, us, 0, r, Heap.get?_push_size _ rfl⟩
end
noncomputable abbrev Sp := List V → Hp → VK → XK → Prop
noncomputable abbrev CXT := List Env → Hp → Shared → XK → Value → Shared → Prop
structure Env0 (P : Program) (w : World) (K : PySem.W.Frag) (mg : Str → Option Value) (base : Heap) (A : Around) (outer : List Env) (s : Shared) (H : Hp) : Prop where
  frames : A.frames = some outer
  mod : Mod K mg base
  bs : ∀ b o, base.get? b = some o → s.heap.get? b = some o ∧ H b = none
  bsz : base.objs.size ≤ s.heap.objs.size
  funs : s.heap.FunFrames base outer
  frf : ∀ b ∈ frs outer, H b = none
  hok : HOk P w H s.heap
  bare : AllBare s.gens
noncomputable def CE (outer : List Env) (P : Program) (w : World) (H : Hp) (s : Shared) (Q : VK) (u : Value) (s' : Shared) : Prop :=
  ∃ v H', s'.os = s.os ∧ AllBare s'.gens ∧ Un (frs outer) [] H H' s.heap s'.heap ∧ HOk P w H' s'.heap ∧ RelV v u ∧ Q v H'
noncomputable def CR (CX : CXT) (outer : List Env) (P : Program) (w : World) (H : Hp) (s : Shared) (Q : VK) (E : XK) (r : Result) (s' : Shared) : Prop :=
  match r with
  | .ok (.ret u) => CE outer P w H s Q u s'
  | .ok _ => False
  | .error e => CX outer H s E e s'
structure FnOk (P : Program) (w : World) (K : PySem.W.Frag) (mg : Str → Option Value) (base : Heap) (CX : CXT) (k : Nat) (f : Addr) (fd : FuncData) (ps : List Str) (sp : Sp) : Prop where
  len : ∀ vs H Q E, sp vs H Q E → vs.length = ps.length
  run : ∀ (A : Around) (outer : List Env) (s : Shared) (H : Hp) (args : Args) (us : List Value) (vs : List V) (Q : VK) (E : XK), Room k A → Env0 P w K mg base A outer s H → BindsTo s fd args (ps.zip us) → Vals vs us → sp vs H Q E →
    codeAny (model P w) A (.call (.ref f) args) (CR CX outer P w H s Q E) s
theorem Env0.make {P : Program} {w : World} {K : PySem.W.Frag} {mg : Str → Option Value} {base : Heap} {A : Around} {outer : List Env} {s : Shared} {H : Hp} (e : Env0 P w K mg base A outer s H) (C : Addr) (us : List Value) (kw : List (Str × Value)) :
    Env0 P w K mg base (A.under (.builtin "type.__call__" ⟨.ref C :: us, kw⟩)) outer s H := ⟨by first | exact e.frames | (simpa [Around.under, Code.envs, Code.isFrame, pushEnvs] using e.frames), e.mod, e.bs, e.bsz, e.funs, e.frf, e.hok, e.bare⟩
section
variable {X : Cx} {pins : List (Addr × Obj)} {σ : St} {H : Hp} {s s' : Shared}
theorem Inv.env0 (I : Inv X pins σ H s) : Env0 X.prog X.w X.K X.mg X.base X.A X.stack s H :=
  ⟨I.ok.frames, I.ok.mod, I.bs, Nat.le_trans I.ok.bsz I.sz, I.stack, I.stkFree, I.hok, I.bare⟩
theorem Inv.after {Q : VK} {u : Value} (I : Inv X pins σ H s) (h : CE X.stack X.prog X.w H s Q u s') : EP X pins σ Q u s' := by
  obtain ⟨v, H', os, bare, un, hok, r, q⟩ := h
  obtain ⟨hh, g, d, t, os'⟩ := s'
  obtain rfl : os' = s.os := os
  exact ⟨v, H', I.call (h' := hh) (g' := g) (d' := d) (t' := t) (ch := []) un hok bare (fun b z => absurd z (by simp)), r, q⟩
end
noncomputable def tCall (sp : Sp) (dvs : List V) (E : XK) (t : TA) : TE := fun σ H Q => t σ H fun vs H1 => sp (vs ++ dvs) H1 Q E
noncomputable def Binds (K : PySem.W.Frag) (fd : FuncData) (ps : List Str) (ds : List Value) : Prop :=
  ∀ (s : Shared) (us : List Value), K.In s.heap → (us ++ ds).length = ps.length → BindsTo s fd ⟨us, []⟩ (ps.zip (us ++ ds))
theorem Binds.all {K : PySem.W.Frag} {fd : FuncData} {ps : List Str} (h : ∀ us : List Value, us.length = ps.length → bindArgs fd ⟨us, []⟩ = pure (ps.zip us)) : Binds K fd ps [] := fun s us _ hl => by
  rw [List.append_nil] at hl ⊢
  exact .of_eq (h us hl)
noncomputable def Passes (CX : CXT) (X : Cx) (E : XK) : Prop := ∀ (pins : List (Addr × Obj)) (σ : St) (H : Hp) (s : Shared) (e : Value) (s' : Shared), Inv X pins σ H s → CX X.stack H s E e s' → X.xe e s'
section
variable {X : Cx} {CX : CXT} {k : Nat} {f C : Addr} {fd : FuncData} {ps : List Str} {sp : Sp} {dvs : List V} {ds : List Value} {E : XK} {x m : Str} {p pos apos : Pos} {e o : Expr} {es : List Expr} {ta : TE} {t : TA}
theorem run_fn {pins : List (Addr × Obj)} {σ : St} {H : Hp} {s : Shared} {Q : VK} {us : List Value} {vs : List V} (F : FnOk X.prog X.w X.K X.mg X.base CX k f fd ps sp) (hr : Room k X.A) (hb : Binds X.K fd ps ds) (hd : Vals dvs ds) (hx : Passes CX X E)
    (I : Inv X pins σ H s) (r : Vals vs us) (h : sp (vs ++ dvs) H Q E) : wpAny (model X.prog X.w) X.A (call (.ref f) us) (EP X pins σ Q) X.xe s := by
  have r2 : Vals (vs ++ dvs) (us ++ ds) := r.append hd
  have hl : (us ++ ds).length = ps.length := by rw [← r2.length]; exact F.len _ _ _ _ h
  refine wpAny_call (codeAny_mono (F.run X.A X.stack s H ⟨us, []⟩ (us ++ ds) (vs ++ dvs) Q E hr I.env0 (hb s us I.kIn hl) r2 h) fun r s' hq => ?_)
  cases r with
  | error e => exact hx pins σ H s e s' I hq
  | ok fl =>
    cases fl with
    | ret u => exact I.after hq
    | next => exact False.elim hq
    | brk => exact False.elim hq
    | cont => exact False.elim hq
theorem pe_call (F : FnOk X.prog X.w X.K X.mg X.base CX k f fd ps sp) (hr : Room k X.A) (hg : Gl X x) (hm : X.mg x = some (.ref f)) (hk : PySem.W.keepIn X.K (.ref f) = true) (hb : Binds X.K fd ps ds) (hd : Vals dvs ds) (hx : Passes CX X E)
    (ha : PA X (e :: es) t) (hdb : (x == ("__debug__" : Str)) = false := by decide) (he : starEach (e :: es) X.env = (false, eval e X.env) :: starEach es X.env := by rfl) (hpl : (backTo pos (starEach es X.env)).any (·.1) = false := by rfl) :
    PE X (.Call (.Name x p) (e :: es) [] pos) (tCall sp dvs E t) := by
  intro pins s σ H Q I h
  refine wpAny_Call_Name_kw (ld_glob I hg hm ?_ hdb)
  refine PySem.W.callWith_K (h₀ := X.base) I.ok.mod.kin hk (thn (ha pos pins s σ H _ I h) fun us s1 ⟨vs, H1, I1, r, q⟩ => ⟨I1.kIn, ?_⟩) he hpl
  exact run_fn F hr hb hd hx I1 r q
end
section
variable {X : Cx} {CX : CXT} {k : Nat} {f C : Addr} {fd : FuncData} {ps ks : List Str} {sp : Sp} {E : XK} {x m : Str} {p pos apos kpos : Pos} {e o : Expr} {es : List Expr} {kws : List Keyword} {te ta : TE} {t tk : TA} {nm : Option Str}
variable {g : List Value → List Value → List Value} {gV : List V → List V → List V}
end
structure FnScope (N P : List Str) (sc : Scope) : Prop where
  kind : sc.kind = .function
  co : sc.isCoroutine = false
  gen : sc.isGenerator = false
  nd : N.Nodup
  pre : N.take P.length = P
  par : ∀ x ∈ P, sc.names.lookup x = some .local ∨ sc.names.lookup x = some .cell
  nofree : ∀ y ∈ sc.names, y.2 ≠ .free
theorem bindL_out {kindOf : Str → Option NameKind} {x : Str} : ∀ {binds : List (Str × Value)} {m : Str → Option Value}, (∀ v, (x, v) ∉ binds) → bindL kindOf binds m x = m x
  | [], _, _ => rfl
  | (n, v) :: r, m, h => by
    unfold bindL
    rw [bindL_out fun w hw => h w (List.mem_cons_of_mem _ hw)]
    split
    · have : x ≠ n := by rintro rfl; exact h v List.mem_cons_self
      simp [this]
    · rfl
theorem bindC_out {kindOf : Str → Option NameKind} {x : Str} : ∀ {binds : List (Str × Value)} {m : Str → Option Value}, (∀ v, (x, v) ∉ binds) → bindC kindOf binds m x = m x
  | [], _, _ => rfl
  | (n, v) :: r, m, h => by
    unfold bindC
    rw [bindC_out fun w hw => h w (List.mem_cons_of_mem _ hw)]
    split
    · rfl
    · have : x ≠ n := by rintro rfl; exact h v List.mem_cons_self
      simp [this]
theorem bindL_get {kindOf : Str → Option NameKind} {x : Str} {v : Value} : ∀ {P : List Str} {vs : List Value} {i : Nat} {m : Str → Option Value}, P.Nodup → P[i]? = some x → vs[i]? = some v → kindOf x = some .local →
    bindL kindOf (P.zip vs) m x = some v
  | [], _, _, _, _, h, _, _ => by simp at h
  | _ :: _, [], _, _, _, _, h, _ => by simp at h
  | p :: P, w :: vs, 0, m, nd, h1, h2, hk => by
    simp at h1 h2; subst h1; subst h2
    show bindL kindOf ((p, w) :: P.zip vs) m p = _
    unfold bindL
    rw [bindL_out fun v hv => (List.nodup_cons.mp nd).1 (List.of_mem_zip hv).1, if_pos hk]
    simp
  | p :: P, w :: vs, i + 1, m, nd, h1, h2, hk => by
    show bindL kindOf ((p, w) :: P.zip vs) m x = _
    unfold bindL
    exact bindL_get (i := i) (List.nodup_cons.mp nd).2 (by simpa using h1) (by simpa using h2) hk
theorem bindC_get {kindOf : Str → Option NameKind} {x : Str} {v : Value} : ∀ {P : List Str} {vs : List Value} {i : Nat} {m : Str → Option Value}, P.Nodup → P[i]? = some x → vs[i]? = some v → kindOf x ≠ some .local →
    bindC kindOf (P.zip vs) m x = some v
  | [], _, _, _, _, h, _, _ => by simp at h
  | _ :: _, [], _, _, _, _, h, _ => by simp at h
  | p :: P, w :: vs, 0, m, nd, h1, h2, hk => by
    simp at h1 h2; subst h1; subst h2
    show bindC kindOf ((p, w) :: P.zip vs) m p = _
    unfold bindC
    rw [bindC_out fun v hv => (List.nodup_cons.mp nd).1 (List.of_mem_zip hv).1, if_neg hk]
    simp
  | p :: P, w :: vs, i + 1, m, nd, h1, h2, hk => by
    show bindC kindOf ((p, w) :: P.zip vs) m x = _
    unfold bindC
    exact bindC_get (i := i) (List.nodup_cons.mp nd).2 (by simpa using h1) (by simpa using h2) hk
noncomputable def start (N : List Str) (vs : List V) : St := vs.map some ++ List.replicate (N.length - vs.length) none
noncomputable def cxOf (CX : CXT) (P : Program) (w : World) (K : PySem.W.Frag) (mg : Str → Option Value) (base : Heap) (N : List Str) (qual : Str) (scope : Scope) (f : Addr) (cd : Value) (A : Around) (outer : List Env) (s : Shared) (H : Hp) (E : XK) : Cx where
  prog := P
  w := w
  K := K
  mg := mg
  base := base
  A := A.deeper (envOfC qual scope s.heap.objs.size f cd)
  N := N
  s₀ := s
  H₀ := H
  env := envOfC qual scope s.heap.objs.size f cd
  outer := outer
  stack := envOfC qual scope s.heap.objs.size f cd :: outer
  ex := []
  calm := true
  fn := fun _ => true
  pn := []
  xe := fun e s' => wpAny (model P w) (A.deeper (envOfC qual scope s.heap.objs.size f cd)) (leaving (envOfC qual scope s.heap.objs.size f cd) e) (fun _ s'' => CX outer H s E e s'') (fun e' s'' => CX outer H s E e' s'') s'
theorem cell_has {sc : Scope} {n : Nat} {x : Str} (h : sc.names.lookup x = some .cell) : ∃ c, (cellsFrom n sc.names []).lookup x = some c := by
  have q := PySem.W.cellsFrom_some sc.names n [] (.inl h)
  exact Option.isSome_iff_exists.mp q
theorem inv_start {CX : CXT} {P : Program} {w : World} {K : PySem.W.Frag} {mg : Str → Option Value} {base : Heap} {N ps : List Str} {qual : Str} {scope : Scope} {f : Addr} {cd : Value} {A : Around} {outer : List Env} {s s1 : Shared} {H : Hp} {E : XK} {us : List Value} {vs : List V}
    (S : FnScope N ps scope) (hd : A.handled = none) (e0 : Env0 P w K mg base A outer s H) (hl : vs.length = ps.length) (r : Vals vs us)
    (x : InCallC s s.heap.objs.size (bindL (envOfC qual scope s.heap.objs.size f cd).kindOf (ps.zip us) fun _ => none) (cellsFrom (s.heap.objs.size + 1) scope.names []) (bindC (envOfC qual scope s.heap.objs.size f cd).kindOf (ps.zip us) fun _ => none) s1) :
    Inv (cxOf CX P w K mg base N qual scope f cd A outer s H E) [] (start N vs) H s1 := by
  have hpl : ps.length ≤ N.length := by have := congrArg List.length S.pre; rw [List.length_take] at this; omega
  obtain ⟨h1, tk, rfl, hk⟩ := x.done
  have noA : ∀ b : Addr, b ∉ (cxOf CX P w K mg base N qual scope f cd A outer s H E).ex := fun b z => absurd (show b ∈ ([] : List Addr) from z) (by simp)
  refine ⟨⟨e0.mod, S.kind, rfl, rfl, Nat.le_refl _, fun y z c h1 h2 => ?_, fun y hy => ?_, fun y c _ h => ?_, fun _ => hd, Around.frames_deeper e0.frames, .inr ⟨rfl, rfl⟩, fun b z => absurd z (noA b), e0.bs, e0.bsz, fun b _ _ => noA b, fun b z => absurd z (noA b), e0.funs, e0.frf⟩,
    rfl, e0.bare, Un.kept hk, ⟨_, x.toInCall.ns, fun i y v h1 h2 h3 => ?_⟩, fun y c h => ⟨_, x.cell y c h⟩, e0.hok.fresh (Nat.le_refl _), fun y c h => ?_, fun p hp => absurd (show p ∈ ([] : List (Addr × Obj)) from hp) (by simp), e0.hok.kept hk, ?_⟩
  · exact name_of_addr x.apart (PySem.mem_of_lookup h1) (PySem.mem_of_lookup h2)
  · have hy : scope.names.lookup y = some .cell ∨ scope.names.lookup y = some .free := hy
    rcases hy with hy | hy
    · exact cell_has hy
    · exact absurd rfl (S.nofree _ (PySem.mem_of_lookup hy))
  · exact Nat.le_of_lt (x.above y c (PySem.mem_of_lookup h))
  · have hi : i < vs.length := by
      unfold start at h2
      by_cases hi : i < vs.length
      · exact hi
      · rw [List.getElem?_append_right (by simpa using hi)] at h2
        rw [List.getElem?_replicate] at h2
        split at h2 <;> cases h2
    have ha : vs[i]? = some v := by
      unfold start at h2
      rw [List.getElem?_append_left (by simpa using hi), List.getElem?_map] at h2
      cases e : vs[i]? with
      | none => rw [e] at h2; cases h2
      | some a => rw [e] at h2; cases h2; rfl
    obtain ⟨u, hu, rv⟩ := r.get ha
    have hp : ps[i]? = some y := by
      rw [← S.pre, List.getElem?_take_of_lt (by omega)]; exact h1
    have ndP : ps.Nodup := by rw [← S.pre]; exact S.nd.sublist (List.take_sublist _ _)
    refine ⟨u, rv, ?_⟩
    rcases S.par y (List.mem_of_getElem? hp) with k | k
    · exact .inl ⟨k, bindL_get ndP hp hu k⟩
    · obtain ⟨c, e⟩ := cell_has (n := s.heap.objs.size + 1) k
      refine .inr ⟨.inl k, c, e, ?_⟩
      have q := x.cell y c e
      rw [bindC_get ndP hp hu (by show scope.names.lookup y ≠ _; rw [k]; decide)] at q
      exact q
  · exact e0.hok.fresh (Nat.le_of_lt (x.above y c (PySem.mem_of_lookup h)))
  · unfold start
    show _ = N.length
    rw [List.length_append, List.length_map, List.length_replicate]
    omega
theorem fn_of {CX : CXT} {P : Program} {w : World} {K : PySem.W.Frag} {mg : Str → Option Value} {base : Heap} {k : Nat} {f : Addr} {name qual : Str} {params : Arguments} {body : List Stmt} {scope : Scope} {dV kV doc pm cdv ct oc : Value} {an od : Option Addr}
    {osl : Array (Option Value)} {N ps : List Str} {sp : Sp} (lk : K.lookup f = some ⟨oc, od, .func (PySem.W.fnOf name qual params body scope dV kV doc pm an cdv ct), osl⟩) (hcd : PySem.W.codeIn K cdv qual = true) (S : FnScope N ps scope)
    (len : ∀ vs H Q E, sp vs H Q E → vs.length = ps.length)
    (hbody : ∀ (A : Around) (outer : List Env) (s : Shared) (H : Hp) (vs : List V) (Q : VK) (E : XK), Room k (A.deeper (envOfC qual scope s.heap.objs.size f cdv)) → sp vs H Q E →
      ∃ t, PSs (cxOf CX P w K mg base N qual scope f cdv A outer s H E) body t ∧ t { nx := fun _ H' => Q .non H', rt := Q } (start N vs) H) :
    FnOk P w K mg base CX (k + 1) f (PySem.W.fnOf name qual params body scope dV kV doc pm an cdv ct) ps sp := by
  refine ⟨len, fun A outer s H args us vs Q E hr e0 hb r hsp => ?_⟩
  have hl := len _ _ _ _ hsp
  have KX : K.In s.heap := e0.mod.kin.keeps fun b o e => (e0.bs b o e).1
  have lim : s.heap.NoLimit := e0.mod.nolimit.keeps fun b o e => (e0.bs b o e).1
  have hkind : ∀ y ∈ ps.zip us, scope.names.lookup y.1 = some .local ∨ (scope.names.lookup y.1 = some .cell ∧ ((cellsFrom (s.heap.objs.size + 1) scope.names []).lookup y.1).isSome = true) := fun ⟨n, v⟩ hy => by
    rcases S.par n (List.of_mem_zip hy).1 with q | q
    · exact .inl q
    · exact .inr ⟨q, PySem.W.cellsFrom_some _ _ _ (.inl q)⟩
  refine codeAny_call_function hr.depth (KX _ _ lk) rfl S.co S.gen rfl (PySem.W.codeRec_of KX hcd) (hb _ _ _ _ ?_)
  refine wpAny_newFunctionEnv_cells S.kind hkind fun env he s1 x => ?_
  subst he
  refine ⟨lim.keeps x.toInCall.keep, codeAny_func ?_⟩
  obtain ⟨t, ht, hq⟩ := hbody A outer s H vs Q E (hr.deeper _) hsp
  have I : Inv (cxOf CX P w K mg base N qual scope f cdv A outer s H E) [] (start N vs) H s1 := inv_start S hr.hd e0 hl r x
  refine wpAny_mono (ht [] s1 (start N vs) H _ I hq) (fun fl s' hs => ?_) fun e s' hs => hs
  have fin : ∀ {σ' : St} {H' : Hp} {v : V} {u : Value}, Inv (cxOf CX P w K mg base N qual scope f cdv A outer s H E) [] σ' H' s' → RelV v u → Q v H' → CE outer P w H s Q u s' :=
    fun {σ' H' v u} J rv q => ⟨v, H', J.os, J.bare, J.base, J.hok, rv, q⟩
  cases fl with
  | ret u =>
    obtain ⟨v, σ', H', J, rv, q⟩ := hs
    exact fin J rv q
  | next =>
    obtain ⟨σ', H', J, q⟩ := hs
    exact fin (v := V.non) (u := Value.none) J rfl q
  | brk =>
    obtain ⟨_, _, _, q⟩ := hs
    exact False.elim q
  | cont =>
    obtain ⟨_, _, _, q⟩ := hs
    exact False.elim q
end L2
namespace L2
open PySem PySem.Spec PyProof.Rows
section
variable {X : Cx} {x : Str} {p pos : Pos} {e : Expr} {es : List Expr} {t : TA} {id T : String} {r : List V → Hp → VK → Prop}
noncomputable def tCB (r : List V → Hp → VK → Prop) (t : TA) : TE := fun σ H Q => t σ H fun vs H1 => r vs H1 Q
theorem pe_callB (hc : CallR X (.builtin id) r) (hg : Gl X x) (hm : X.mg x = none) (hv : bootBuiltins x = some (.builtin id)) (ha : PA X (e :: es) t) (hn : x ≠ "__name__" := by decide) (hdb : (x == ("__debug__" : Str)) = false := by decide)
    (he : starEach (e :: es) X.env = (false, eval e X.env) :: starEach es X.env := by rfl) (hpl : (backTo pos (starEach es X.env)).any (·.1) = false := by rfl) : PE X (.Call (.Name x p) (e :: es) [] pos) (tCB r t) := by
  intro pins s σ H Q I h
  refine wpAny_Call_Name_kw (ld_blt I hg hm hv ?_ hn hdb)
  exact PyProof.Rows.callWith_builtin1 (thn (ha pos pins s σ H _ I h) fun us s1 ⟨vs, H1, I1, r1, q1⟩ => hc pins s1 σ H1 vs us Q I1 r1 q1) he hpl
theorem pe_callTy (hc : CallR X (.type T) r) (hg : Gl X x) (hm : X.mg x = none) (hv : bootBuiltins x = some (.type T)) (ha : PA X (e :: es) t) (hn : x ≠ "__name__" := by decide) (hdb : (x == ("__debug__" : Str)) = false := by decide)
    (he : starEach (e :: es) X.env = (false, eval e X.env) :: starEach es X.env := by rfl) (hpl : (backTo pos (starEach es X.env)).any (·.1) = false := by rfl) : PE X (.Call (.Name x p) (e :: es) [] pos) (tCB r t) := by
  intro pins s σ H Q I h
  refine wpAny_Call_Name_kw (ld_blt I hg hm hv ?_ hn hdb)
  exact PyProof.Rows.callWith_type1 (thn (ha pos pins s σ H _ I h) fun us s1 ⟨vs, H1, I1, r1, q1⟩ => hc pins s1 σ H1 vs us Q I1 r1 q1) he hpl
end
end L2
namespace HT
open PySem PyProof.Rows
section
open PySem.SeqAt
open PySem.AutoSeq1 (wpAny_loadPart')
open PySem.MeetsSeq PySem.MeetsSeq2 PySem.MeetsSeq3
end
section
variable {prog : Program} {w : World} {A : Around} {E : Value → Shared → Prop} {s : Shared}
theorem cat_tup {t b : Addr} {vs ws : List Value} {Q : Value → Shared → Prop} (ht : IsTup s.heap t vs.toArray) (hb : IsTup s.heap b ws.toArray) (hv : vs ≠ [])
    (h1 : ws = [] → Q (.ref t) s) (h2 : ws ≠ [] → Q (.ref s.heap.objs.size) { s with heap := s.heap.push { cls := .type "tuple", data := .seq (vs ++ ws).toArray } })
    (hsz : vs.length + ws.length ≤ sizeLine) : wpAny (model prog w) A (binaryOp .Add (.ref t) (.ref b)) Q E s := by
  obtain ⟨⟨cls, dd, data, sl⟩, ho, hc, n, hd⟩ := id ht
  obtain ⟨⟨cls2, dd2, data2, sl2⟩, ho2, hc2, n2, hd2⟩ := id hb
  simp only at hc hd hc2 hd2
  subst hc hd hc2 hd2
  have e : vs.toArray ++ ws.toArray = (vs ++ ws).toArray := by simp
  by_cases hw : ws = []
  · exact concat_meets ⟨_, ho, rfl⟩ ⟨_, ho2, rfl⟩ noFill_tuple_add seq_tuple_add PySem.F.slot_tuple_add PySem.F.entry_tuple_add (PySem.F.args_tuple_add_2 _ _)
      (tuple_addW1 t b vs.toArray ws.toArray n n2 dd dd2 sl sl2 (by simpa using hv) (by simp [hw])) ⟨ho, ho2, h1 hw⟩
  · refine concat_meets ⟨_, ho, rfl⟩ ⟨_, ho2, rfl⟩ noFill_tuple_add seq_tuple_add PySem.F.slot_tuple_add PySem.F.entry_tuple_add (PySem.F.args_tuple_add_2 _ _)
      (tuple_addW2 t b vs.toArray ws.toArray n n2 dd dd2 sl sl2 (by simpa using hv) (by simpa using hw) (by rw [List.size_toArray, List.size_toArray]; exact hsz)) ⟨ho, ho2, ?_⟩
    rw [e]
    exact h2 hw
noncomputable def sIx (n d : Nat) : Option Int → Nat
  | none => d
  | some v => if v < 0 then (v + (n : Int)).toNat else min v.toNat n
theorem sIx_none (n d : Nat) : sIx n d none = d := rfl
theorem sIx_nat (n d k : Nat) : sIx n d (some (k : Int)) = min k n := by
  show (if (k : Int) < 0 then ((k : Int) + (n : Int)).toNat else min (k : Int).toNat n) = min k n
  rw [if_neg (by omega), Int.toNat_natCast]
end
end HT
namespace L2
open PySem PySem.Spec PyProof.Rows
noncomputable abbrev TO := St → Hp → (Option Int → Hp → Prop) → Prop
noncomputable def PO (X : Cx) (e : Option Expr) (t : TO) : Prop :=
  ∀ (pins : List (Addr × Obj)) (s : Shared) (σ : St) (H : Hp) (Q : Option Int → Hp → Prop), Inv X pins σ H s → t σ H Q →
    wpAny (model X.prog X.w) X.A (evalPart e X.env) (fun u s' => ∃ o H', Inv X pins σ H' s' ∧ IsPart u o ∧ Q o H') X.xe s
noncomputable def tNoPart : TO := fun _ H Q => Q none H
noncomputable def tPart (t : TE) : TO := fun σ H Q => t σ H fun x H1 => ∃ i, x = .int i ∧ Q (some i) H1
section
variable {X : Cx} {e : Expr} {te : TE} {lo hi : Option Expr} {tl th : TO} {pos p2 : Pos}
theorem po_none : PO X none tNoPart := by
  intro pins s σ H Q I h
  rw [evalPart_none]
  exact wpAny_pure ⟨none, H, I, .none, h⟩
theorem po_some (h : PE X e te) : PO X (some e) (tPart te) := by
  intro pins s σ H Q I hw
  rw [evalPart_some]
  refine thn (h pins s σ H _ I hw) fun u s1 ⟨x, H1, I1, r1, q1⟩ => ?_
  obtain ⟨i, rfl, q⟩ := q1
  obtain ⟨t, rfl⟩ := r1
  exact ⟨some i, H1, I1, .int i t, q⟩
noncomputable def SlR (X : Cx) (r : V → Option Int → Option Int → Hp → VK → Prop) : Prop :=
  ∀ (pins : List (Addr × Obj)) (s : Shared) (σ : St) (H : Hp) (x : V) (v vl vu : Value) (lo hi : Option Int) (sl : Addr) (Q : VK), Inv X pins σ H s → RelV x v → s.heap.IsSliceOf sl vl vu .none → IsPart vl lo → IsPart vu hi → r x lo hi H Q →
    ∃ T id, typeLookup (.type T) "__getitem__" = pure (some (.builtin id)) ∧ s.TypeIs v T ∧ wpAny (model X.prog X.w) X.A (getItem v (.ref sl)) (EP X pins σ Q) X.xe s
noncomputable def tSl (r : V → Option Int → Option Int → Hp → VK → Prop) (te : TE) (tl th : TO) : TE := fun σ H Q => te σ H fun x H1 => tl σ H1 fun l H2 => th σ H2 fun u H3 => r x l u H3 Q
theorem pe_slice {r : V → Option Int → Option Int → Hp → VK → Prop} (hr : SlR X r) (he : PE X e te) (hl : PO X lo tl) (hu : PO X hi th) : PE X (.Subscript e (.Slice lo hi none p2) pos) (tSl r te tl th) := by
  intro pins s σ H Q I h
  refine Subscript_ (thn (he pins s σ H _ I h) fun v s1 ⟨x, H1, I1, r1, q1⟩ => ?_)
  refine wpAny_Slice (thn (hl pins s1 σ H1 _ I1 q1) fun vl s2 ⟨l, H2, I2, pl, q2⟩ => thn (hu pins s2 σ H2 _ I2 q2) fun vu s3 ⟨u, H3, I3, pu, q3⟩ => ?_)
  rw [evalPart_none]
  refine wpAny_pure ?_
  have I4 : Inv X pins σ H3 { s3 with heap := s3.heap.push { cls := .type "slice", data := .fields #[vl, vu, .none] } } := I3.kept (t' := s3.toks) fun b ob q => Heap.get?_push_of_some _ q
  obtain ⟨T, id, hT, ht, hg⟩ := hr pins { s3 with heap := s3.heap.push { cls := .type "slice", data := .fields #[vl, vu, .none] } } σ H3 x v vl vu l u s3.heap.objs.size Q I4 r1 (Heap.IsSliceOf.new ..) pl pu q3
  show wpAny (model X.prog X.w) X.A (subscriptTail e (.Slice lo hi none p2) v (.ref s3.heap.objs.size)) (EP X pins σ Q) X.xe { s3 with heap := s3.heap.push { cls := .type "slice", data := .fields #[vl, vu, .none] } }
  exact tail_any (ops := [.ref s3.heap.objs.size, v]) ht hT hg (by with_unfolding_all rfl)
noncomputable def cutV (xs : List V) (lo hi : Option Int) : List V := (xs.drop (HT.sIx xs.length 0 lo)).take (HT.sIx xs.length xs.length hi - HT.sIx xs.length 0 lo)
theorem cutV_length (xs : List V) (lo hi : Option Int) : (cutV xs lo hi).length ≤ xs.length := by
  unfold cutV
  rw [List.length_take, List.length_drop]
  omega
noncomputable def rCatT (K : PySem.W.Frag) : R2 := fun x y H Q => ∃ a b xs ys, x = .ref a ∧ y = .ref b ∧ SqT K H a xs ∧ SqT K H b ys ∧ xs ≠ [] ∧ xs.length + ys.length ≤ sizeLine ∧
  (ys = [] → Q (.ref a) H) ∧ (ys ≠ [] → ∀ p, H p = none → Q (.ref p) (upd H p (.tup (xs ++ ys))))
theorem Vals.nil_iff {xs : List V} {us : List Value} (r : Vals xs us) : us = [] ↔ xs = [] := by
  cases r with
  | nil => simp
  | cons _ _ => simp
theorem op_catT : OpR X (binaryOp .Add) (rCatT X.K) := by
  intro pins s σ H x y v u Q I rx ry h
  obtain ⟨a, b, xs, ys, rfl, rfl, ha, hb, hx, hz, q1, q2⟩ := h
  cases rx
  cases ry
  obtain ⟨its, r1, p1, _⟩ := I.tuple ha
  obtain ⟨its2, r2, p2, _⟩ := I.tuple hb
  refine HT.cat_tup p1 p2 (fun z => hx (r1.nil_iff.mp z)) (fun z => ⟨.ref a, H, I, rfl, q1 (r2.nil_iff.mp z)⟩) (fun z => ?_) (by rw [← r1.length, ← r2.length]; exact hz)
  refine ⟨.ref s.heap.objs.size, _, I.laid (t' := s.toks) (o := .tup (xs ++ ys)) (fun b ob q => Heap.get?_push_of_some _ q) (Nat.le_refl _) ?_, rfl, q2 (fun w => z (r2.nil_iff.mpr w)) _ (I.hok.fresh (Nat.le_refl _))⟩
  exact ⟨by rw [List.length_append]; exact hz, _, r1.append r2, IsTup.new _ _⟩
end
end L2
namespace L2
open PySem PySem.Spec PyProof.Rows
noncomputable def ixN (n : Nat) (i : Int) : Option Nat := if 0 ≤ i then (if i < n then some i.toNat else none) else if -(n : Int) ≤ i then some (i + n).toNat else none
noncomputable def atI {α : Type} (xs : List α) (i : Int) : Option α := (ixN xs.length i).bind fun j => xs[j]?
theorem ixN_seq {n : Nat} {i : Int} {j : Nat} (h : ixN n i = some j) : seqIndex? i n = some j ∧ j < n ∧ -(n : Int) ≤ i ∧ i < n := by
  unfold ixN at h
  by_cases h0 : 0 ≤ i
  · rw [if_pos h0] at h
    by_cases h1 : i < n
    · rw [if_pos h1] at h
      have e : i.toNat = j := Option.some.inj h
      exact ⟨by rw [seqIndex_of h0 h1, e], by omega, by omega, h1⟩
    · rw [if_neg h1] at h; cases h
  · rw [if_neg h0] at h
    by_cases h1 : -(n : Int) ≤ i
    · rw [if_pos h1] at h
      have e : (i + n).toNat = j := Option.some.inj h
      exact ⟨by rw [seqIndex_neg (by omega) h1, e], by omega, h1, by omega⟩
    · rw [if_neg h1] at h; cases h
theorem atI_get {α : Type} {xs : List α} {i : Int} {v : α} (h : atI xs i = some v) : ∃ j, seqIndex? i xs.length = some j ∧ xs[j]? = some v ∧ j < xs.length ∧ -(xs.length : Int) ≤ i ∧ i < xs.length := by
  unfold atI at h
  cases e : ixN xs.length i with
  | none => rw [e] at h; cases h
  | some j =>
    rw [e] at h
    obtain ⟨h1, h2, h3, h4⟩ := ixN_seq e
    exact ⟨j, h1, h, h2, h3, h4⟩
theorem atI_nat {α : Type} {xs : List α} {j : Nat} {v : α} (h : xs[j]? = some v) : atI xs (j : Int) = some v := by
  have hj : j < xs.length := (List.getElem?_eq_some_iff.mp h).1
  have e : ixN xs.length (j : Int) = some j := by
    unfold ixN
    rw [if_pos (by omega), if_pos (by omega)]; simp
  unfold atI; rw [e]; exact h
theorem atI_last {α : Type} (xs : List α) (v : α) : atI (xs ++ [v]) (-1) = some v := by
  have hl : (xs ++ [v]).length = xs.length + 1 := by simp
  have e : ixN (xs ++ [v]).length (-1) = some xs.length := by
    unfold ixN
    rw [hl, if_neg (by decide), if_pos (by omega)]
    congr 1
    omega
  unfold atI
  rw [e]
  show (xs ++ [v])[xs.length]? = some v
  simp
noncomputable def PlainIx (b : Expr) : Prop := ∀ o i, subscripted b false o i = operate [o, i] (getItem o i)
noncomputable def IxR (X : Cx) (r : R2) : Prop :=
  ∀ (value slice : Expr) (pins : List (Addr × Obj)) (s : Shared) (σ : St) (H : Hp) (x y : V) (v u : Value) (Q : VK), Inv X pins σ H s → RelV x v → RelV y u → r x y H Q →
    subscripted slice false v u = operate [v, u] (getItem v u) → wpAny (model X.prog X.w) X.A (subscriptTail value slice v u) (EP X pins σ Q) X.xe s
noncomputable def MtR (X : Cx) (id : String) (r : V → List V → Hp → VK → Prop) : Prop :=
  ∀ (pins : List (Addr × Obj)) (s : Shared) (σ : St) (H : Hp) (x : V) (xs : List V) (v : Value) (us : List Value) (Q : VK), Inv X pins σ H s → RelV x v → Vals xs us → r x xs H Q →
    wpAny (model X.prog X.w) X.A (call (.builtin id) (v :: us)) (EP X pins σ Q) X.xe s
section
variable {X : Cx} {a b : Expr} {ta tb : TE} {pos : Pos}
theorem pe_ix {r : R2} (hr : IxR X r) (ha : PE X a ta) (hb : PE X b tb) (hs : PlainIx b) : PE X (.Subscript a b pos) (tOp r ta tb) := by
  intro pins s σ H Q I h
  exact Subscript_ (binT ha hb I h fun v u s2 x y H2 I2 rx ry q => hr a b pins s2 σ H2 x y v u Q I2 rx ry q (hs _ _))
noncomputable def rIxL (K : PySem.W.Frag) : R2 := fun x y H Q => ∃ p xs i v, x = .ref p ∧ y = .int i ∧ SqL K H p xs ∧ atI xs i = some v ∧ Q v H
noncomputable def rIxS : R2 := fun x y H Q => ∃ z i c, x = .str z ∧ y = .int i ∧ z.length ≤ sizeLine ∧ atI z.cps.toList i = some c ∧ Q (.str ⟨#[c]⟩) H
theorem ix_list : IxR X (rIxL X.K) := by
  intro value slice pins s σ H x y v u Q I rx ry h hs
  obtain ⟨p, xs, i, z, rfl, rfl, hq, he, q⟩ := h
  cases rx
  obtain ⟨t, rfl⟩ := ry
  obtain ⟨its, r, pl, hz⟩ := I.list hq
  obtain ⟨j, h1, h2, h3, h4, h5⟩ := atI_get he
  obtain ⟨w, ew, rw'⟩ := r.get h2
  have hl := r.length
  have hn := line63
  have fin : EP X pins σ Q w s := ⟨z, H, I, rw', q⟩
  by_cases h0 : 0 ≤ i
  · have hj : i.toNat = j := by
      rw [seqIndex_of h0 h5] at h1
      exact Option.some.inj h1
    exact item_listR pl.isList h0 (by omega) (by rw [hj]; simpa using ew) fin hs
  · have hj : (i + (its.toArray.size : Int)).toNat = j := by
      rw [seqIndex_neg (by omega) h4] at h1
      rw [List.size_toArray, ← hl]
      exact Option.some.inj h1
    exact subscriptTail_builtinR (x := w) pl.isList.typeIs slot_list_getitem.lookup
      (wpAny_getItem_list_neg (Q := fun r s' => r = w ∧ EP X pins σ Q r s') pl.isList (by omega) (by rw [List.size_toArray] <;> omega) (by omega) (by rw [hj]; simpa using ew) ⟨rfl, fin⟩) hs
theorem ix_str : IxR X rIxS := by
  intro value slice pins s σ H x y v u Q I rx ry h hs
  obtain ⟨z, i, c, rfl, rfl, hz, he, q⟩ := h
  obtain ⟨t, rfl⟩ := rx
  obtain ⟨t', rfl⟩ := ry
  obtain ⟨j, h1, h2, h3, h4, h5⟩ := atI_get he
  have hl : z.cps.toList.length = z.length := by simp [Str.length]
  rw [hl] at h1 h4 h5
  have hn := line63
  exact tail_any (typeIs_str s z t) slot_str_getitem.lookup (getItem_str (c := c) (by
    have e1 : decide (i < -(2 ^ 63 : Int)) = false := decide_eq_false (by omega)
    have e2 : decide (i ≥ 2 ^ 63) = false := decide_eq_false (by omega)
    rw [e1, e2, Bool.or_false]) (by rw [h1]; simpa using h2) ⟨.str ⟨#[c]⟩, H, I.tok _, ⟨_, rfl⟩, q⟩) hs
theorem slice_bounds (lo hi : Option Int) (n : Nat) : (sliceBounds lo hi none n).1 = ((HT.sIx n 0 lo : Nat) : Int) ∧ (sliceBounds lo hi none n).2.1 = ((HT.sIx n n hi : Nat) : Int) ∧ (sliceBounds lo hi none n).2.2 = 1 := by
  refine ⟨?_, ?_, rfl⟩
  · cases lo with
    | none => simp [sliceBounds, HT.sIx]
    | some i =>
      simp only [sliceBounds, HT.sIx, Option.getD_none, show (1 : Int) > 0 by decide, if_true]
      by_cases h : i < 0
      · simp only [h, if_true] <;> omega
      · simp only [h, if_false] <;> omega
  · cases hi with
    | none => simp [sliceBounds, HT.sIx]
    | some i =>
      simp only [sliceBounds, HT.sIx, Option.getD_none, show (1 : Int) > 0 by decide, if_true]
      by_cases h : i < 0
      · simp only [h, if_true] <;> omega
      · simp only [h, if_false] <;> omega
theorem slicePick_cut (its : List Value) (lo hi : Option Int) : slicePick its.toArray lo hi none = ((its.drop (HT.sIx its.length 0 lo)).take (HT.sIx its.length its.length hi - HT.sIx its.length 0 lo)).toArray := by
  obtain ⟨h1, h2, h3⟩ := slice_bounds lo hi its.toArray.size
  unfold slicePick
  rw [h1, h2, h3]
  simp only [sliceRange_one, pick_run, List.size_toArray] <;> rfl
noncomputable def rSlL (K : PySem.W.Frag) : V → Option Int → Option Int → Hp → VK → Prop := fun x lo hi H Q => ∃ a xs, x = .ref a ∧ SqL K H a xs ∧ ∀ p, H p = none → Q (.ref p) (upd H p (.lst (cutV xs lo hi)))
theorem sl_list : SlR X (rSlL X.K) := by
  intro pins s σ H x v vl vu lo hi sl Q I rx hs pl pu h
  obtain ⟨a, xs, rfl, hx, q⟩ := h
  cases rx
  obtain ⟨its, r, ht, hz⟩ := I.list hx
  have hlen := r.length
  refine ⟨"list", _, slot_list_getitem.lookup, ht.isList.typeIs, ?_⟩
  refine wpAny_getItem_list_slice ht.isList hs pl pu .none (by simp) ?_ (by rw [List.size_toArray] <;> omega)
  rw [slicePick_cut, ← hlen]
  refine ⟨.ref s.heap.objs.size, _, I.laid (t' := s.toks) (o := .lst (cutV xs lo hi)) (fun b ob q => Heap.get?_push_of_some _ q) (Nat.le_refl _) ?_, rfl, q _ (I.hok.fresh (Nat.le_refl _))⟩
  exact ⟨Nat.le_trans (cutV_length xs lo hi) hz, _, 0, (r.drop (HT.sIx xs.length 0 lo)).take (HT.sIx xs.length xs.length hi - HT.sIx xs.length 0 lo), Heap.get?_push_size _ rfl⟩
noncomputable def flatV : V → Bool
  | .non => true
  | .bl _ => true
  | .int _ => true
  | .str _ => true
  | _ => false
noncomputable def eqV : V → V → Bool
  | .non, .non => true
  | .bl a, .bl b => a == b
  | .bl a, .int b => (if a then 1 else 0) == b
  | .int a, .bl b => a == (if b then 1 else 0)
  | .int a, .int b => a == b
  | .str a, .str b => a == b
  | _, _ => false
theorem eqAt_V {A : Around} {s : Shared} {y x : V} {u v : Value} (ry : RelV y u) (rx : RelV x v) (fy : flatV y = true) (fx : flatV x = true) : SeqAt.EqAt A s u v (eqV y x) := by
  cases y with
  | non =>
    cases ry
    cases x with
    | non => cases rx; exact SeqAt.EqAt.same _
    | bl b => cases rx; exact SeqAt.EqAt.none_bool b
    | int b => obtain ⟨t, rfl⟩ := rx; exact SeqAt.EqAt.none_int b t
    | str b => obtain ⟨t, rfl⟩ := rx; exact SeqAt.EqAt.none_str b t
    | _ => exact absurd (show false = true from fx) Bool.false_ne_true
  | bl a =>
    cases ry
    cases x with
    | non => cases rx; exact SeqAt.EqAt.bool_none a
    | bl b => cases rx; exact SeqAt.EqAt.bool_bool a b
    | int b => obtain ⟨t, rfl⟩ := rx; exact SeqAt.EqAt.bool_int a b t
    | str b => obtain ⟨t, rfl⟩ := rx; exact SeqAt.EqAt.bool_str a b t
    | _ => exact absurd (show false = true from fx) Bool.false_ne_true
  | int a =>
    obtain ⟨t', rfl⟩ := ry
    cases x with
    | non => cases rx; exact SeqAt.EqAt.int_none a t'
    | bl b => cases rx; exact SeqAt.EqAt.int_bool a t' b
    | int b => obtain ⟨t, rfl⟩ := rx; exact SeqAt.EqAt.int_int a t' b t
    | str b => obtain ⟨t, rfl⟩ := rx; exact SeqAt.EqAt.int_str a t' b t
    | _ => exact absurd (show false = true from fx) Bool.false_ne_true
  | str a =>
    obtain ⟨t', rfl⟩ := ry
    cases x with
    | non => cases rx; exact SeqAt.EqAt.str_none a t'
    | bl b => cases rx; exact SeqAt.EqAt.str_bool a t' b
    | int b => obtain ⟨t, rfl⟩ := rx; exact SeqAt.EqAt.str_int a t' b t
    | str b => obtain ⟨t, rfl⟩ := rx; exact SeqAt.EqAt.str_str a t' b t
    | _ => exact absurd (show false = true from fx) Bool.false_ne_true
  | _ => exact absurd (show false = true from fy) Bool.false_ne_true
noncomputable def eqU (x : V) (u : Value) : Bool := match u with
  | .none => eqV .non x
  | .bool b => eqV (.bl b) x
  | .int i _ => eqV (.int i) x
  | .str z _ => eqV (.str z) x
  | _ => false
theorem eqU_of {x y : V} {u : Value} (r : RelV y u) (f : flatV y = true) : eqU x u = eqV y x := by
  cases y with
  | non => cases r; rfl
  | bl b => cases r; rfl
  | int i => obtain ⟨t, rfl⟩ := r; rfl
  | str z => obtain ⟨t, rfl⟩ := r; rfl
  | _ => exact absurd (show false = true from f) Bool.false_ne_true
theorem any_eqU {x : V} : ∀ {xs : List V} {us : List Value}, Vals xs us → xs.all flatV = true → us.any (eqU x) = xs.any fun y => eqV y x
  | _, _, .nil, _ => rfl
  | y :: xs, u :: us, .cons r t, f => by
    rw [List.all_cons, Bool.and_eq_true] at f
    rw [List.any_cons, List.any_cons, eqU_of r f.1, any_eqU t f.2]
theorem mem_eqAt {A : Around} {s : Shared} {x : V} {v : Value} (rx : RelV x v) (fx : flatV x = true) : ∀ {xs : List V} {us : List Value}, Vals xs us → xs.all flatV = true → ∀ u ∈ us, SeqAt.EqAt A s u v (eqU x u)
  | _, _, .nil, _ => fun u hu => by cases hu
  | y :: xs, u :: us, .cons r t, f => fun u' hu => by
    rw [List.all_cons, Bool.and_eq_true] at f
    rcases List.mem_cons.mp hu with rfl | hu
    · rw [eqU_of r f.1]; exact eqAt_V r rx f.1 fx
    · exact mem_eqAt rx fx t f.2 u' hu
noncomputable def inV (x : V) (xs : List V) : Bool := xs.any fun y => eqV y x
noncomputable def rIn (K : PySem.W.Frag) (neg : Bool) : R2 := fun x y H Q => ∃ p xs, y = .ref p ∧ (SqL K H p xs ∨ SqT K H p xs) ∧ flatV x = true ∧ xs.all flatV = true ∧ Q (.bl (if neg then !inV x xs else inV x xs)) H
theorem op_in_seq : OpR X (compareOp .In) (rIn X.K false) := by
  intro pins s σ H x y v u Q I rx ry h
  obtain ⟨p, xs, rfl, hq, fx, fs, q⟩ := h
  cases ry
  rcases hq with hq | hq
  · obtain ⟨its, r, pl, hz⟩ := I.list hq
    refine SeqAt.in_listAt (eqU x) pl.isList (fun w hw => mem_eqAt rx fx r fs w (by simpa using hw)) ⟨.bl _, H, I, rfl, ?_⟩
    rw [show its.toArray.any (eqU x) = its.any (eqU x) by simp, any_eqU r fs]
    exact q
  · obtain ⟨its, r, pl, hz⟩ := I.tuple hq
    refine SeqAt.in_tupleAt (eqU x) pl (fun w hw => mem_eqAt rx fx r fs w (by simpa using hw)) ⟨.bl _, H, I, rfl, ?_⟩
    rw [show its.toArray.any (eqU x) = its.any (eqU x) by simp, any_eqU r fs]
    exact q
theorem call_len_seq : CallR X (.builtin "len") (fun xs H Q => ∃ p ys, xs = [.ref p] ∧ (SqL X.K H p ys ∨ SqT X.K H p ys) ∧ Q (.int ys.length) H) := by
  intro pins s σ H xs us Q I r h
  obtain ⟨p, ys, rfl, hq, q⟩ := h
  obtain ⟨u, rfl, rx⟩ := vals1 r
  cases rx
  have hn := line63
  rcases hq with hq | hq
  · obtain ⟨its, r', pl, hz⟩ := I.list hq
    have hlen := r'.length
    exact Calls.call_len_list pl.isList (by simp only [List.size_toArray] <;> omega) ⟨.int ys.length, H, I.tok _, ⟨s.toks + 1, by rw [List.size_toArray, hlen]⟩, q⟩
  · obtain ⟨its, r', pl, hz⟩ := I.tuple hq
    have hlen := r'.length
    exact len_tuple pl (by simp only [List.size_toArray] <;> omega) ⟨.int ys.length, H, I.tok _, ⟨s.toks + 1, by rw [List.size_toArray, hlen]⟩, q⟩
theorem call_len_str : CallR X (.builtin "len") (fun xs H Q => ∃ z, xs = [.str z] ∧ z.length ≤ sizeLine ∧ Q (.int z.length) H) := by
  intro pins s σ H xs us Q I r h
  obtain ⟨z, rfl, hz, q⟩ := h
  obtain ⟨u, rfl, t, rfl⟩ := vals1 r
  have hn := line63
  exact len_str (by omega) ⟨.int z.length, H, I.tok _, ⟨_, rfl⟩, q⟩
theorem call_tuple_of : CallR X (.type "tuple") (fun xs H Q => ∃ p ys, xs = [.ref p] ∧ ((SqL X.K H p ys ∧ ∀ l, H l = none → Q (.ref l) (upd H l (.tup ys))) ∨ (SqT X.K H p ys ∧ Q (.ref p) H))) := by
  intro pins s σ H xs us Q I r h
  obtain ⟨p, ys, rfl, h⟩ := h
  obtain ⟨u, rfl, rx⟩ := vals1 r
  cases rx
  rcases h with ⟨hq, q⟩ | ⟨hq, q⟩
  · obtain ⟨its, r', pl, hz⟩ := I.list hq
    have hlen := r'.length
    refine call_tuple_list pl.isList (fun h' kp => ?_) (by simp only [List.size_toArray] <;> omega)
    have I1 : Inv X pins σ H { s with heap := h' } := I.kept (t' := s.toks) kp
    have I2 : Inv X pins σ (upd H h'.objs.size (.tup ys)) { s with heap := h'.push { cls := .type "tuple", data := .seq its.toArray } } :=
      I1.laid (t' := s.toks) (fun b o e => Heap.get?_push_of_some _ e) (Nat.le_refl _) (show ObjOk X.prog X.w _ _ _ (.tup ys) from ⟨hz, its, r', IsTup.new _ _⟩)
    exact ⟨.ref h'.objs.size, _, I2, rfl, q _ (I1.hok.fresh (Nat.le_refl _))⟩
  · obtain ⟨its, r', pl, hz⟩ := I.tuple hq
    exact call_tuple_same pl ⟨.ref p, H, I, rfl, q⟩
noncomputable def tyV (K : PySem.W.Frag) (T : String) (x : V) (H : Hp) : Prop := match x with
  | .str _ => T = "str"
  | .int _ => T = "int"
  | .ref p => (T = "list" ∧ ∃ xs, SqL K H p xs) ∨ (T = "tuple" ∧ ∃ o, K.lookup p = some o ∧ o.cls = .type "tuple" ∧ o.dict = none) ∨
      (T = "dict" ∧ ((∃ kvs, H p = some (.dK kvs)) ∨ ∃ kvs, H p = some (.dT kvs))) ∨ (T = "set" ∧ ∃ S n, H p = some (.set S n))
  | _ => False
theorem tyV_is {pins : List (Addr × Obj)} {σ : St} {H : Hp} {s : Shared} {T : String} {x : V} {v : Value} (I : Inv X pins σ H s) (r : RelV x v) (ty : tyV X.K T x H) :
    s.TypeIs v T ∧ ∀ a, v = .ref a → ∃ ob, s.heap.get? a = some ob ∧ ob.dict = none := by
  cases x with
  | str z =>
    obtain ⟨t, rfl⟩ := r
    cases (show T = "str" from ty)
    exact ⟨typeIs_str s z t, fun _ e => nomatch e⟩
  | int i =>
    obtain ⟨t, rfl⟩ := r
    cases (show T = "int" from ty)
    exact ⟨typeIs_int s i t, fun _ e => nomatch e⟩
  | ref p =>
    cases r
    rcases ty with ⟨rfl, xs, hq⟩ | ⟨rfl, o, hk, hc, hd⟩ | ⟨rfl, hk⟩ | ⟨rfl, S, n, hk⟩
    · obtain ⟨its, _, pl, _⟩ := I.list hq
      refine ⟨pl.isList.typeIs, fun a e => ?_⟩
      cases e
      obtain ⟨o, n, e, c, hd, _⟩ := pl
      exact ⟨o, e, hd⟩
    · refine ⟨⟨o, I.kIn p o hk, hc⟩, fun a e => ?_⟩
      cases e
      exact ⟨o, I.kIn _ o hk, hd⟩
    · have z : ∃ o, s.heap.get? p = some o ∧ o.ExactDict := by
        rcases hk with ⟨kvs, hk⟩ | ⟨kvs, hk⟩
        · obtain ⟨_, _, _, _, o, _, _, e, ex, _⟩ := I.hok p _ hk
          exact ⟨o, e, ex⟩
        · obtain ⟨_, _, _, _, o, _, _, e, ex, _⟩ := I.hok p _ hk
          exact ⟨o, e, ex⟩
      obtain ⟨o, e, ex⟩ := z
      refine ⟨⟨o, e, ex.1⟩, fun a e2 => ?_⟩
      cases e2
      exact ⟨o, e, ex.2.1⟩
    · obtain ⟨o, _, _, _, e, ex, _⟩ := I.hok p _ hk
      refine ⟨⟨o, e, ex.1⟩, fun a e2 => ?_⟩
      cases e2
      exact ⟨o, e, ex.2.1⟩
  | _ => exact False.elim ty
noncomputable def tBM (K : PySem.W.Frag) (T : String) (r : V → List V → Hp → VK → Prop) (to : TE) (t : TA) : TE := fun σ H Q => to σ H fun x H1 => tyV K T x H1 ∧ t σ H1 fun xs H2 => r x xs H2 Q
variable {o e : Expr} {es : List Expr} {to : TE} {t : TA} {name : Str} {apos cpos : Pos} {T id : String} {r : V → List V → Hp → VK → Prop}
theorem pe_bm (pa : PlainAttrs T) (slot : Slot T name id) (hty : typeOf (.builtin id) = pure (.type "method_descriptor")) (hm : MtR X id r) (ho : PE X o to) (ha : PA X (e :: es) t)
    (hbase : attributeBase o name X.env (eval o X.env) = eval o X.env := by rfl)
    (hfew : ((backTo cpos (starEach (e :: es) X.env)).all (fun x => !x.1) && (backToKw cpos (keywordEach [] X.env)).all (fun x => x.1.isSome)
      && decide ((e :: es).length + ([] : List Keyword).length + (if ([] : List Keyword).isEmpty then 0 else 1) < 30)) = true := by rfl)
    (hline : (apos.endLine == cpos.line) = true := by rfl) (hs : starEach (e :: es) X.env = (false, eval e X.env) :: starEach es X.env := by rfl) (hplain : (backTo cpos (starEach es X.env)).any (·.1) = false := by rfl) :
    PE X (.Call (.Attribute o name apos) (e :: es) [] cpos) (tBM X.K T r to t) := by
  intro pins s σ H Q I h
  refine wpAny_Call_method_late hbase hfew hline rfl (thn (ho pins s σ H _ I h) fun v s1 ⟨x, H1, I1, r1, ty, q1⟩ => ?_)
  obtain ⟨h1, h2⟩ := tyV_is I1 r1 ty
  refine ⟨T, id, pa, slot, hty, h1, h2, ?_⟩
  have hA := ha cpos pins s1 σ H1 _ I1 q1
  rw [hs] at hA ⊢
  refine Calls.callWith_builtin (by show (false || (backTo cpos (starEach es X.env)).any (·.1)) = false; rw [hplain] <;> rfl) (Calls.evalArgs_plain ?_)
  exact thn hA fun us s2 ⟨vs, H2, I2, r2, q2⟩ => hm pins s2 σ H2 x vs v us Q I2 r1 r2 q2
end
end L2
namespace L2
open PySem PySem.Spec PyProof.Rows
noncomputable def MtM (X : Cx) (id : String) (r : V → List V → Hp → VK → Prop) : Prop :=
  ∀ (pins : List (Addr × Obj)) (s : Shared) (σ : St) (H : Hp) (x : V) (xs : List V) (v : Value) (us : List Value) (Q : VK), Inv X pins σ H s → RelV x v → Vals xs us → r x xs H Q →
    wpAny (model X.prog X.w) X.A (call (.builtin id) (v :: us)) (EP X pins σ Q) X.xe s
theorem Vals.one : ∀ {x : V} {us : List Value}, Vals [x] us → ∃ u, us = [u] ∧ RelV x u
  | _, _, .cons r .nil => ⟨_, rfl, r⟩
section
variable {X : Cx} {pins : List (Addr × Obj)} {σ : St} {H : Hp} {s : Shared} {l b : Addr} {xs ys zs : List V}
theorem Inv.lset {its its' : List Value} {n : Nat} {f : Array Value → Array Value} {t' : Nat} (I : Inv X pins σ H s) (hH : H l = some (.lst xs))
    (e : s.heap.get? l = some { cls := .type "list", data := .seq its.toArray n }) (hf : f its.toArray = its'.toArray) (hv : Vals ys its') (hz : ys.length ≤ sizeLine) :
    Inv X pins σ (upd H l (.lst ys)) { s with heap := s.heap.update l (Obj.mapSeq f), toks := t' } := by
  have q := PySem.IsL.update e f
  rw [hf] at q
  refine I.write (x := l) (e := l) (by rw [hH]; exact trivial) (.inl rfl) (fun b' u hb hu => (Heap.get?_update_other s.heap (Obj.mapSeq f) (Ne.symm hb)).trans hu) ⟨_, q⟩ ?_
  exact ⟨hz, its', _, hv, q⟩
theorem Inv.lnew {its : List Value} {t' : Nat} (I : Inv X pins σ H s) (hv : Vals ys its) (hz : ys.length ≤ sizeLine) :
    Inv X pins σ (upd H s.heap.objs.size (.lst ys)) { s with heap := s.heap.push { cls := .type "list", data := .seq its.toArray }, toks := t' } :=
  I.laid (fun _ _ q => Heap.get?_push_of_some _ q) (Nat.le_refl _) ⟨hz, its, 0, hv, Heap.get?_push_size _ rfl⟩
theorem Inv.fresh (I : Inv X pins σ H s) : H s.heap.objs.size = none := I.hok.fresh (Nat.le_refl _)
theorem Inv.lstM (I : Inv X pins σ H s) (hH : H l = some (.lst xs)) : xs.length ≤ sizeLine ∧ ∃ (its : List Value) (n : Nat), Vals xs its ∧ xs.length = its.length ∧ s.heap.get? l = some { cls := .type "list", data := .seq its.toArray n } := by
  obtain ⟨z, its, n, r, e⟩ := I.hok l _ hH
  exact ⟨z, its, n, r, r.length, e⟩
end
section
variable {X : Cx}
noncomputable def rAppend : V → List V → Hp → VK → Prop := fun x vs H Q => ∃ l xs y, x = .ref l ∧ vs = [y] ∧ H l = some (.lst xs) ∧ xs.length < sizeLine ∧ Q .non (upd H l (.lst (xs ++ [y])))
theorem mt_append : MtM X "list.append" rAppend := by
  intro pins s σ H x vs v us Q I rx rv h
  obtain ⟨l, xs, y, rfl, rfl, hH, hz, q⟩ := h
  cases rx
  obtain ⟨u, rfl, ru⟩ := rv.one
  obtain ⟨z, its, n, r, hl, e⟩ := I.lstM hH
  refine call_meets F.slot_list_append ⟨_, e, rfl⟩ F.entry_list_append (F.args_list_append_2 _ _) (PySem.list_append l its.toArray n u (by rw [List.size_toArray]; omega)) ⟨e, ?_⟩
  refine ⟨.non, _, I.lset (its' := its ++ [u]) hH e (by simp) (r.append (.cons ru .nil)) ?_, rfl, q⟩
  rw [List.length_append, List.length_singleton]
  omega
noncomputable def rCat : R2 := fun x y H Q => ∃ l b xs zs, x = .ref l ∧ y = .ref b ∧ H l = some (.lst xs) ∧ H b = some (.lst zs) ∧ xs.length + zs.length ≤ sizeLine ∧ ∀ p, H p = none → Q (.ref p) (upd H p (.lst (xs ++ zs)))
theorem op_cat : OpR X (binaryOp .Add) rCat := by
  intro pins s σ H x y v u Q I rx ry h
  obtain ⟨l, b, xs, zs, rfl, rfl, hH, hB, hz, q⟩ := h
  cases rx
  cases ry
  obtain ⟨z, its, n, r, hl, e⟩ := I.lstM hH
  obtain ⟨z2, its2, n2, r2, hl2, e2⟩ := I.lstM hB
  refine PySem.P.add_list e e2 ?_ (by rw [List.size_toArray, List.size_toArray]; omega)
  have ea : its.toArray ++ its2.toArray = (its ++ its2).toArray := by simp
  rw [ea]
  exact ⟨.ref _, _, I.lnew (t' := s.toks) (r.append r2) (by rw [List.length_append]; omega), rfl, q _ I.fresh⟩
end
section
variable {prog : Program} {w : World} {A : Around} {E : Value → Shared → Prop} {s : Shared}
set_option maxRecDepth 100000 in
end
section
variable {X : Cx}
end
end L2
namespace Att
open PySem PySem.W PySem.Calls PyProof.Rows
theorem ints_of_wellAll {P : Params} {h : Heap} : ∀ (ns : List Int) (vs : List Value), WellAll P h vs (ns.map WData.int) → IntsAre vs ns := by
  intro ns
  induction ns with
  | nil =>
    intro vs w
    rw [List.map_nil] at w
    cases w
    exact .nil
  | cons n ns ih =>
    intro vs w
    rw [List.map_cons] at w
    cases w with
    | cons a b =>
      cases a
      exact .cons _ _ (ih _ b)
theorem script_of {l : OpenLaw} {n : Nat} (hn : l.most = some n) {P : Params} {h : Heap} {args : List WData} {vals : List Value}
    (hpre : l.row.toRowW.claim.pre args = true) (hwl : WellAll P h vals args) :
    ∃ a vs ns, vals = [Value.ref a] ∧ args = [WData.list (ns.map WData.int)] ∧ h.get? a = some { cls := .type "list", data := .seq vs.toArray } ∧ IntsAre vs ns ∧ ns.length ≤ n := by
  have hsh : WShape.hasAll [] args [.list .int] = true := (pre_splitW hpre).1
  have hc : l.pre.holds [] { args := args } = true := (pre_splitW hpre).2
  obtain ⟨d, r, rfl, h1, h2⟩ := hasAllW_cons hsh
  obtain rfl := hasAllW_nil h2
  obtain ⟨xs, rfl, h3⟩ := hasW_list h1
  obtain ⟨ns, rfl⟩ := items_int h3
  have hlen : ns.length ≤ n := by
    unfold OpenLaw.pre at hc
    have h4 : (WTm.not (.lt (.lit (.int (n : Int))) (.len (.arg 0)))).holds [] { args := [.list (ns.map .int)] } = true := by
      have h4 := (holds_andW hc).1
      rw [hn] at h4
      exact h4
    have h5 := condW_of h4 (w_not (w_lt w_lit (w_len_list (w_arg rfl))))
    rw [List.length_map] at h5
    refine Nat.le_of_not_lt fun q => ?_
    have q' : (n : Int) < ((ns.length : Nat) : Int) := by omega
    first
      | (rw [decide_eq_true q'] at h5; exact absurd h5 (by decide))
      | (simp at h5; omega)
  cases hwl with
  | cons w1 w2 =>
    cases w2
    cases w1 with
    | list ho hall => exact ⟨_, _, ns, rfl, rfl, ho, ints_of_wellAll ns _ hall, hlen⟩
theorem post_true (l : OpenLaw) (args : List WData) : l.row.toRowW.claim.post args (.bool true) args = true :=
  postW_of (r := l.row.toRowW) (X := (true == true))
    (show WShape.has [] (.bool true) .bool = true by first | rfl | decide | simp [WShape.has, WShape.arms, WShape.armsAll])
    (show (WTm.eq .res (.lit (.bool true))).value [] { args := args, res := some (.bool true), after := args } = some (.bool (true == true)) from w_eq_bool (w_res rfl) w_lit) rfl
theorem attach_call {l : OpenLaw} {n : Nat} {q : Program} {loose : List Str} {XP : (Str → Option Value) → Heap → Prop} {YP : World → Heap → Prop} {d : DefRec}
    (hn : l.most = some n) (hdf : d.params.defaults = [])
    (call : ∀ (w : World) (s₀ s₁ : Shared) (mg mb : Str → Option Value) (fa : Addr) (o : Obj) (pm cd doc : Value) (a : Addr) (vs : List Value) (ns : List Int),
      Ground q loose [] XP w s₀ mg mb s₁.heap → YP w s₁.heap →
      s₁.heap.get? fa = some o → o.data = .func (docDef d.name d.params d.body d.scope pm cd doc) → s₁.heap.CodeRec cd d.name → mg d.name = some (.ref fa) →
      s₁.heap.get? a = some { cls := .type "list", data := .seq vs.toArray } → IntsAre vs ns → ns.length ≤ n → s₁.gens = #[] →
      codeAny (model l.prog w) callerA (.call (.ref fa) ⟨[.ref a], []⟩) (fun r s' => r = .ok (.ret (.bool true)) ∧ OldK s₁.heap s'.heap ∧ s'.os = s₁.os ∧ AllBare s'.gens) s₁) :
    WalkO q loose XP YP l.row.toRowW d [] (fun f vs => PySem.call f vs) := by
  intro w s₀ s₁ mg mb G Y fa o pm cd doc dV kV ho hd hcd hD hmg hg args vals as hpre hlay hrd hwl hlo
  obtain rfl : dV = .none := Dflts.none hD hdf
  obtain rfl : kV = .none := Dflts.noKw hD
  obtain ⟨a, vs, ns, rfl, rfl, hobj, hints, hlen⟩ := script_of hn hpre hwl
  refine enter_call (codeAny_mono (call w s₀ s₁ mg mb fa o pm cd doc a vs ns G Y ho (fd_plain hd) hcd hmg hobj hints hlen hg) fun r s' hq => ?_)
  obtain ⟨rfl, h2, h3, h4⟩ := hq
  exact ⟨.inl ⟨.bool true, .bool true, [], rfl, fun _ => rfl, .bool true, post_true l _, fun _ => ⟨List.Pairwise.nil, fun _ hm => (nomatch hm)⟩⟩, h2, h3, h4⟩
section
variable {prog : Program} {w : World} {A : Around} {E : Value → Shared → Prop} {s : Shared} {K : Frag}
end
end Att
namespace L2
open PySem PySem.Spec PyProof.Rows
theorem vals_ints : ∀ {vs : List Value} {ns : List Int}, IntsAre vs ns → Vals (ns.map V.int) vs
  | _, _, .nil => .nil
  | _, _, .cons n t h => .cons ⟨t, rfl⟩ (vals_ints h)
noncomputable def Only (H : Hp) : Prop := ∀ b, H b = none ∨ ∃ o xs, H b = some (.frz o (.lst xs))
theorem law_call {P : Program} {w : World} {K : PySem.W.Frag} {mg mb : Str → Option Value} {CX : CXT} {k : Nat} {fa a : Addr} {fd : FuncData} {x : Str} {sp : Sp} {s₁ : Shared} {vs : List Value} {ns : List Int}
    (KX : K.In s₁.heap) (hns : s₁.heap.Ns mainGlobals mg) (hb : s₁.heap.Ns builtinsNs mb) (hbb : ∀ x : Str, x ≠ "__name__" → mb x = bootBuiltins x) (hlim : s₁.heap.NoLimit) (hg : s₁.gens = #[])
    (ha : s₁.heap.get? a = some { cls := .type "list", data := .seq vs.toArray }) (hi : IntsAre vs ns) (hl : ns.length ≤ sizeLine) (hr : Room k callerA)
    (F : ∀ base : Heap, K.In base → base.Ns mainGlobals mg → FnOk P w K mg base CX k fa fd [x] sp) (hbind : ∀ (s : Shared) (u : Value), BindsTo s fd ⟨[u], []⟩ [(x, u)])
    (hsp : ∀ H : Hp, Only H → SqL K H a (ns.map V.int) → sp [.ref a] H (fun v _ => v = .bl true) fun _ _ _ => False)
    (hCX : ∀ H e s', CX [] H s₁ (fun _ _ _ => False) e s' → False) :
    codeAny (model P w) callerA (.call (.ref fa) ⟨[.ref a], []⟩) (fun r s' => r = .ok (.ret (.bool true)) ∧ OldK s₁.heap s'.heap ∧ s'.os = s₁.os ∧ AllBare s'.gens) s₁ := by
  have rv := vals_ints hi
  have lenV := hi.length
  have core : ∀ H : Hp, Only H → SqL K H a (ns.map V.int) → HOk P w H s₁.heap → (∀ b, H b ≠ none → b = a) → (H a ≠ none → K.lookup a = none) →
      codeAny (model P w) callerA (.call (.ref fa) ⟨[.ref a], []⟩) (fun r s' => r = .ok (.ret (.bool true)) ∧ OldK s₁.heap s'.heap ∧ s'.os = s₁.os ∧ AllBare s'.gens) s₁ := by
    intro H hO hS hok hA hK
    have base_of : ∀ {b : Addr} {o : Obj}, s₁.heap.get? b = some o → H b = none → (hidT s₁.heap H).get? b = some o := fun e n => hidT_get e n
    have noA : ∀ {b : Addr} {o : Obj} {es : Array DictEntry} {ep : Nat}, s₁.heap.get? b = some o → o.data = .dict es ep → H b = none := fun {b o es ep} e d => by
      cases q : H b with
      | none => rfl
      | some u =>
        have e' : b = a := hA b (by rw [q]; simp)
        subst e'
        rw [ha] at e; cases e
        have d' : Data.seq vs.toArray _ = Data.dict es ep := d
        cases d'
    have nsK : ∀ {b : Addr} {m : Str → Option Value}, s₁.heap.Ns b m → (hidT s₁.heap H).Ns b m := fun {b m} ⟨o, es, ep, e, d, r⟩ => ⟨o, es, ep, base_of e (noA e d), d, r⟩
    have hKb : K.In (hidT s₁.heap H) := fun b o e => base_of (KX b o e) (by
      cases q : H b with
      | none => rfl
      | some u =>
        have e' : b = a := hA b (by rw [q]; simp)
        subst e'
        rw [hK (by rw [q]; simp)] at e; cases e)
    have hM : Mod K mg (hidT s₁.heap H) := ⟨hKb, nsK hns, ⟨mb, nsK hb, hbb⟩, let ⟨mc, h1, h2⟩ := hlim; ⟨mc, nsK h1, h2⟩⟩
    have e0 : Env0 P w K mg (hidT s₁.heap H) callerA [] s₁ H := ⟨rfl, hM, fun b o e => of_hidT e, Nat.le_of_eq (hidT_size _ _), trivial, fun b hb => absurd (show b ∈ ([] : List Addr) from hb) (by simp), hok, .of_eq hg⟩
    refine codeAny_mono ((F _ hKb (nsK hns)).run callerA [] s₁ H ⟨[.ref a], []⟩ [.ref a] [.ref a] _ _ hr e0 (hbind s₁ (.ref a)) (.cons rfl .nil) (hsp H hO hS)) fun r s' h => ?_
    cases r with
    | error e => exact (hCX H e s' h).elim
    | ok fl =>
      cases fl with
      | next => exact False.elim h
      | brk => exact False.elim h
      | cont => exact False.elim h
      | ret u =>
        obtain ⟨v, H', os, bare, un, hok', r', q⟩ := h
        have q' : v = .bl true := q
        subst q'
        obtain rfl : u = Value.bool true := r'
        refine ⟨rfl, OldK.of_keep fun b o e => ?_, os, bare⟩
        cases q : H b with
        | none => exact un.keep b o e q (by intro z; exact absurd (show b ∈ ([] : List Addr) from z) (by simp)) (by simp)
        | some u =>
          rcases hO b with z | ⟨ob, xs, z⟩
          · rw [q] at z; cases z
          · have z2 := un.frzs b ob _ z
            obtain ⟨e1, _⟩ := hok b _ z
            obtain ⟨e2, _⟩ := hok' b _ z2
            rw [e] at e1; cases e1
            exact e2
  cases hk : K.lookup a with
  | some o =>
    have e := KX a o hk
    rw [ha] at e
    cases e
    refine core (fun _ => none) (fun _ => .inl rfl) (.inr ⟨_, vs.toArray, _, hk, rfl, rfl, rfl, by rw [List.size_toArray, lenV]; exact hl, by simpa using rv⟩) (fun b u z => by have z' : (none : Option HO) = some u := z; cases z') (fun b z => absurd rfl z) fun z => absurd rfl z
  | none =>
    refine core (fun b => if b = a then some (.frz { cls := .type "list", data := .seq vs.toArray } (.lst (ns.map V.int))) else none) (fun b => ?_) (.inl (.inr ⟨{ cls := .type "list", data := .seq vs.toArray }, if_pos rfl⟩)) (fun b u z => ?_) (fun b z => ?_) fun _ => hk
    · by_cases hb : b = a
      · exact .inr ⟨_, _, if_pos hb⟩
      · exact .inl (if_neg hb)
    · by_cases hb : b = a
      · have z' := (if_pos hb).symm.trans z
        cases z'
        subst hb
        exact ⟨ha, by rw [List.length_map]; exact hl, vs, _, rv, ha⟩
      · have z' := (if_neg hb).symm.trans z
        cases z'
    · by_cases hb : b = a
      · exact hb
      · exact absurd (if_neg hb) z
end L2
namespace L2
open PySem PySem.Spec PyProof.Rows
noncomputable abbrev KOf {K : PySem.W.Frag} {h : Heap} (_ : K.In h) : PySem.W.Frag := K
theorem walk_of {l : PySem.W.OpenLaw} {n k : Nat} {q : Program} {loose : List Str} {XP : (Str → Option Value) → Heap → Prop} {YP : World → Heap → Prop} {d : DefRec} {K : Params → PySem.W.Frag} {CX : World → CXT} {sp : World → Sp} {x : Str}
    (hn : l.most = some n) (hn2 : n ≤ sizeLine) (hdf : d.params.defaults = []) (hr : Room k callerA)
    (hY : ∀ (w : World) (h : Heap), YP w h → (K w.params).In h)
    (F : ∀ (w : World) (mg : Str → Option Value) (fa : Addr) (h : Heap), (K w.params).In h → h.Ns mainGlobals mg → mg d.name = some (.ref fa) →
      ∃ fd : FuncData, (∀ (s : Shared) (u : Value), BindsTo s fd ⟨[u], []⟩ [(x, u)]) ∧
        ∀ base : Heap, (K w.params).In base → base.Ns mainGlobals mg → FnOk l.prog w (K w.params) mg base (CX w) k fa fd [x] (sp w))
    (hsp : ∀ (w : World) (H : Hp) (a : Addr) (ns : List Int), ns.length ≤ n → Only H → SqL (K w.params) H a (ns.map V.int) → sp w [.ref a] H (fun v _ => v = .bl true) fun _ _ _ => False)
    (hCX : ∀ (w : World) (H : Hp) (s : Shared) (e : Value) (s' : Shared), CX w [] H s (fun _ _ _ => False) e s' → False) :
    PySem.W.WalkO q loose XP YP l.row.toRowW d [] (fun f vs => PySem.call f vs) := by
  refine Att.attach_call hn hdf fun w s₀ s₁ mg mb fa o pm cd doc a vs ns G Y ho hd hcd hmg hobj hints hlen hg => ?_
  have KX := hY w _ Y
  obtain ⟨fd, hb, hF⟩ := F w mg fa _ KX G.T.g hmg
  exact law_call KX G.T.g G.T.b G.T.builtins G.T.nolimit hg hobj hints (Nat.le_trans hlen hn2) hr hF hb (fun H hO hS => hsp w H a ns hlen hO hS) fun H e s' => hCX w H s₁ e s'
end L2
namespace L2
open PySem PySem.Spec PyProof.Rows
noncomputable def inClass (s : Stmt) (j : Nat) : Stmt := match s with
  | .ClassDef _ _ _ body _ _ _ _ _ _ _ => body.getD j (.Pass ⟨0, 0, 0, 0⟩)
  | _ => .Pass ⟨0, 0, 0, 0⟩
noncomputable def defArgs (s : Stmt) : Arguments := match s with
  | .FunctionDef _ a _ _ _ _ _ _ _ _ => a
  | _ => { posonlyargs := [], args := [], vararg := none, kwonlyargs := [], kw_defaults := [], kwarg := none, defaults := [] }
noncomputable def defBody (s : Stmt) : List Stmt := match s with
  | .FunctionDef _ _ b _ _ _ _ _ _ _ => b
  | _ => []
noncomputable def defScope (s : Stmt) : Scope := match s with
  | .FunctionDef _ _ _ _ _ _ sc _ _ _ => sc
  | _ => { kind := .function, names := [], isGenerator := false, isCoroutine := false }
noncomputable abbrev CX0 : CXT := fun _ _ _ _ _ _ => False
noncomputable abbrev E0 : XK := fun _ _ _ => False
theorem pass0 {X : Cx} : Passes CX0 X E0 := fun _ _ _ _ _ _ _ h => h.elim
structure Fun (K : PySem.W.Frag) (x qual : Str) (st : Stmt) (f : Addr) (fd : FuncData) : Prop where
  ex : ∃ (oc : Value) (od : Option Addr) (kV doc pm : Value) (an : Option Addr) (cdv ct : Value) (osl : Array (Option Value)),
    fd = PySem.W.fnOf x qual (defArgs st) (defBody st) (defScope st) .none kV doc pm an cdv ct ∧ K.lookup f = some ⟨oc, od, .func fd, osl⟩ ∧ PySem.W.codeIn K cdv qual = true
  kp : PySem.W.keepIn K (.ref f) = true
section
variable {P : Program} {w : World} {K : PySem.W.Frag} {mg : Str → Option Value} {base : Heap}
theorem Fun.ok {x qual : Str} {st : Stmt} {f : Addr} {fd : FuncData} {N ps : List Str} {k : Nat} {sp : Sp} (F : Fun K x qual st f fd) (S : FnScope N ps (defScope st)) (len : ∀ vs H Q E, sp vs H Q E → vs.length = ps.length)
    (hbody : ∀ (cdv : Value) (A : Around) (outer : List Env) (s : Shared) (H : Hp) (vs : List V) (Q : VK) (E : XK), Room k (A.deeper (envOfC qual (defScope st) s.heap.objs.size f cdv)) → sp vs H Q E →
      ∃ t, PSs (cxOf CX0 P w K mg base N qual (defScope st) f cdv A outer s H E).nox (defBody st) t ∧ t { nx := fun _ H' => Q .non H', rt := Q } (start N vs) H) : FnOk P w K mg base CX0 (k + 1) f fd ps sp := by
  obtain ⟨oc, od, kV, doc, pm, an, cdv, ct, osl, rfl, lk, hcd⟩ := F.ex
  refine fn_of lk hcd S len fun A outer s H vs Q E hr hsp => ?_
  obtain ⟨t, h, q⟩ := hbody cdv A outer s H vs Q E hr hsp
  exact ⟨t, h.nox, q⟩
theorem Fun.binds {x qual : Str} {st : Stmt} {f : Addr} {fd : FuncData} {ps : List Str} (F : Fun K x qual st f fd)
    (h : ∀ (kV doc pm : Value) (an : Option Addr) (cdv ct : Value) (us : List Value), us.length = ps.length → bindArgs (PySem.W.fnOf x qual (defArgs st) (defBody st) (defScope st) .none kV doc pm an cdv ct) ⟨us, []⟩ = pure (ps.zip us)) : Binds K fd ps [] := by
  obtain ⟨oc, od, kV, doc, pm, an, cdv, ct, osl, rfl, lk, hcd⟩ := F.ex
  exact .all (h kV doc pm an cdv ct)
theorem fun_mk {x qual : Str} {st : Stmt} {f : Addr} {oc : Value} {od an : Option Addr} {osl : Array (Option Value)} {kV doc pm cdv ct : Value} (l : K.lookup f = some ⟨oc, od, .func (PySem.W.fnOf x qual (defArgs st) (defBody st) (defScope st) .none kV doc pm an cdv ct), osl⟩)
    (c : PySem.W.codeIn K cdv qual = true) (k : PySem.W.keepIn K (.ref f) = true) : Fun K x qual st f (PySem.W.fnOf x qual (defArgs st) (defBody st) (defScope st) .none kV doc pm an cdv ct) := ⟨⟨oc, od, kV, doc, pm, an, cdv, ct, osl, rfl, l, c⟩, k⟩
end
theorem hu_of {A : Around} {k : Nat} (hr : Room k A) : A.units + 1 < cLine := Nat.lt_of_le_of_lt (Nat.add_le_add_left (by decide : 1 ≤ 64) _) hr.units
theorem small1000 {n : Nat} (h : n ≤ 1000) : n < sizeLine := Nat.lt_of_le_of_lt h (by decide)
section
variable {X : Cx}
theorem pv (i : Nat) {x : Str} {pos : Pos} (hN : X.N[i]? = some x := by rfl) (hv : Vis X.env.scope x := by first | exact Or.inl rfl | exact Or.inr (Or.inl rfl) | exact Or.inr (Or.inr rfl)) (hd : (x == ("__debug__" : Str)) = false := by decide)
    (hcd : (x == ("__classdict__" : Str)) = false := by decide) : PE X (.Name x pos) (tVar i) := pe_var hN hv hd hcd
end
theorem iteF {A B : Prop} (h : B) : if false = true then A else B := by
  rw [if_neg Bool.false_ne_true]
  exact h
theorem iteT {A B : Prop} (h : A) : if true = true then A else B := by
  rw [if_pos rfl]
  exact h
theorem ite2 {c A B : Prop} [Decidable c] (h1 : c → A) (h2 : ¬ c → B) : if c then A else B := by
  by_cases h : c
  · rw [if_pos h]
    exact h1 h
  · rw [if_neg h]
    exact h2 h
theorem iteNS {c A B : Prop} [Decidable c] (hc : c) (h : B) : if (!decide c) = true then A else B := by
  rw [decide_eq_true hc]
  exact iteF h
noncomputable def Same (H H' : Hp) : Prop := ∀ b o, H b = some o → H' b = some o
theorem Same.refl (H : Hp) : Same H H := fun _ _ h => h
theorem Same.trans {H H1 H2 : Hp} (a : Same H H1) (b : Same H1 H2) : Same H H2 := fun c o h => b c o (a c o h)
theorem Same.free {H H' : Hp} (e : Same H H') {l : Addr} (h : H' l = Option.none) : H l = Option.none := by
  cases q : H l with
  | none => rfl
  | some o =>
    rw [e l o q] at h
    cases h
theorem Same.seq {K : PySem.W.Frag} {H H' : Hp} {a : Addr} {xs : List V} (e : Same H H') (h : SqL K H a xs) : SqL K H' a xs := by
  rcases h with (h | ⟨o, h⟩) | h
  · exact .inl (.inl (e _ _ h))
  · exact .inl (.inr ⟨o, e _ _ h⟩)
  · exact .inr h
end L2
set_option Elab.async false
set_option linter.all false
set_option maxRecDepth 100000
set_option maxHeartbeats 4000000
namespace L2
open PySem PySem.Spec PyProof.Rows
section
variable {X : Cx} {pins : List (Addr × Obj)} {σ : List (Option V)} {H : Hp} {s : Shared} {h' : Heap}
end
section
variable {X : Cx}
theorem call_isinst : CallR X (.builtin "isinstance") (fun xs H Q => ∃ x t T b, xs = [x, .ty T] ∧ TyOf X.K H x t ∧ PySem.W.kitOne X.K t (.type T) = some b ∧ Q (.bl b) H) := by
  intro pins s σ H xs us Q I r h
  obtain ⟨x, t, T, b, rfl, ty, e, q⟩ := h
  obtain ⟨u, w', rfl, rx, ry⟩ := vals2 r
  cases (show w' = Value.type T from ry)
  exact isinst_ok I rx ty e fun tk => ⟨.bl b, H, I.tok _, rfl, q⟩
noncomputable def rCatA (K : PySem.W.Frag) : R2 := fun x y H Q => ∃ a b xs ys, x = .ref a ∧ y = .ref b ∧ SqT K H a xs ∧ SqT K H b ys ∧ xs.length + ys.length ≤ sizeLine ∧
  (xs = [] → Q (.ref b) H) ∧ (xs ≠ [] → ys = [] → Q (.ref a) H) ∧ (xs ≠ [] → ys ≠ [] → ∀ p, H p = none → Q (.ref p) (upd H p (.tup (xs ++ ys))))
theorem op_catA : OpR X (binaryOp .Add) (rCatA X.K) := by
  intro pins s σ H x y v u Q I rx ry h
  obtain ⟨a, b, xs, ys, rfl, rfl, ha, hb, hz, q0, q1, q2⟩ := h
  cases rx
  cases ry
  by_cases hx : xs = []
  · obtain ⟨its, r1, p1, _⟩ := I.tuple ha
    obtain ⟨its2, r2, p2, _⟩ := I.tuple hb
    obtain ⟨⟨cls, dd, data, sl⟩, ho, hc, n, hd⟩ := id p1
    obtain ⟨⟨cls2, dd2, data2, sl2⟩, ho2, hc2, n2, hd2⟩ := id p2
    simp only at hc hd hc2 hd2
    subst hc hd hc2 hd2
    have hv : its = [] := r1.nil_iff.mpr hx
    exact concat_meets ⟨_, ho, rfl⟩ ⟨_, ho2, rfl⟩ noFill_tuple_add seq_tuple_add PySem.F.slot_tuple_add PySem.F.entry_tuple_add (PySem.F.args_tuple_add_2 _ _)
      (tuple_addW0 a b its.toArray its2.toArray n n2 dd dd2 sl sl2 (by simp [hv])) ⟨ho, ho2, ⟨.ref b, H, I, rfl, q0 hx⟩⟩
  · exact op_catT pins s σ H (.ref a) (.ref b) (.ref a) (.ref b) Q I rfl rfl ⟨a, b, xs, ys, rfl, rfl, ha, hb, hx, hz, q1 hx, q2 hx⟩
theorem eqV_refl : ∀ {x : V}, flatV x = true → eqV x x = true
  | .non, _ => by rfl
  | .bl b, _ => by simp [eqV]
  | .int i, _ => by simp [eqV]
  | .str z, _ => by simp [eqV]
  | .byt _, h => by first | exact absurd (show false = true from h) Bool.false_ne_true | simp [eqV]
  | .flt _, h => by first | exact absurd (show false = true from h) Bool.false_ne_true | simp [eqV]
  | .ref _, h => by first | exact absurd (show false = true from h) Bool.false_ne_true | simp [eqV]
  | .ty _, h => by first | exact absurd (show false = true from h) Bool.false_ne_true | simp [eqV]
theorem same_items {A : Around} {s : Shared} {xs : List V} {its its2 : List Value} (r1 : Vals xs its) (r2 : Vals xs its2) (hf : xs.all flatV = true) :
    ∀ j (h1 : j < its.toArray.size) (h2 : j < its2.toArray.size), SeqAt.EqAt A s its.toArray[j] its2.toArray[j] true := by
  intro j h1 h2
  have hl := r1.length
  have hj : j < xs.length := by simpa [hl] using h1
  have hx : xs[j]? = some xs[j] := by simp [hj]
  obtain ⟨u, hu, ru⟩ := r1.get hx
  obtain ⟨u2, hu2, ru2⟩ := r2.get hx
  have fx : flatV xs[j] = true := List.all_eq_true.mp hf _ (List.getElem_mem hj)
  have e1 : its.toArray[j] = u := by
    have : its[j]? = some its.toArray[j] := by simp at h1; simp [h1]
    rw [hu] at this; exact (Option.some.inj this).symm
  have e2 : its2.toArray[j] = u2 := by
    have : its2[j]? = some its2.toArray[j] := by simp at h2; simp [h2]
    rw [hu2] at this; exact (Option.some.inj this).symm
  rw [e1, e2]
  have := eqAt_V (A := A) (s := s) ru ru2 fx fx
  rw [eqV_refl fx] at this
  exact this
theorem op_eqL_same (hu : X.A.units < cLine) : OpR X (compareOp .Eq) (fun x y H Q => ∃ a b xs, x = .ref a ∧ y = .ref b ∧ SqL X.K H a xs ∧ SqL X.K H b xs ∧ xs.all flatV = true ∧ Q (.bl true) H) := by
  intro pins s σ H x y v u Q I rx ry h
  obtain ⟨a, b, xs, rfl, rfl, ha, hb, hf, q⟩ := h
  cases rx
  cases ry
  obtain ⟨its, r1, p1, _⟩ := I.list ha
  obtain ⟨its2, r2, p2, _⟩ := I.list hb
  have hl1 := r1.length
  have hl2 := r2.length
  refine SeqAt.eq_listAt (e := fun _ => true) p1.isList p2.isList (by simp; omega) hu (same_items r1 r2 hf) ?_
  have e : ((List.range its.toArray.size).all (fun _ => true)) = true := by simp
  rw [e]
  exact ⟨.bl true, H, I, rfl, q⟩
end
end L2
namespace ET
open PySem PySem.Spec
open PySem.AutoSeq1 (wpAny_loadPart')
section
variable {prog : Program} {w : World} {A : Around} {E : Value → Shared → Prop} {s : Shared}
end
end ET
namespace L2
open PySem PySem.Spec PyProof.Rows
section
variable {X : Cx} {elts : List Expr} {k : Nat} {tpos : Pos}
end
end L2
set_option Elab.async false
set_option linter.all false
set_option maxRecDepth 100000
set_option maxHeartbeats 4000000
namespace L2
open PySem PySem.Spec PyProof.Rows
structure Cl (P : Program) (w : World) (K : PySem.W.Frag) (mg : Str → Option Value) (base : Heap) (k : Nat) (x : Str) (ps : List Str) (sp : Sp) : Prop where
  ex : ∃ f fd, FnOk P w K mg base CX0 k f fd ps sp ∧ mg x = some (.ref f) ∧ PySem.W.keepIn K (.ref f) = true ∧ Binds K fd ps []
theorem pe_fn {X : Cx} {j k : Nat} {x : Str} {ps : List Str} {sp : Sp} {e : Expr} {es : List Expr} {t : TA} {p pos : Pos} (C : Cl X.prog X.w X.K X.mg X.base j x ps sp) (hr : Room k X.A) (hg : Gl X x) (ha : PA X (e :: es) t) (hjk : j ≤ k := by decide)
    (hdb : (x == ("__debug__" : Str)) = false := by decide) (he : starEach (e :: es) X.env = (false, eval e X.env) :: starEach es X.env := by rfl) (hpl : (backTo pos (starEach es X.env)).any (·.1) = false := by rfl) :
    PE X (.Call (.Name x p) (e :: es) [] pos) (tCall sp [] E0 t) := by
  obtain ⟨f, fd, F, hm, hk, hb⟩ := C.ex
  exact pe_call F (hr.mono hjk) hg hm hk hb .nil pass0 ha hdb he hpl
noncomputable def HasDef (K : PySem.W.Frag) (mg : Str → Option Value) (x : Str) (st : Stmt) : Prop := ∃ f fd, Fun K x x st f fd ∧ mg x = some (.ref f)
theorem hasDef_mk {K : PySem.W.Frag} {mg : Str → Option Value} {h : Heap} {x : Str} {st : Stmt} {f : Addr} {oc : Value} {od an : Option Addr} {osl : Array (Option Value)} {kV doc pm cdv ct : Value} (X : K.In h) (G : h.Ns mainGlobals mg)
    (a : PySem.W.nsIn K mainGlobals x = some (some (.ref f))) (l : K.lookup f = some ⟨oc, od, .func (PySem.W.fnOf x x (defArgs st) (defBody st) (defScope st) .none kV doc pm an cdv ct), osl⟩)
    (c : PySem.W.codeIn K cdv x = true) (k : PySem.W.keepIn K (.ref f) = true) : HasDef K mg x st :=
  ⟨f, _, fun_mk l c k, PySem.W.mg_of X G a⟩
theorem Cl.of {P : Program} {w : World} {K : PySem.W.Frag} {mg : Str → Option Value} {base : Heap} {x : Str} {st : Stmt} {N ps : List Str} {k : Nat} {sp : Sp} (T : HasDef K mg x st) (S : FnScope N ps (defScope st)) (len : ∀ vs H Q E, sp vs H Q E → vs.length = ps.length)
    (hb : ∀ (kV doc pm : Value) (an : Option Addr) (cdv ct : Value) (us : List Value), us.length = ps.length → bindArgs (PySem.W.fnOf x x (defArgs st) (defBody st) (defScope st) .none kV doc pm an cdv ct) ⟨us, []⟩ = pure (ps.zip us))
    (hbody : ∀ (f : Addr) (cdv : Value) (A : Around) (outer : List Env) (s : Shared) (H : Hp) (vs : List V) (Q : VK) (E : XK), Room k (A.deeper (envOfC x (defScope st) s.heap.objs.size f cdv)) → sp vs H Q E →
      ∃ t, PSs (cxOf CX0 P w K mg base N x (defScope st) f cdv A outer s H E).nox (defBody st) t ∧ t { nx := fun _ H' => Q .non H', rt := Q } (start N vs) H) : Cl P w K mg base (k + 1) x ps sp := by
  obtain ⟨f, fd, F, m⟩ := T
  exact ⟨f, fd, F.ok S len (fun cdv A outer s H vs Q E => hbody f cdv A outer s H vs Q E), m, F.kp, F.binds hb⟩
noncomputable def Tups (H H' : Hp) : Prop := ∀ b xs, H b = some (.tup xs) → H' b = some (.tup xs)
section
variable {H H1 H2 : Hp} {l p : Addr} {o : HO} {xs ys : List V}
theorem Same.tups (e : Same H H1) : Tups H H1 := fun b xs q => e b _ q
theorem Tups.lst (h : H l = some (.lst xs)) : Tups H (upd H l (.lst ys)) := fun b zs q => by
  rw [upd_ne (ne_of q h (by intro z; cases z))]; exact q
theorem Tups.new (h : H p = none) : Tups H (upd H p o) := fun b zs q => by
  rw [upd_ne (ne_of_none q h)]; exact q
theorem Same.put (s : Same H H1) (h : H l = none) : Same H (upd H1 l o) := fun b u q => by
  rw [upd_ne (ne_of_none q h)]; exact s b u q
theorem Same.new (s : Same H H1) (h : H1 p = none) : Same H (upd H1 p o) := s.put (s.free h)
theorem upd_keep {u : HO} (h : H l = some u) (hp : H p = none) : upd H p o l = some u := by
  rw [upd_ne (ne_of_none h hp)]; exact h
end
theorem atI_getD {α : Type} (xs : List α) (d : α) {i : Int} (h0 : 0 ≤ i) (h1 : i < (xs.length : Int)) : atI xs i = some (xs.getD i.toNat d) := by
  have e : i = ((i.toNat : Nat) : Int) := by omega
  have hl : i.toNat < xs.length := by omega
  have hx : xs[i.toNat]? = some (xs.getD i.toNat d) := by
    rw [List.getD_eq_getElem?_getD]
    simp [hl]
  have := atI_nat hx
  rw [← e] at this
  exact this
theorem atI_mem {α : Type} (xs : List α) {i : Int} (h0 : 0 ≤ i) (h1 : i < (xs.length : Int)) : ∃ v, v ∈ xs ∧ atI xs i = some v := by
  have e : i = ((i.toNat : Nat) : Int) := by omega
  have hl : i.toNat < xs.length := by omega
  have hx : xs[i.toNat]? = some xs[i.toNat] := by simp [hl]
  refine ⟨xs[i.toNat], List.getElem_mem hl, ?_⟩
  have := atI_nat hx
  rw [← e] at this
  exact this
theorem atI_menu (ys : List Str) {i : Int} (h0 : 0 ≤ i) (h1 : i < (ys.length : Int)) : ∃ y, y ∈ ys ∧ atI (ys.map V.str) i = some (.str y) := by
  obtain ⟨v, hv, e⟩ := atI_mem (ys.map V.str) h0 (by simpa using h1)
  obtain ⟨y, hy, rfl⟩ := List.mem_map.mp hv
  exact ⟨y, hy, e⟩
theorem atI_map {α : Type} (f : α → V) (xs : List α) (d : α) {i : Int} (h0 : 0 ≤ i) (h1 : i < (xs.length : Int)) : atI (xs.map f) i = some (f (xs.getD i.toNat d)) := by
  have := atI_getD (xs.map f) (f d) h0 (by simpa using h1)
  rw [this, List.getD_eq_getElem?_getD, List.getElem?_map, List.getD_eq_getElem?_getD]
  have hl : i.toNat < xs.length := by omega
  simp [hl]
theorem iteSE {x : Str} {A B : Prop} (h : A) : if decide (V.str x = V.str x) = true then A else B := by
  rw [if_pos (decide_eq_true rfl)]; exact h
theorem iteSN {x y : Str} {A B : Prop} (e : ¬ x = y) (h : B) : if decide (V.str x = V.str y) = true then A else B := by
  rw [if_neg (by rw [decide_eq_false (fun q => e (V.str.inj q))]; exact Bool.false_ne_true)]; exact h
theorem ite2I {i j : Int} {A B : Prop} (h1 : i = j → A) (h2 : ¬ i = j → B) : if decide (V.int i = V.int j) = true then A else B :=
  ite2 (fun h => h1 (V.int.inj (of_decide_eq_true h))) fun h => h2 fun e => h (decide_eq_true (congrArg V.int e))
theorem iteDP {p : Prop} [Decidable p] {A B : Prop} (hp : p) (h : A) : if decide p = true then A else B := by
  rw [if_pos (decide_eq_true hp)]; exact h
theorem iteDN {p : Prop} [Decidable p] {A B : Prop} (hp : ¬ p) (h : B) : if decide p = true then A else B := by
  rw [if_neg (by rw [decide_eq_false hp]; exact Bool.false_ne_true)]; exact h
theorem kit_same (K : PySem.W.Frag) (T : String) : PySem.W.kitOne K (.type T) (.type T) = some true := by
  unfold PySem.W.kitOne
  rw [if_pos (by simp)]
theorem kit_int_bool (K : PySem.W.Frag) : PySem.W.kitOne K (.type "int") (.type "bool") = some false := by kernel_rfl
noncomputable def isLet (c : Nat) : Bool := decide (97 ≤ c) && decide (c ≤ 122)
noncomputable def isFig (c : Nat) : Bool := decide (48 ≤ c) && decide (c ≤ 57)
noncomputable def isSg (c : Nat) : Bool := isLet c || isFig c
noncomputable def isNm : List Nat → Bool
  | [] => false
  | c :: r => isLet c && r.all isSg && decide (r.length ≤ 7)
noncomputable def NameOk (x : Str) : Prop := isNm x.cps.toList = true
noncomputable instance (x : Str) : Decidable (NameOk x) := inferInstanceAs (Decidable (_ = true))
theorem NameOk.len {x : Str} (h : NameOk x) : 1 ≤ x.length ∧ x.length ≤ 8 := by
  unfold NameOk at h
  obtain ⟨⟨l⟩⟩ := x
  cases l with
  | nil => exact absurd (show false = true from h) Bool.false_ne_true
  | cons c r =>
    have h' : (isLet c && r.all isSg && decide (r.length ≤ 7)) = true := h
    simp only [Bool.and_eq_true, decide_eq_true_eq] at h'
    show 1 ≤ (Array.mk (c :: r)).size ∧ (Array.mk (c :: r)).size ≤ 8
    simp only [List.size_toArray, List.length_cons]
    omega
theorem nameOk_one {c : Nat} (h : isLet c = true) : NameOk ⟨#[c]⟩ := by
  show (isLet c && ([] : List Nat).all isSg && decide (([] : List Nat).length ≤ 7)) = true
  simp [h]
theorem nameOk_snoc {x : Str} {c : Nat} (h : NameOk x) (hc : isSg c = true) (hl : x.length ≤ 7) : NameOk (x ++ ⟨#[c]⟩) ∧ (x ++ (⟨#[c]⟩ : Str)).length = x.length + 1 := by
  obtain ⟨⟨l⟩⟩ := x
  have e : ((⟨⟨l⟩⟩ : Str) ++ (⟨#[c]⟩ : Str)) = ⟨⟨l ++ [c]⟩⟩ := by
    show (⟨(⟨l⟩ : Array Nat) ++ #[c]⟩ : Str) = ⟨⟨l ++ [c]⟩⟩
    congr 1
    simp
  rw [e]
  have hl' : l.length ≤ 7 := by simpa [Str.length] using hl
  constructor
  · cases l with
    | nil => exact absurd (show false = true from h) Bool.false_ne_true
    | cons d r =>
      have h' : (isLet d && r.all isSg && decide (r.length ≤ 7)) = true := h
      show (isLet d && (r ++ [c]).all isSg && decide ((r ++ [c]).length ≤ 7)) = true
      simp only [Bool.and_eq_true, decide_eq_true_eq, List.all_append, List.length_append, List.length_cons, List.length_nil] at h' hl' ⊢
      refine ⟨⟨h'.1.1, h'.1.2, ?_⟩, by omega⟩
      simp [hc]
  · simp [Str.length]
inductive Th where
  | num (n : Int)
  | nam (x : Str)
noncomputable def thV : Th → V
  | .num n => .int n
  | .nam x => .str x
noncomputable def ThOk : Th → Prop
  | .num n => 0 ≤ n ∧ n < 10 ^ 60
  | .nam x => NameOk x
noncomputable def TermAt (H : Hp) (v : V) (t : Int × Th) : Prop := ∃ p, v = .ref p ∧ H p = some (.tup [.int t.1, thV t.2]) ∧ ThOk t.2
noncomputable abbrev Terms (H : Hp) : List V → List (Int × Th) → Prop := Paired (TermAt H)
theorem TermAt.mono {H H' : Hp} (s : Tups H H') {v : V} {t : Int × Th} (h : TermAt H v t) : TermAt H' v t := by
  obtain ⟨p, e, h, o⟩ := h
  exact ⟨p, e, s p _ h, o⟩
theorem Terms.mono {H H' : Hp} (s : Tups H H') {vs : List V} {ts : List (Int × Th)} (h : Terms H vs ts) : Terms H' vs ts := Paired.mapP h fun _ _ q => q.mono s
structure TermsAt (H : Hp) (t : Addr) (ts : List (Int × Th)) : Prop where
  ex : ∃ vs, H t = some (.tup vs) ∧ Terms H vs ts
  lo : 1 ≤ ts.length
  hi : ts.length ≤ 6
theorem TermsAt.mono {H H' : Hp} (s : Tups H H') {t : Addr} {ts : List (Int × Th)} (h : TermsAt H t ts) : TermsAt H' t ts := by
  obtain ⟨⟨vs, h1, h2⟩, lo, hi⟩ := h
  exact ⟨⟨vs, s t _ h1, h2.mono s⟩, lo, hi⟩
theorem take_succ_get {α : Type} {l : List α} {i : Nat} {x : α} (h : l[i]? = some x) : l.take (i + 1) = l.take i ++ [x] := by
  rw [List.take_succ, h]; rfl
end L2
set_option Elab.async false
set_option linter.all false
set_option maxRecDepth 100000
set_option maxHeartbeats 4000000
namespace L2
open PySem PySem.Spec PyProof.Rows
theorem strsAre_of {ys : List Str} : ∀ {us : List Value}, Vals (ys.map V.str) us → StrsAre us ys := by
  induction ys with
  | nil => intro us r; cases r; exact .nil
  | cons y r ih =>
    intro us h
    cases h with
    | cons h1 h2 =>
      obtain ⟨t, rfl⟩ := h1
      exact .cons y t (ih h2)
theorem vals_strs : ∀ (l : List (Str × Tok)), Vals ((l.map (·.1)).map V.str) (strValues l)
  | [] => .nil
  | (x, t) :: r => .cons ⟨t, rfl⟩ (vals_strs r)
section
variable {X : Cx}
theorem mt_join : MtR X "str.join" (fun x vs H Q => ∃ sep p ys, x = .str sep ∧ vs = [.ref p] ∧ (SqT X.K H p (ys.map V.str) ∨ SqL X.K H p (ys.map V.str)) ∧ sep.length ≤ 16 ∧ (ys.map (·.length)).sum + ys.length ≤ 1048576 ∧ Q (.str (Str.join sep ys)) H) := by
  intro pins s σ H x xs v us Q I rx rs h
  obtain ⟨sep, p, ys, rfl, rfl, hq, hs, hw, q⟩ := h
  obtain ⟨t, rfl⟩ := rx
  obtain ⟨u, rfl, ru⟩ := vals1 rs
  cases ru
  rcases hq with hq | hq
  · obtain ⟨its, r', pl, hz⟩ := I.tuple hq
    exact join_tupleW pl (strsAre_of r') hs hw fun t' k => ⟨.str (Txt.join sep ys), H, I.tok _, ⟨_, rfl⟩, by rw [show Txt.join sep ys = Str.join sep ys from StrLaws.glued_eq_join sep ys]; exact q⟩
  · obtain ⟨its, r', pl, hz⟩ := I.list hq
    exact join_listW pl.isList (strsAre_of r') hs hw fun t' k => ⟨.str (Txt.join sep ys), H, I.tok _, ⟨_, rfl⟩, by rw [show Txt.join sep ys = Str.join sep ys from StrLaws.glued_eq_join sep ys]; exact q⟩
open Builtin Builtin.Str in
theorem split1D {prog : Program} {w : World} {A : Around} {E : Value → Shared → Prop} {s : Shared} {x : Str} {t : Tok} {Q : Value → Shared → Prop} {y : Str} {u : Tok} (hy : (y.length == 0) = false)
    (hq : ∀ (l : List (Str × Tok)) (n k : Nat), l.map (·.1) = Txt.split x y → Q (.ref s.heap.objs.size) { s with heap := s.heap.push { cls := .type "list", data := .seq (strValues l).toArray n }, toks := k })
    (hsz : x.length ≤ sizeLine) (hsz2 : (partsBetween x (occurrences x y 0 x.length (x.length + 1)) y.length).length ≤ sizeLine) :
    wpAny (model prog w) A (call (.builtin "str.split") [.str x t, .str y u]) Q E s := by
  cases h1 : (decide (x.length < y.length) || decide (strKind x < strKind y))
  · cases hf : (occurrences x y 0 x.length (x.length + 1)).isEmpty
    · refine call_meets F.slot_str_split (typeIs_str _ _ _) F.entry_str_split (F.args_str_split_2 _ _) (meets_str_split_sep x y t u h1 hy hf hsz hsz2) ?_
      show wants Q E _ { s with toks := _, heap := s.heap.push { cls := .type "list", data := .seq (strsFrom s.toks (partsBetween x (occurrences x y 0 x.length (x.length + 1)) y.length)).toArray } }
      rw [strsFrom_eq]
      exact hq (numbered s.toks _) _ _ ((numbered_texts _ _).trans ((if_neg (ne_true_of_eq_false h1)).trans (if_neg (ne_true_of_eq_false hf))).symm)
    · exact call_meets F.slot_str_split (typeIs_str _ _ _) F.entry_str_split (F.args_str_split_2 _ _) (meets_str_split_not_found x y t u h1 hy hf)
        (hq [(x, t)] _ _ ((if_neg (ne_true_of_eq_false h1)).trans (if_pos hf)).symm)
  · exact call_meets F.slot_str_split (typeIs_str _ _ _) F.entry_str_split (F.args_str_split_2 _ _) (meets_str_split_cannot_occur x y t u h1)
      (hq [(x, t)] _ _ (if_pos h1).symm)
open Builtin Builtin.Str in
theorem parts_le (x y : Str) : (partsBetween x (occurrences x y 0 x.length (x.length + 1)) y.length).length ≤ x.length + 2 := by
  rw [len_partsBetween]
  have := StrLaws.occ_length_le x y 0 x.length (x.length + 1)
  omega
theorem mt_split : MtR X "str.split" (fun x vs H Q => ∃ z y, x = .str z ∧ vs = [.str y] ∧ (y.length == 0) = false ∧ z.length ≤ 100000 ∧ ∀ l, H l = none → Q (.ref l) (upd H l (.lst ((Txt.split z y).map V.str)))) := by
  intro pins s σ H x xs v us Q I rx rs h
  obtain ⟨z, y, rfl, rfl, hy, hz, q⟩ := h
  obtain ⟨t, rfl⟩ := rx
  obtain ⟨u, rfl, ru⟩ := vals1 rs
  obtain ⟨t', rfl⟩ := ru
  have hs : sizeLine = 16777216 := sizeLine_eq
  have hp := parts_le z y
  have hn : H s.heap.objs.size = none := I.hok.fresh (Nat.le_refl _)
  refine split1D hy (fun l n k e => ?_) (by omega) (by omega)
  refine ⟨.ref s.heap.objs.size, _, I.laid (fun b o e => Heap.get?_push_of_some _ e) (Nat.le_refl _) ?_, rfl, q _ hn⟩
  have hl := split_le z y
  refine ⟨by rw [List.length_map]; omega, strValues l, n, ?_, Heap.get?_push_size _ rfl⟩
  rw [← e]
  exact vals_strs l
end
theorem cut_inj {c : Nat} : ∀ {a b u v : List Nat}, c ∉ a → c ∉ b → a ++ c :: u = b ++ c :: v → a = b ∧ u = v
  | [], [], u, v, _, _, h => by simp at h; exact ⟨rfl, h⟩
  | [], d :: b, u, v, _, hb, h => by
    simp at h
    exact absurd (by rw [h.1]; exact List.mem_cons_self) hb
  | x :: a, [], u, v, ha, _, h => by
    simp at h
    exact absurd (by rw [h.1]; exact List.mem_cons_self) ha
  | x :: a, d :: b, u, v, ha, hb, h => by
    simp at h
    obtain ⟨e1, e2⟩ := cut_inj (a := a) (b := b) (fun z => ha (List.mem_cons_of_mem _ z)) (fun z => hb (List.mem_cons_of_mem _ z)) h.2
    exact ⟨by rw [h.1, e1], e2⟩
theorem str_ext {x y : Str} (h : x.cps.toList = y.cps.toList) : x = y := by
  obtain ⟨⟨a⟩⟩ := x
  obtain ⟨⟨b⟩⟩ := y
  have h' : a = b := h
  rw [h']
theorem glue_list (x : Str) (c : Nat) (r : Str) : (x ++ (⟨#[c]⟩ : Str) ++ r).cps.toList = x.cps.toList ++ c :: r.cps.toList := by
  show (x.cps ++ #[c] ++ r.cps).toList = _
  simp
theorem join_inj {c : Nat} : ∀ {as bs : List Str}, as ≠ [] → bs ≠ [] → (∀ a ∈ as, c ∉ a.cps.toList) → (∀ b ∈ bs, c ∉ b.cps.toList) → Str.join ⟨#[c]⟩ as = Str.join ⟨#[c]⟩ bs → as = bs
  | [], _, h, _, _, _, _ => absurd rfl h
  | _, [], _, h, _, _, _ => absurd rfl h
  | [a], [b], _, _, _, _, h => by
    have h' : a = b := h
    rw [h']
  | [a], b :: b2 :: r, _, _, ha, _, h => by
    have h' : a = b ++ (⟨#[c]⟩ : Str) ++ Str.join ⟨#[c]⟩ (b2 :: r) := h
    have := ha a (List.mem_singleton.mpr rfl)
    rw [h', glue_list] at this
    exact absurd (by simp) this
  | a :: a2 :: r, [b], _, _, _, hb, h => by
    have h' : a ++ (⟨#[c]⟩ : Str) ++ Str.join ⟨#[c]⟩ (a2 :: r) = b := h
    have := hb b (List.mem_singleton.mpr rfl)
    rw [← h', glue_list] at this
    exact absurd (by simp) this
  | a :: a2 :: r, b :: b2 :: q, _, _, ha, hb, h => by
    have h' : a ++ (⟨#[c]⟩ : Str) ++ Str.join ⟨#[c]⟩ (a2 :: r) = b ++ (⟨#[c]⟩ : Str) ++ Str.join ⟨#[c]⟩ (b2 :: q) := h
    have h2 := congrArg (fun z : Str => z.cps.toList) h'
    simp only [glue_list] at h2
    obtain ⟨e1, e2⟩ := cut_inj (ha a List.mem_cons_self) (hb b List.mem_cons_self) h2
    have e3 := join_inj (as := a2 :: r) (bs := b2 :: q) (by simp) (by simp) (fun z hz => ha z (List.mem_cons_of_mem _ hz)) (fun z hz => hb z (List.mem_cons_of_mem _ hz)) (str_ext e2)
    rw [str_ext e1, e3]
theorem split_join {c : Nat} {ws : List Str} (h : ws ≠ []) (hf : ∀ a ∈ ws, c ∉ a.cps.toList) : Txt.split (Str.join ⟨#[c]⟩ ws) ⟨#[c]⟩ = ws := by
  have hp := split_pos (Str.join ⟨#[c]⟩ ws) ⟨#[c]⟩
  refine join_inj (by intro z; rw [z] at hp; simp at hp) h (StrLaws.split_free _ c) hf ?_
  exact StrLaws.join_split _ _
structure WordOk (x : Str) : Prop where
  nb : 32 ∉ x.cps.toList
  len : x.length ≤ 61
noncomputable instance (x : Str) : Decidable (WordOk x) := decidable_of_iff (32 ∉ x.cps.toList ∧ x.length ≤ 61) ⟨fun h => ⟨h.1, h.2⟩, fun h => ⟨h.nb, h.len⟩⟩
theorem isSg_ne {c : Nat} (h : isSg c = true) : c ≠ 32 := by
  rintro rfl
  exact absurd h (by decide)
theorem NameOk.signs {x : Str} (h : NameOk x) : ∀ c ∈ x.cps.toList, isSg c = true := by
  unfold NameOk at h
  intro c hc
  cases e : x.cps.toList with
  | nil => rw [e] at hc; simp at hc
  | cons d r =>
    rw [e] at h hc
    have h' : (isLet d && r.all isSg && decide (r.length ≤ 7)) = true := h
    simp only [Bool.and_eq_true, decide_eq_true_eq, List.all_eq_true] at h'
    rcases List.mem_cons.mp hc with z | z
    · rw [z]; unfold isSg; rw [h'.1.1]; rfl
    · exact h'.1.2 c z
theorem NameOk.word {x : Str} (h : NameOk x) : WordOk x := ⟨fun z => isSg_ne (h.signs 32 z) rfl, by have := h.len; omega⟩
noncomputable def thS : Th → Str
  | .num n => Str.ofString (toString n)
  | .nam x => x
theorem digit_range (m : Nat) : ∀ c ∈ (Nat.toDigits 10 m).map Char.toNat, 48 ≤ c ∧ c ≤ 57 := by
  intro c hc
  obtain ⟨d, hd, rfl⟩ := List.mem_map.mp hc
  have := Nat.isDigit_of_mem_toDigits (by decide) (by decide) hd
  have h2 : d.isDigit = true := this
  simp only [Char.isDigit, Bool.and_eq_true, decide_eq_true_eq] at h2
  exact ⟨h2.1, h2.2⟩
theorem num_text {n : Int} (h0 : 0 ≤ n) (h1 : n < 10 ^ 60) : (Str.ofString (toString n)).cps.toList = (Nat.toDigits 10 n.toNat).map Char.toNat ∧ (Nat.toDigits 10 n.toNat).length ≤ 60 := by
  have e : n = ((n.toNat : Nat) : Int) := by omega
  constructor
  · have h := text_ofNat n.toNat
    rw [show Int.ofNat n.toNat = n from e.symm] at h
    rw [h]
  · exact digits10_le (by decide) (by omega)
theorem ThOk.word {t : Th} (h : ThOk t) : WordOk (thS t) := by
  cases t with
  | nam x => exact NameOk.word h
  | num n =>
    obtain ⟨e, hl⟩ := num_text h.1 h.2
    refine ⟨fun z => ?_, ?_⟩
    · have z' : 32 ∈ (Str.ofString (toString n)).cps.toList := z
      rw [e] at z'
      have := digit_range _ 32 z'
      omega
    · have h2 : (Str.ofString (toString n)).length = ((Str.ofString (toString n)).cps.toList).length := by simp [Str.length]
      show (Str.ofString (toString n)).length ≤ 61
      rw [h2, e, List.length_map]
      omega
noncomputable def sgS (s : Int) : Str := if s = 1 then "+" else "-"
theorem sgS_ok (s : Int) : WordOk (sgS s) := by
  unfold sgS
  split
  · decide +kernel
  · decide +kernel
noncomputable def tailW : List (Int × Th) → List Str
  | [] => []
  | (s, t) :: r => sgS s :: thS t :: tailW r
noncomputable def sumW : List (Int × Th) → List Str
  | [] => []
  | (_, t) :: r => thS t :: tailW r
theorem tailW_snoc (s : Int) (t : Th) : ∀ ts, tailW (ts ++ [(s, t)]) = tailW ts ++ [sgS s, thS t]
  | [] => rfl
  | (a, b) :: r => by
    show sgS a :: thS b :: tailW (r ++ [(s, t)]) = _
    rw [tailW_snoc s t r]
    rfl
theorem sumW_snoc (s : Int) (t : Th) {ts : List (Int × Th)} (h : ts ≠ []) : sumW (ts ++ [(s, t)]) = sumW ts ++ [sgS s, thS t] := by
  cases ts with
  | nil => exact absurd rfl h
  | cons p r =>
    show thS p.2 :: tailW (r ++ [(s, t)]) = _
    rw [tailW_snoc]
    rfl
theorem tailW_len : ∀ ts, (tailW ts).length = 2 * ts.length
  | [] => rfl
  | (a, b) :: r => by
    show (tailW r).length + 1 + 1 = _
    rw [tailW_len r]
    simp only [List.length_cons]; omega
theorem sumW_len {ts : List (Int × Th)} (h : 1 ≤ ts.length) : (sumW ts).length + 1 = 2 * ts.length := by
  cases ts with
  | nil => simp at h
  | cons p r =>
    show (tailW r).length + 1 + 1 = _
    rw [tailW_len]
    simp only [List.length_cons]; omega
theorem tailW_ok : ∀ {ts : List (Int × Th)}, (∀ p ∈ ts, ThOk p.2) → ∀ x ∈ tailW ts, WordOk x
  | [], _, x, hx => by simp [tailW] at hx
  | (a, b) :: r, h, x, hx => by
    have hx' : x ∈ sgS a :: thS b :: tailW r := hx
    rcases List.mem_cons.mp hx' with z | z
    · rw [z]; exact sgS_ok a
    · rcases List.mem_cons.mp z with z | z
      · rw [z]; exact (h (a, b) List.mem_cons_self).word
      · exact tailW_ok (fun p hp => h p (List.mem_cons_of_mem _ hp)) x z
theorem sumW_ok {ts : List (Int × Th)} (h : ∀ p ∈ ts, ThOk p.2) : ∀ x ∈ sumW ts, WordOk x := by
  cases ts with
  | nil => intro x hx; simp [sumW] at hx
  | cons p r =>
    intro x hx
    have hx' : x ∈ thS p.2 :: tailW r := hx
    rcases List.mem_cons.mp hx' with z | z
    · rw [z]; exact (h p List.mem_cons_self).word
    · exact tailW_ok (fun p hp => h p (List.mem_cons_of_mem _ hp)) x z
inductive StrsE : List Expr → List Str → Prop
  | nil : StrsE [] []
  | cons {x : Str} {j pos} {es : List Expr} {ys : List Str} (h : StrsE es ys) : StrsE (.Constant (.str x) j pos :: es) (x :: ys)
section
variable {X : Cx}
theorem pa_strs {es : List Expr} {ys : List Str} (h : StrsE es ys) : PA X es (fun _ H Q => Q (ys.map V.str) H) := by
  induction h with
  | nil => exact pa_nil
  | @cons x j pos es ys h ih =>
    exact pa_cons (es := es) (pe_str (x := x) (j := j) (pos := pos)) ih rfl
end
end L2
set_option Elab.async false
set_option linter.all false
set_option maxRecDepth 100000
set_option maxHeartbeats 4000000
namespace L2
open PySem PySem.Spec PyProof.Rows
noncomputable def closL (cells : List (Str × Addr)) : List (Str × NameKind) → List (Str × Addr) → List (Str × Addr)
  | [], cs => cs
  | (n, k) :: r, cs => closL cells r (if k == .free then (n, (cells.lookup n).getD 0) :: cs else cs)
theorem closL_pure {cells : List (Str × Addr)} {env : Env} (he : env.cells = cells) : ∀ (l : List (Str × NameKind)) (cs : List (Str × Addr)), (∀ y ∈ l, y.2 = .free → ∃ c, cells.lookup y.1 = some c) →
    (forIn l cs fun p cs => (do if p.2 == .free then (do let a ← cellOf env p.1; pure (ForInStep.yield ((p.1, a) :: cs))) else pure (ForInStep.yield cs) : Sem (ForInStep (List (Str × Addr))))) = pure (closL cells l cs) := by
  intro l
  induction l with
  | nil => intro cs _; rfl
  | cons p r ih =>
    intro cs h
    obtain ⟨n, k⟩ := p
    rw [List.forIn_cons]
    have hr : ∀ y ∈ r, y.2 = .free → ∃ c, cells.lookup y.1 = some c := fun y hy => h y (List.mem_cons_of_mem _ hy)
    by_cases hk : k = .free
    · subst hk
      obtain ⟨c, hc⟩ := h (n, .free) List.mem_cons_self rfl
      have hc' : env.cells.lookup n = some c := by rw [he]; exact hc
      have e : cellOf env n = pure c := by unfold cellOf; rw [hc']
      simp only [beq_self_eq_true, if_true, e, pure_bind]
      rw [ih _ hr]
      unfold closL
      rw [if_pos (by simp), show (cells.lookup n).getD 0 = c by rw [show cells.lookup n = some c from hc]; rfl]
      conv => rhs; unfold closL
    · have hb : (k == NameKind.free) = false := by simpa using hk
      simp only [hb, Bool.false_eq_true, if_false, pure_bind]
      rw [ih _ hr]
      conv => rhs; unfold closL
      rw [if_neg (by rw [hb]; exact Bool.false_ne_true)]
theorem closL_lookup {cells : List (Str × Addr)} {x : Str} {c : Addr} : ∀ (l : List (Str × NameKind)) (cs : List (Str × Addr)), (∀ y ∈ l, y.2 = .free → ∃ c, cells.lookup y.1 = some c) → (closL cells l cs).lookup x = some c → cells.lookup x = some c ∨ cs.lookup x = some c
  | [], cs, _, h => .inr h
  | (n, k) :: r, cs, hy, h => by
    unfold closL at h
    rcases closL_lookup r _ (fun y q => hy y (List.mem_cons_of_mem _ q)) h with h | h
    · exact .inl h
    · by_cases hk : k = .free
      · subst hk
        obtain ⟨c', hc⟩ := hy (n, .free) List.mem_cons_self rfl
        have hc : cells.lookup n = some c' := hc
        rw [if_pos (by simp), List.lookup_cons] at h
        split at h
        · rename_i e
          have e' : x = n := by simpa using e
          subst e'
          rw [hc] at h
          cases h
          exact .inl hc
        · exact .inr h
      · rw [if_neg (by simpa using hk)] at h
        exact .inr h
theorem closL_keep {cells : List (Str × Addr)} {x : Str} : ∀ (l : List (Str × NameKind)) (cs : List (Str × Addr)), (∃ c, cs.lookup x = some c) → ∃ c, (closL cells l cs).lookup x = some c
  | [], _, h => h
  | (n, k) :: r, cs, h => by
    unfold closL
    refine closL_keep r _ ?_
    split
    · rw [List.lookup_cons]
      split
      · exact ⟨_, rfl⟩
      · exact h
    · exact h
theorem closL_has {cells : List (Str × Addr)} {x : Str} : ∀ (l : List (Str × NameKind)) (cs : List (Str × Addr)), (x, NameKind.free) ∈ l → ∃ c, (closL cells l cs).lookup x = some c
  | (n, k) :: r, cs, h => by
    unfold closL
    rcases List.mem_cons.mp h with e | h
    · cases e
      refine closL_keep r _ ?_
      rw [if_pos (by simp), List.lookup_cons]
      simp
    · exact closL_has r _ h
theorem closure_pure {sc : Scope} {env : Env} (h : ∀ y ∈ sc.names, y.2 = .free → ∃ c, env.cells.lookup y.1 = some c) : closureFor sc env = pure (closL env.cells sc.names []) := by
  have := closL_pure (env := env) rfl sc.names [] h
  unfold closureFor
  simp only [bind_pure]
  exact this
theorem relabel_free {env : Env} {x : Str} : ∀ {names : List (Str × NameKind)}, names.lookup x = some .free →
    (names.map fun (n, k) => if (k == NameKind.free && env.scope.kind == .function && env.kindOf n == some .cell) then (n, NameKind.cell) else (n, k)).lookup x = some .cell ∨
    (names.map fun (n, k) => if (k == NameKind.free && env.scope.kind == .function && env.kindOf n == some .cell) then (n, NameKind.cell) else (n, k)).lookup x = some .free
  | [], h => by simp at h
  | (n, k) :: r, h => by
    have ih := @relabel_free env x r
    simp only [List.map_cons]
    by_cases hc : (k == NameKind.free && env.scope.kind == .function && env.kindOf n == some .cell) = true
    · rw [if_pos hc]
      simp only [List.lookup_cons] at h ⊢
      cases hx : x == n with
      | true => exact .inl rfl
      | false => simp only [hx] at h ⊢; exact ih h
    · rw [if_neg hc]
      simp only [List.lookup_cons] at h ⊢
      cases hx : x == n with
      | true => simp only [hx] at h ⊢; exact .inr h
      | false => simp only [hx] at h ⊢; exact ih h
theorem relabel_back {env : Env} {x : Str} : ∀ {names : List (Str × NameKind)},
    (names.map fun (n, k) => if (k == NameKind.free && env.scope.kind == .function && env.kindOf n == some .cell) then (n, NameKind.cell) else (n, k)).lookup x = some .cell ∨
    (names.map fun (n, k) => if (k == NameKind.free && env.scope.kind == .function && env.kindOf n == some .cell) then (n, NameKind.cell) else (n, k)).lookup x = some .free →
    (x, NameKind.free) ∈ names ∨ (x, NameKind.cell) ∈ names
  | [], h => by simp at h
  | (n, k) :: r, h => by
    have ih := @relabel_back env x r
    simp only [List.map_cons] at h
    have tl : (x, NameKind.free) ∈ r ∨ (x, NameKind.cell) ∈ r → (x, NameKind.free) ∈ (n, k) :: r ∨ (x, NameKind.cell) ∈ (n, k) :: r := fun q => q.imp (List.mem_cons_of_mem _) (List.mem_cons_of_mem _)
    by_cases hc : (k == NameKind.free && env.scope.kind == .function && env.kindOf n == some .cell) = true
    · rw [if_pos hc] at h
      have hk : k = .free := by
        simp only [Bool.and_eq_true] at hc
        simpa using hc.1.1
      simp only [List.lookup_cons] at h
      cases hx : x == n with
      | true =>
        have e : x = n := by simpa using hx
        subst e hk
        exact .inl List.mem_cons_self
      | false => simp only [hx] at h; exact tl (ih h)
    · rw [if_neg hc] at h
      simp only [List.lookup_cons] at h
      cases hx : x == n with
      | true =>
        have e : x = n := by simpa using hx
        subst e
        simp only [hx] at h
        rcases h with h | h
        · cases h; exact .inr List.mem_cons_self
        · cases h; exact .inl List.mem_cons_self
      | false => simp only [hx] at h; exact tl (ih h)
structure CompScope (osc : Scope) (N : List Str) (sc : Scope) (M : List Str) (ρ : List (Option Nat)) : Prop where
  kind : sc.kind = .function
  nocell : ∀ y ∈ sc.names, y.2 ≠ .cell
  own : ∀ y ∈ sc.names, y.2 = .local → sc.names.lookup y.1 = some .local
  fre : ∀ y ∈ sc.names, y.2 = .free → osc.names.lookup y.1 = some .cell ∨ osc.names.lookup y.1 = some .free
  len : ρ.length = M.length
  ren : ∀ p ∈ ρ.zip M, (match p.1 with | none => true | some i => decide (N[i]? = some p.2 ∧ sc.names.lookup p.2 = some .free)) = true
  nd : M.Nodup
noncomputable def subS (ρ : List (Option Nat)) (σ : St) : St := ρ.map fun o => match o with | none => none | some i => (σ[i]?).join
noncomputable def cxComp (X : Cx) (sc : Scope) (cl : List (Str × Addr)) (C : Addr) (M : List Str) (s : Shared) (H : Hp) (fp : List Addr) (xe : Value → Shared → Prop) : Cx where
  prog := X.prog
  w := X.w
  K := X.K
  mg := X.mg
  base := X.base
  A := X.A
  N := M
  s₀ := s
  H₀ := H
  env := compEnvC sc cl C X.env
  outer := X.stack
  stack := X.stack
  ex := fp
  fn := fun _ => false
  calm := X.calm
  pn := []
  xe := xe
theorem comp_loop {P : Program} {w : World} {A : Around} {R : Result → Shared → Prop} {s : Shared} {elt tg iter : Expr} {ifs : List Expr} {sc : Scope} {pos : Pos} {it acc : Value} {env : Env} (J : Nat → Shared → Prop)
    (turn : ∀ n s, J n s → wpAny (model P w) A (pyNext it) (fun r s1 => match r with
      | none => R (.ok .next) s1
      | some v => wpAny (model P w) A (letOwnedTupleGo tg it v) (fun _ s2 => wpAny (model P w) A (assign tg env v) (fun _ s3 =>
          wpAny (model P w) A (forIn ifs true fun c r => if r = true then do let ok ← isTrue c env (eval c env); pure (ForInStep.yield ok) else pure (ForInStep.yield r)) (fun ok s4 =>
            if ok = true then wpAny (model P w) A (eval elt env) (fun x s5 => wpAny (model P w) A (call (.builtin "list.append") [acc, x]) (fun _ s6 => ∃ m, m < n ∧ J m s6) (notedBy (model P w) A env fun e s' => R (.error e) s') s5)
              (notedBy (model P w) A env fun e s' => R (.error e) s') s4
            else ∃ m, m < n ∧ J m s4) (notedBy (model P w) A env fun e s' => R (.error e) s') s3) (notedBy (model P w) A env fun e s' => R (.error e) s') s2) (notedBy (model P w) A env fun e s' => R (.error e) s') s1)
      (notedBy (model P w) A env fun e s' => R (.error e) s') s)
    (n : Nat) (h : J n s) : codeAny (model P w) A (.compLoop (.ListComp elt [⟨tg, iter, ifs, 0⟩] sc pos) 0 it acc env) R s := by
  refine codeAny_loop rfl J (fun n s hJ => ?_) n h
  show wpAny (model P w) A ((compTurn (.ListComp elt [⟨tg, iter, ifs, 0⟩] sc pos) 0 it acc env).onRaise fun x => do noteFrame x env; theTreesLotGoes x) _ _ s
  refine wpAny_noted ?_
  rw [compTurn_list]
  refine wpAny_bind (wpAny_standAt (wpAny_bind (thn (turn n s hJ) fun r s1 h1 => ?_)))
  cases r with
  | none => exact wpAny_pure h1
  | some v =>
    refine wpAny_bind (thn h1 fun _ s2 h2 => wpAny_bind (thn h2 fun _ s3 h3 => wpAny_bind (thn h3 fun ok s4 h4 => ?_)))
    cases ok with
    | false => exact wpAny_pure ⟨rfl, h4⟩
    | true => exact wpAny_bind (wpAny_bind (thn h4 fun x s5 h5 => wpAny_bind (thn h5 fun _ s6 h6 => wpAny_pure (wpAny_pure ⟨rfl, h6⟩))))
noncomputable def PTs (X : Cx) (ifs : List Expr) (t : TT) : Prop :=
  ∀ (pins : List (Addr × Obj)) (s : Shared) (σ : St) (H : Hp) (Q : Bool → Hp → Prop), Inv X pins σ H s → t σ H Q →
    wpAny (model X.prog X.w) X.A (forIn ifs true fun c r => if r = true then do let ok ← isTrue c X.env (eval c X.env); pure (ForInStep.yield ok) else pure (ForInStep.yield r)) (TP X pins σ Q) X.xe s
noncomputable def tNoTest : TT := fun _ H Q => Q true H
theorem ntG {i : Nat} {v : V} {σ : St} {H : Hp} {A B : St → Hp → Prop} (h : A (σ.set i (some v)) H) : gName i v σ H (fun σ4 H4 => tNoTest σ4 H4 fun b H5 => if b = true then A σ4 H5 else B σ4 H5) := by
  show if true = true then A (σ.set i (some v)) H else B (σ.set i (some v)) H
  exact iteT h
theorem pts_nil {X : Cx} : PTs X [] tNoTest := fun _ _ _ H _ I h => wpAny_tests_nil ⟨H, I, h⟩
noncomputable def tComp (wi : TI) (ρ : List (Option Nat)) (g : TG) (tt : TT) (te : TE) : TE := fun σ H Q => wi σ H fun J H1 => ∀ D, H1 D = none → ∃ W : Nat → Nat → St → Hp → Prop, (∃ m, W 0 m (subS ρ σ) (upd H1 D (.lst []))) ∧ ∀ i m σ2 H2, W i m σ2 H2 →
  (J.stop i H2 ∧ Q (.ref D) H2) ∨ (J.go i H2 ∧ ∃ N : St → Hp → Prop, (∀ σ' H', N σ' H' → ∃ m', m' < m ∧ W (i + 1) m' σ' H') ∧ ∀ x H3, J.yld i H2 x H3 → g x σ2 H3 fun σ4 H4 => tt σ4 H4 fun b H5 =>
    if b = true then te σ4 H5 fun y H6 => ∃ ys, H6 D = some (.lst ys) ∧ ys.length < sizeLine ∧ N σ4 (upd H6 D (.lst (ys ++ [y])))
    else N σ4 H5)
theorem comp_by {J : It} {g : TG} {tt : TT} {te : TE} {Q : Hp → Prop} {σ : St} {H : Hp} {D : Addr} (n : Nat) (Pv : Nat → St → Hp → Prop) (h0 : Pv 0 σ (upd H D (.lst [])))
    (hs : ∀ i σ2 H2, i < n → Pv i σ2 H2 → J.go i H2 ∧ ∀ x H3, J.yld i H2 x H3 → g x σ2 H3 fun σ4 H4 => tt σ4 H4 fun b H5 =>
      if b = true then te σ4 H5 fun y H6 => ∃ ys, H6 D = some (.lst ys) ∧ ys.length < sizeLine ∧ Pv (i + 1) σ4 (upd H6 D (.lst (ys ++ [y]))) else Pv (i + 1) σ4 H5)
    (hd : ∀ σ2 H2, Pv n σ2 H2 → J.stop n H2 ∧ Q H2) :
    ∃ W : Nat → Nat → St → Hp → Prop, (∃ m, W 0 m σ (upd H D (.lst []))) ∧ ∀ i m σ2 H2, W i m σ2 H2 →
      (J.stop i H2 ∧ Q H2) ∨ (J.go i H2 ∧ ∃ N : St → Hp → Prop, (∀ σ' H', N σ' H' → ∃ m', m' < m ∧ W (i + 1) m' σ' H') ∧ ∀ x H3, J.yld i H2 x H3 → g x σ2 H3 fun σ4 H4 => tt σ4 H4 fun b H5 =>
        if b = true then te σ4 H5 fun y H6 => ∃ ys, H6 D = some (.lst ys) ∧ ys.length < sizeLine ∧ N σ4 (upd H6 D (.lst (ys ++ [y]))) else N σ4 H5) := by
  refine ⟨fun i m σ H => m = n - i ∧ i ≤ n ∧ Pv i σ H, ⟨n, by simp, Nat.zero_le _, h0⟩, ?_⟩
  rintro i m σ2 H2 ⟨rfl, hi, p⟩
  by_cases hlt : i < n
  · obtain ⟨h1, h2⟩ := hs i σ2 H2 hlt p
    exact .inr ⟨h1, Pv (i + 1), fun σ' H' p' => ⟨n - (i + 1), by omega, rfl, hlt, p'⟩, h2⟩
  · have e : i = n := by omega
    subst e
    exact .inl (hd σ2 H2 p)
section
variable {X : Cx} {tg elt iter : Expr} {ifs : List Expr} {sc : Scope} {pos : Pos} {M : List Str} {ρ : List (Option Nat)} {wi : TI} {g : TG} {tt : TT} {te : TE}
theorem comp_block (osc : Scope) (hosc : X.env.scope = osc) (N : List Str) (hN : X.N = N) (S : CompScope osc N sc M ρ) (hc : X.calm = true)
    (hg : ∀ cl C s H fp xe, PG (cxComp X sc cl C M s H fp xe) tg g) (ht : ∀ cl C s H fp xe, PTs (cxComp X sc cl C M s H fp xe) ifs tt) (he : ∀ cl C s H fp xe, PE (cxComp X sc cl C M s H fp xe) elt te)
    {pins : List (Addr × Obj)} {σ : St} {H : Hp} {s : Shared} {itv : Value} {Q : VK} {RR : Value → Addr → Result → Shared → Prop} (I : Inv X pins σ H s)
    (h2 : PIE X pins σ tg (fun J H1 => ∀ D, H1 D = none → ∃ W : Nat → Nat → St → Hp → Prop, (∃ m, W 0 m (subS ρ σ) (upd H1 D (.lst []))) ∧ ∀ i m σ2 H2, W i m σ2 H2 →
      (J.stop i H2 ∧ Q (.ref D) H2) ∨ (J.go i H2 ∧ ∃ N : St → Hp → Prop, (∀ σ' H', N σ' H' → ∃ m', m' < m ∧ W (i + 1) m' σ' H') ∧ ∀ x H3, J.yld i H2 x H3 → g x σ2 H3 fun σ4 H4 => tt σ4 H4 fun b H5 =>
        if b = true then te σ4 H5 fun y H6 => ∃ ys, H6 D = some (.lst ys) ∧ ys.length < sizeLine ∧ N σ4 (upd H6 D (.lst (ys ++ [y])))
        else N σ4 H5)) itv s)
    (hR : ∀ (D C : Addr) (H' : Hp) (s' : Shared) (mC : Str → Option Value), Inv X pins σ H' s' → s'.heap.Ns C mC → FpOk X pins H' C → Q (.ref D) H' → RR (.ref D) C (.ok .next) s') :
    wpAny (model X.prog X.w) X.A (newList []) (fun acc s3 => wpAny (model X.prog X.w) X.A (newFunctionEnv sc X.env.globals (closL X.env.cells sc.names []) [] X.env.qual none .none (some X.env)) (fun cenv s4 =>
      codeAny (model X.prog X.w) X.A (.compStart (.ListComp elt [⟨tg, iter, ifs, 0⟩] sc pos) 0 itv acc { cenv with scope := relabel sc X.env }) (RR acc cenv.locals) s4) X.xe s3) X.xe s := by
  subst hosc hN
  obtain ⟨it, fp, tn, J, H2, rfl, I2, T, st2, f2, q2⟩ := h2
  have hcells : ∀ y ∈ sc.names, y.2 = .free → ∃ c, X.env.cells.lookup y.1 = some c := fun y hy hf => I2.ok.has y.1 (S.fre y hy hf)
  have hclx : ∀ {x c}, (closL X.env.cells sc.names []).lookup x = some c → X.env.cells.lookup x = some c := fun {x c} e => (closL_lookup _ _ hcells e).elim id fun z => by simp at z
  generalize hcl : closL X.env.cells sc.names [] = cl at hclx ⊢
  refine wpAny_newObj_type (wpAny_newFunctionEnv S.nocell (by intro y hy; simp at hy) (fun h1 hns hsb => ?_) S.kind)
  dsimp only at hns hsb ⊢
  generalize hG : s.heap.push { cls := .type "list", dict := none, data := .seq ([] : List Value).toArray } = G at hns hsb ⊢
  have hC : G.objs.size = s.heap.objs.size + 1 := by rw [← hG, Heap.size_push]
  have old : ∀ b o, s.heap.get? b = some o → h1.get? b = some o := fun b o e =>
    hsb.extBut b o (Nat.ne_of_lt (by rw [hC]; exact Nat.lt_succ_of_lt (Heap.lt_size e))) (Heap.get?_push_of_some _ (hG ▸ Heap.get?_push_of_some _ e))
  have hD1 : h1.get? s.heap.objs.size = some { cls := .type "list", dict := none, data := .seq ([] : List Value).toArray } :=
    hsb.extBut _ _ (by rw [hC]; exact Nat.ne_of_lt (Nat.lt_succ_self _)) (Heap.get?_push_of_some _ (hG ▸ Heap.get?_push_size _ rfl))
  have hDn : H2 s.heap.objs.size = none := I2.hok.fresh (Nat.le_refl _)
  obtain ⟨W, ⟨m0, w0⟩, turn⟩ := q2 s.heap.objs.size hDn
  have hCle : s.heap.objs.size ≤ G.objs.size := by rw [hC]; exact Nat.le_succ _
  have hCD : G.objs.size ≠ s.heap.objs.size := by rw [hC]; exact Nat.succ_ne_self _
  generalize hxe : notedBy (model X.prog X.w) X.A (compEnvC sc cl G.objs.size X.env) (fun e s' => RR (.ref s.heap.objs.size) G.objs.size (.error e) s') = xe
  have fpC : ∀ b ∈ fp, b ≠ G.objs.size := fun b hb => by
    obtain ⟨o, e, _⟩ := T.obj 0 _ st2 b hb
    have := Heap.lt_size e
    exact Nat.ne_of_lt (Nat.lt_of_lt_of_le this hCle)
  have fpS : ∀ b ∈ fp, b ∉ frs X.stack := fun b hb z => by
    obtain ⟨f0, f1, f3, _⟩ := f2 b hb
    rcases List.mem_cons.mp (I2.stkSub b z) with e | e
    · exact f1 e
    · exact f3 e
  have hok : (cxComp X sc cl G.objs.size M s H2 fp xe).Ok := by
    refine ⟨I2.ok.mod, S.kind, I2.ok.glob, I2.ok.blt, hCle, fun x y c e1 e2 => I2.ok.inj x y c (hclx e1) (hclx e2), fun x hx => ?_, (fun x c e _ => absurd (show false = true from e) Bool.false_ne_true), I2.ok.hd, I2.ok.frames, .inl rfl, fun b hb => ⟨fpC b hb, fun x c e => (f2 b hb).2.2.2.2.1 x c (hclx e)⟩,
      I2.bs, Nat.le_trans I2.ok.bsz I2.sz, fun b o e hb => ?_, fpS, I2.stack, I2.stkFree⟩
    · rcases relabel_back (names := sc.names) (env := X.env) hx with q | q
      · rw [← hcl]; exact closL_has _ _ q
      · exact absurd rfl (S.nocell _ q)
    · rcases (f2 b hb).2.2.2.1 with z | z
      · exact I2.ok.noex b o e z
      · exact absurd (Nat.lt_of_lt_of_le (Heap.lt_size e) (Nat.le_trans I2.ok.bsz z)) (Nat.lt_irrefl _)
  have I4 : Inv (cxComp X sc cl G.objs.size M s H2 fp xe) [] (subS ρ σ) (upd H2 s.heap.objs.size (.lst [])) { s with heap := h1, toks := s.toks + ([] : List (Str × Value)).length } := by
    refine ⟨hok, rfl, I2.bare, Un.laid old (Nat.le_refl _) hDn, ⟨_, hns, fun j x v e1 e2 _ => ?_⟩, fun x c e => ?_, ?_, fun x c e => ?_, fun p hp => absurd (show p ∈ ([] : List (Addr × Obj)) from hp) (by simp), I2.hok.laid old (Nat.le_refl _) ⟨by show 0 ≤ sizeLine; decide, [], 0, .nil, hD1⟩, ?_⟩
    · unfold subS at e2
      rw [List.getElem?_map] at e2
      cases q : ρ[j]? with
      | none => rw [q] at e2; cases e2
      | some o =>
        rw [q] at e2
        cases o with
        | none => cases e2
        | some i =>
          have e2' : (σ[i]?).join = some v := Option.some.inj e2
          have e3 : σ[i]? = some (some v) := by
            cases z : σ[i]? with
            | none => rw [z] at e2'; cases e2'
            | some y => rw [z] at e2'; cases y with
              | none => cases e2'
              | some y => cases e2'; rfl
          have hz : (ρ.zip M)[j]? = some (some i, x) := List.getElem?_zip_eq_some.mpr ⟨q, e1⟩
          have hr := S.ren (some i, x) (List.mem_of_getElem? hz)
          obtain ⟨r1, r2⟩ := of_decide_eq_true hr
          obtain ⟨m, hn, hl⟩ := I2.loc
          have hfr := S.fre _ (PySem.mem_of_lookup r2) rfl
          obtain ⟨u, ru, lk⟩ := hl i x v r1 e3 (hfr.elim (fun z => .inr (.inl z)) fun z => .inr (.inr z))
          refine ⟨u, ru, ?_⟩
          rcases lk with ⟨k, _⟩ | ⟨_, c, hcc, cell⟩
          · have k' : X.env.scope.names.lookup x = some .local := k
            rcases hfr with z | z
            · rw [k'] at z; cases z
            · rw [k'] at z; cases z
          · obtain ⟨c', hc'⟩ := closL_has (cells := X.env.cells) sc.names [] (PySem.mem_of_lookup r2)
            rw [hcl] at hc'
            have := hclx hc'
            rw [hcc] at this
            cases this
            obtain ⟨oc, ho, hd⟩ := cell
            exact .inr ⟨relabel_free r2, _, hc', oc, old _ _ ho, hd⟩
    · obtain ⟨v, oc, ho, hd⟩ := I2.cell x c (hclx e)
      exact ⟨v, oc, old _ _ ho, hd⟩
    · show upd H2 s.heap.objs.size (.lst []) G.objs.size = none
      rw [upd_ne hCD]
      exact I2.hok.fresh hCle
    · show upd H2 s.heap.objs.size (.lst []) c = none
      obtain ⟨v, oc, ho, hd⟩ := I2.cell x c (hclx e)
      rw [upd_ne (Nat.ne_of_lt (Heap.lt_size ho))]
      exact I2.freeC x c (hclx e)
    · show (subS ρ σ).length = M.length
      unfold subS
      rw [List.length_map, S.len]
  have st4 : tn 0 h1 := T.keep 0 _ _ st2 fun b _ o e => old b o e
  have fr4 : ∀ b ∈ fp, upd H2 s.heap.objs.size (.lst []) b = none := fun b hb => by
    obtain ⟨o, e, _⟩ := T.obj 0 _ st2 b hb
    rw [upd_ne (Nat.ne_of_lt (Heap.lt_size e))]
    exact (f2 b hb).1
  have stat : ∀ {H' : Hp}, (∀ b ∈ fp, H' b = none) → ∀ b ∈ fp, FpOk (cxComp X sc cl G.objs.size M s H2 fp xe) [] H' b := fun hn b hb =>
    ⟨hn b hb, fpC b hb, fpS b hb, .inl hb, fun x c e => (f2 b hb).2.2.2.2.1 x c (hclx e), fun p hp => absurd (show p ∈ ([] : List (Addr × Obj)) from hp) (by simp)⟩
  have loop : codeAny (model X.prog X.w) X.A (.compLoop (.ListComp elt [⟨tg, iter, ifs, 0⟩] sc pos) 0 (.ref it) (.ref s.heap.objs.size) (compEnvC sc cl G.objs.size X.env)) (RR (.ref s.heap.objs.size) G.objs.size)
      { s with heap := h1, toks := s.toks + ([] : List (Str × Value)).length } := by
    refine comp_loop (fun n s' => ∃ i σ' H', Inv (cxComp X sc cl G.objs.size M s H2 fp xe) [] σ' H' s' ∧ tn i s'.heap ∧ (∀ b ∈ fp, H' b = none) ∧ W i n σ' H') ?_ m0 ⟨0, _, _, I4, st4, fr4, w0⟩
    rw [hxe]
    rintro n s3 ⟨i, σ3, H3, I3, st3, fr3, w3⟩
    rcases turn i n σ3 H3 w3 with ⟨stop, qn⟩ | ⟨go, N, hN, step⟩
    · refine thn (T.done (cxComp X sc cl G.objs.size M s H2 fp xe) rfl rfl rfl hc i [] s3 σ3 H3 xe I3 (stat fr3) st3 stop) fun r s4 ⟨hr, I5⟩ => ?_
      subst hr
      obtain ⟨mC, nC, _⟩ := I5.loc
      have I6 : Inv X pins σ H3 s4 := I2.call' I5.os I5.base I5.hok I5.bare fun b hb => ⟨(f2 b hb).2.2.2.1, (f2 b hb).2.1, (f2 b hb).2.2.2.2.1, (f2 b hb).2.2.2.2.2⟩
      exact hR _ _ H3 s4 mC I6 nC (I2.fpOk hCle I5.free) qn
    · refine thn (T.item (cxComp X sc cl G.objs.size M s H2 fp xe) rfl rfl rfl hc i [] s3 σ3 H3 xe I3 (stat fr3) st3 go) fun r s4 ⟨u, hr, h4⟩ => ?_
      subst hr
      refine thn h4 fun _ s5 ⟨x, H5, I5, r5, y5, st5, fr5⟩ => ?_
      have I5' := I5.pinned (stat fr5) (T.obj _ _ st5)
      refine thn (hg cl G.objs.size s H2 fp xe _ s5 σ3 H5 x u _ I5' r5 (step x H5 y5)) fun _ s6 ⟨σ6, H6, I6, q6⟩ => ?_
      have fin : ∀ {s7 : Shared} {σ7 : St} {H7 : Hp}, Inv (cxComp X sc cl G.objs.size M s H2 fp xe) ([] ++ pinsAt fp s5.heap) σ7 H7 s7 → (∃ m', m' < n ∧ W (i + 1) m' σ7 H7) →
          ∃ m, m < n ∧ ∃ i σ' H', Inv (cxComp X sc cl G.objs.size M s H2 fp xe) [] σ' H' s7 ∧ tn i s7.heap ∧ (∀ b ∈ fp, H' b = none) ∧ W i m σ' H' := fun {s7 σ7 H7} I7 ⟨m', hm, w7⟩ => by
        refine ⟨m', hm, i + 1, σ7, H7, I7.unpinned, T.keep _ _ _ st5 fun b hb o e => (I7.pin (b, o) (List.mem_append_right _ (List.mem_append_right _ (mem_pinsAt hb e)))).1, fun b hb => ?_, w7⟩
        obtain ⟨o, e, d⟩ := T.obj _ _ st5 b hb
        exact (I7.pin (b, o) (List.mem_append_right _ (List.mem_append_right _ (mem_pinsAt hb e)))).2.1
      refine thn (ht cl G.objs.size s H2 fp xe _ s6 σ6 H6 _ I6 q6) fun ok s7 ⟨H7, I7, q7⟩ => ?_
      cases ok with
      | false =>
        rw [if_neg Bool.false_ne_true] at q7 ⊢
        exact fin I7 (hN _ _ q7)
      | true =>
        rw [if_pos rfl] at q7 ⊢
        refine thn (he cl G.objs.size s H2 fp xe _ s7 σ6 H7 _ I7 q7) fun y s8 ⟨yv, H8, I8, r8, ys, hys, hlt, q8⟩ => ?_
        obtain ⟨z, its, k, rv, hl, e⟩ := I8.lstM hys
        refine call_meets F.slot_list_append ⟨_, e, rfl⟩ F.entry_list_append (F.args_list_append_2 _ _) (PySem.list_append _ its.toArray k y (by rw [List.size_toArray]; omega)) ⟨e, ?_⟩
        exact fin (I8.lset (its' := its ++ [y]) hys e (by simp) (rv.append (.cons r8 .nil)) (by rw [List.length_append, List.length_singleton]; omega)) (hN _ _ q8)
  exact codeAny_compStart_list loop (T.self X.A 0 _ _ _ st4 loop)
theorem pe_comp (osc : Scope) (N : List Str) (S : CompScope osc N sc M ρ) (hi : PI X tg iter wi) (hg : ∀ cl C s H fp xe, PG (cxComp X sc cl C M s H fp xe) tg g) (ht : ∀ cl C s H fp xe, PTs (cxComp X sc cl C M s H fp xe) ifs tt)
    (he : ∀ cl C s H fp xe, PE (cxComp X sc cl C M s H fp xe) elt te) (hosc : X.env.scope = osc := by rfl) (hN : X.N = N := by rfl) (hc : X.calm = true := by rfl) (hs : ∀ x, foldedSetIterable iter X.env x = pure x := by intro _; rfl) :
    PE X (.ListComp elt [⟨tg, iter, ifs, 0⟩] sc pos) (tComp wi ρ g tt te) := by
  intro pins s σ H Q I h
  have hcells : ∀ y ∈ sc.names, y.2 = .free → ∃ c, X.env.cells.lookup y.1 = some c := fun y hy hf => I.ok.has y.1 (by show X.env.scope.names.lookup y.1 = _ ∨ X.env.scope.names.lookup y.1 = _; rw [hosc]; exact S.fre y hy hf)
  rw [eval_ListComp]
  refine wpAny_comprehension_free (M := model X.prog X.w) (A := X.A) (E := X.xe) (e := .ListComp elt [⟨tg, iter, ifs, 0⟩] sc pos) rfl hs (closure_pure hcells) S.kind S.own (thn (hi pins s σ H _ I h) fun v s1 h1 => thn h1 fun itv s2 h2 => ?_)
  obtain ⟨_, _, _, _, _, _, I2, _⟩ := id h2
  refine comp_block (RR := fun acc C => compPost (model X.prog X.w) X.A X.xe none (EP X pins σ Q) acc C) osc hosc N hN S hc hg ht he I2 h2 fun D C H' s' mC I' nC fC q => ?_
  refine ⟨mC, nC, fun h' sb => ?_⟩
  obtain ⟨f0, f1, _, f3, f4, f5⟩ := fC
  exact ⟨.ref D, H', I'.turned (t' := s'.toks) (fun b o hb e => (sb.2 b hb).trans e) f0 f1 f3 f4 f5, rfl, q⟩
theorem ps_setC {j : Nat} {x : Str} {px spos : Pos} (osc : Scope) (N : List Str) (S : CompScope osc N sc M ρ) (hNd : X.N.Nodup) (hj : X.N[j]? = some x) (hx : Loc X.env.scope x) (hi : PI X tg iter wi) (hg : ∀ cl C s H fp xe, PG (cxComp X sc cl C M s H fp xe) tg g)
    (ht : ∀ cl C s H fp xe, PTs (cxComp X sc cl C M s H fp xe) ifs tt) (he : ∀ cl C s H fp xe, PE (cxComp X sc cl C M s H fp xe) elt te)
    (hsw : swapsWith (.ListComp elt [⟨tg, iter, ifs, 0⟩] sc pos) (some (.Name x px)) spos.line X.env = pure true := by rfl) (hosc : X.env.scope = osc := by rfl) (hN : X.N = N := by rfl) (hc : X.calm = true := by rfl) (hs : ∀ x, foldedSetIterable iter X.env x = pure x := by intro _; rfl)
    (hf : X.fn x = true ∨ X.env.scope.names.lookup x = some .local := by first | exact .inl rfl | exact .inr rfl | assumption) :
    PS X (.Assign [.Name x px] (.ListComp elt [⟨tg, iter, ifs, 0⟩] sc pos) spos) (tAsg (tComp wi ρ g tt te) (gName j)) := by
  intro pins s σ H D I h
  have hcells : ∀ y ∈ sc.names, y.2 = .free → ∃ c, X.env.cells.lookup y.1 = some c := fun y hy hf => I.ok.has y.1 (by show X.env.scope.names.lookup y.1 = _ ∨ X.env.scope.names.lookup y.1 = _; rw [hosc]; exact S.fre y hy hf)
  rw [exec_Assign_Name_used _ _ _ _ hsw]
  refine wpAny_bind (wpAny_standAt (wpAny_bind ?_))
  show wpAny (model X.prog X.w) X.A (do let _ ← comprehension (.ListComp elt [⟨tg, iter, ifs, 0⟩] sc pos) sc X.env (firstIterPos [⟨tg, iter, ifs, 0⟩] pos) (newList []) false (eval iter X.env) (some (assign (.Name x px) X.env))) _ X.xe s
  refine wpAny_bind (thn (Q := fun _ s' => SP X pins D .next s') (wpAny_comprehension_free (M := model X.prog X.w) (A := X.A) (E := X.xe) (e := .ListComp elt [⟨tg, iter, ifs, 0⟩] sc pos) (use := some (assign (.Name x px) X.env)) rfl hs (closure_pure hcells) S.kind S.own
    (thn (hi pins s σ H _ I h) fun v s1 h1 => thn h1 fun itv s2 h2 => ?_)) fun _ s' hq => wpAny_pure (wpAny_pure hq))
  obtain ⟨_, _, _, _, _, _, I2, _⟩ := id h2
  refine comp_block (Q := fun v H' => gName j v σ H' D.nx) (RR := fun acc C => compPost (model X.prog X.w) X.A X.xe (some (assign (.Name x px) X.env)) (fun _ s' => SP X pins D .next s') acc C) osc hosc N hN S hc hg ht he I2 h2 fun D' C H' s' mC I' nC fC q => ?_
  show wpAny _ _ (assign (.Name x px) X.env (.ref D')) _ _ s'
  refine wpAny_assign_Name (store_ok2 I' hNd hj hx (v := .ref D') rfl (fun s3 I3 ⟨a, sb, ha⟩ => ?_) hf)
  have hCa : C ≠ a := by
    rcases ha with e | e
    · rw [e]; exact fC.2.1
    · exact fun z => fC.2.2.2.2.1 x a e z.symm
  refine ⟨mC, nC.sameBut sb hCa, fun h' sb2 => ?_⟩
  obtain ⟨f0, f1, _, f3, f4, f5⟩ := fC
  exact ⟨_, H', I3.turned (t' := s3.toks) (fun b o hb e => (sb2.2 b hb).trans e) f0 f1 f3 f4 f5, q⟩
end
end L2
set_option Elab.async false
set_option linter.all false
set_option maxRecDepth 100000
set_option maxHeartbeats 4000000
namespace L2
open PySem PySem.Spec PyProof.Rows
noncomputable def Its (x : Str) : It := ⟨fun i _ => i < x.cps.size, fun i H v H' => H' = H ∧ ∃ c, x.cps.toList[i]? = some c ∧ v = .str ⟨#[c]⟩, fun i _ => x.cps.size ≤ i⟩
theorem turn_str {P : Program} {w : World} {K : PySem.W.Frag} {tg : Expr} (x : Str) (t : Tok) (it : Addr) (ty : String) (hty : ty = "str_ascii_iterator" ∨ ty = "str_iterator") : Turn P w K tg (Its x) [it] it (fun i h => h.IsStrIter it ty x t i) where
  mem := by simp
  obj := fun i h st b hb => by
    have e : b = it := by simpa using hb
    subst e
    obtain ⟨o, e, c, d⟩ := st
    exact ⟨o, e, fun v z => by rw [d] at z; cases z⟩
  keep := fun i h h' st k => by
    obtain ⟨o, e, c, d⟩ := st
    exact ⟨o, k it (by simp) o e, c, d⟩
  item := by
    intro X hP hw hK hc i pins s σ H E I hf st hg
    subst hP hw hK
    obtain ⟨f0, f1, f2, f3, f4, f5⟩ := hf it (by simp)
    have hg' : i < x.cps.size := hg
    have hn : ["enumerate", "zip", "dict_itemiterator", "dict_reverseitemiterator", "odict_iterator", "itertools.zip_longest", "itertools.pairwise"].contains ty = false := by rcases hty with e | e <;> subst e <;> decide
    have fin : ∀ (v : Value) (h' : Heap) (tk : Nat), SignAt x i v → h'.IsStrIter it ty x t (i + 1) → (∀ b o, b ∉ [it] → s.heap.get? b = some o → h'.get? b = some o) → ∃ u, some v = some u ∧
        wpAny (model X.prog X.w) X.A (letOwnedTupleGo tg (.ref it) u) (fun _ s2 => ∃ y H', Inv X pins σ H' s2 ∧ RelV y u ∧ (Its x).yld i H y H' ∧ s2.heap.IsStrIter it ty x t (i + 1) ∧ ∀ b ∈ [it], H' b = none) E { s with heap := h', toks := tk } := fun v h' tk hv st' kk => by
      obtain ⟨c, u, hc', rfl⟩ := hv
      have I1 : Inv X pins σ H { s with heap := h', toks := tk } := I.turned (fun b o hb e => kk b o (by simpa using hb) e) f0 f1 f3 f4 f5
      obtain ⟨o, e, c', d⟩ := id st'
      exact ⟨_, rfl, go_of (s := { s with heap := h', toks := tk }) e c' d hn ⟨.str ⟨#[c]⟩, H, I1, ⟨u, rfl⟩, ⟨rfl, c, by rw [← hc']; simp, rfl⟩, st', fun b hb => (hf b hb).1⟩⟩
    rcases hty with e | e
    · subst e
      exact (Walks.strAscii (prog := X.prog) (w := X.w) (I.ok.hd hc) it x t).item i s _ _ hg' st fun v h' tk hv st' kk => fin v h' tk hv st' kk
    · subst e
      exact (Walks.strWide (prog := X.prog) (w := X.w) (I.ok.hd hc) it x t).item i s _ _ hg' st fun v h' tk hv st' kk => fin v h' tk hv st' kk
  done := by
    intro X hP hw hK hc i pins s σ H E I hf st hg
    subst hP hw hK
    obtain ⟨f0, f1, f2, f3, f4, f5⟩ := hf it (by simp)
    have hg' : x.cps.size ≤ i := hg
    rcases hty with e | e
    · subst e
      exact wpAny_pyNext_ascii_end (I.ok.hd hc) st (by simpa using hg') fun h' eb => ⟨rfl, I.turned (t' := s.toks) (fun b o hb e => eb b o hb e) f0 f1 f3 f4 f5⟩
    · subst e
      exact wpAny_pyNext_wide_end (I.ok.hd hc) st (by simpa using hg') fun h' eb => ⟨rfl, I.turned (t' := s.toks) (fun b o hb e => eb b o hb e) f0 f1 f3 f4 f5⟩
  self := fun _ _ _ _ _ st h => by
    rcases hty with e | e
    · subst e; exact wpAny_pyIter_striter_ascii st h
    · subst e; exact wpAny_pyIter_striter_wide st h
noncomputable def Itr3 (lo c : Int) (n : Nat) : It := ⟨fun i _ => i < n, fun i H x H' => H' = H ∧ x = .int (lo + i * c), fun i _ => n ≤ i⟩
theorem turn_range3 {P : Program} {w : World} {K : PySem.W.Frag} {tg : Expr} (it : Addr) (lo c : Int) (n : Nat) : Turn P w K tg (Itr3 lo c n) [it] it (fun i h => IsRangeIter h it (lo + (i : Nat) * c) ((n : Int) - (i : Nat)) c) where
  mem := by simp
  obj := fun i h st b hb => by
    have e : b = it := by simpa using hb
    subst e
    exact ⟨_, st, fun v z => by
      have z' : Data.fields _ = Data.cell v := z
      cases z'⟩
  keep := fun i h h' st k => k it (by simp) _ st
  item := by
    intro X hP hw hK hc i pins s σ H E I hf st hg
    subst hP hw hK
    obtain ⟨f0, f1, f2, f3, f4, f5⟩ := hf it (by simp)
    refine (Walks.range (prog := X.prog) (w := X.w) (I.ok.hd hc) it lo c n).item i s _ _ hg st fun v h' tk hv st' kk => ?_
    obtain ⟨t, rfl⟩ := hv
    have I1 : Inv X pins σ H { s with heap := h', toks := tk } := I.turned (fun b o hb e => kk b o (by simpa using hb) e) f0 f1 f3 f4 f5
    exact ⟨_, rfl, go_of (s := { s with heap := h', toks := tk }) (n := "range_iterator") st' rfl rfl (by decide) ⟨.int (lo + i * c), H, I1, ⟨t, rfl⟩, ⟨rfl, rfl⟩, st', fun b hb => (hf b hb).1⟩⟩
  done := by
    intro X hP hw hK hc i pins s σ H E I hf st hg
    subst hP hw hK
    obtain ⟨f0, f1, f2, f3, f4, f5⟩ := hf it (by simp)
    exact wpAny_pyNext_range_end (I.ok.hd hc) st (by have : n ≤ i := hg; omega) fun h' eb => ⟨rfl, I.turned (t' := s.toks) (fun b o hb e => eb b o hb e) f0 f1 f3 f4 f5⟩
  self := fun _ _ _ _ _ st h => wpAny_pyIter_rangeiter st h
section
variable {X : Cx} {tg : Expr}
noncomputable def iStr (tl : TE) : TI := fun σ H R => tl σ H fun v H1 => ∃ x, v = .str x ∧ R (Its x) H1
theorem pi_str {l : Expr} {tl : TE} (hl : PE X l tl) : PI X tg l (iStr tl) := by
  intro pins s σ H R I h
  refine thn (hl pins s σ H _ I h) fun v s1 ⟨y, H1, I1, r1, q1⟩ => ?_
  obtain ⟨x, e, q⟩ := q1
  subst e
  obtain ⟨t, rfl⟩ := r1
  have fp1 : ∀ b ∈ [s1.heap.objs.size], FpOk X pins H1 b := fun b hb => by
    have e : b = s1.heap.objs.size := by simpa using hb
    subst e
    exact I1.fpOk (Nat.le_refl _) (I1.hok.fresh (Nat.le_refl _))
  cases ha : x.cps.all (· < 128)
  · exact wpAny_pyIter_wide ha ⟨s1.heap.objs.size, [s1.heap.objs.size], _, _, H1, rfl, I1.kept (t' := s1.toks) fun b o e => Heap.get?_push_of_some _ e, turn_str x t _ _ (.inr rfl), ⟨_, Heap.get?_push_size _ rfl, rfl, rfl⟩, fp1, q⟩
  · exact wpAny_pyIter_ascii ha ⟨s1.heap.objs.size, [s1.heap.objs.size], _, _, H1, rfl, I1.kept (t' := s1.toks) fun b o e => Heap.get?_push_of_some _ e, turn_str x t _ _ (.inl rfl), ⟨_, Heap.get?_push_size _ rfl, rfl, rfl⟩, fp1, q⟩
noncomputable def iRng3 (ta : TA) : TI := fun σ H R => ta σ H fun vs H1 => ∃ i j c : Int, vs = [.int i, .int j, .int c] ∧ (-(2 ^ 60) ≤ i ∧ i < 2 ^ 60 ∧ -(2 ^ 60) ≤ j ∧ j < 2 ^ 60 ∧ 0 < c ∧ c < 1000) ∧ R (Itr3 i c (Builtin.Range.rangeSize i j c).toNat) H1
theorem pi_range3 {a b c : Expr} {ta : TA} {p pos : Pos} (hg : Gl X "range") (hm : X.mg "range" = none) (ha : PA X [a, b, c] ta) (hs : starEach [a, b, c] X.env = [(false, eval a X.env), (false, eval b X.env), (false, eval c X.env)] := by rfl)
    (hs2 : starEach [b, c] X.env = [(false, eval b X.env), (false, eval c X.env)] := by rfl) :
    PI X tg (.Call (.Name "range" p) [a, b, c] [] pos) (iRng3 ta) := by
  intro pins s σ H R I h
  refine Call_ (ld_blt I hg hm boot_range (PyProof.Rows.callWith_type1 (thn (ha pos pins s σ H _ I h) fun us s1 ⟨vs, H1, I1, r1, q1⟩ => ?_) (by rw [hs, hs2]) (by rw [hs2]; rfl)))
  obtain ⟨i, j, k, e, ⟨q1, q2, q3, q4, q5, q6⟩, q⟩ := q1
  subst e
  cases r1 with
  | cons r rr =>
  cases rr with
  | cons r' rr =>
  cases rr with
  | cons r'' rr =>
  cases rr
  obtain ⟨t, rfl⟩ := r
  obtain ⟨t', rfl⟩ := r'
  obtain ⟨t'', rfl⟩ := r''
  have hd0 : (0 : Int) ≤ (j - i - 1) / k ∨ ¬ i < j := by
    by_cases hij : i < j
    · exact .inl (Int.ediv_nonneg (by omega) (by omega))
    · exact .inr hij
  have hd1 : (j - i - 1) / k ≤ j - i - 1 ∨ ¬ i < j := by
    by_cases hij : i < j
    · exact .inl (Int.ediv_le_self _ (by omega))
    · exact .inr hij
  have hsz : 0 ≤ Builtin.Range.rangeSize i j k ∧ Builtin.Range.rangeSize i j k ≤ 2 ^ 61 := by
    unfold Builtin.Range.rangeSize
    rw [if_pos (by omega)]
    split
    · constructor <;> omega
    · constructor <;> omega
  refine call_range_3 (by omega) ?_ (.inl (PyProof.noPylong_small (by omega)))
  refine wpAny_pyIter_range (IsRange.new ..) ?_ ?_
  · unfold Builtin.Range.small
    simp only [Builtin.Range.rangeFitsLong, Bool.and_eq_true, Bool.or_eq_true, decide_eq_true_eq, beq_iff_eq, show k > 0 from q5, if_true]
    omega
  have I2 : Inv X pins σ H1 { s1 with heap := s1.heap.push { cls := .type "range", data := .fields #[.int i t, .int j t', .int k t''] }, toks := s1.toks } := I1.kept fun b o e => Heap.get?_push_of_some _ e
  refine ⟨(s1.heap.push { cls := .type "range", data := .fields #[.int i t, .int j t', .int k t''] }).objs.size, [(s1.heap.push { cls := .type "range", data := .fields #[.int i t, .int j t', .int k t''] }).objs.size], _, _, H1, rfl,
    I2.kept (t' := s1.toks) fun b o e => Heap.get?_push_of_some _ e, turn_range3 _ i k (Builtin.Range.rangeSize i j k).toNat, ?_, fun b hb => ?_, q⟩
  · have e1 : i + ((0 : Nat) : Int) * k = i := by simp
    have e2 : (((Builtin.Range.rangeSize i j k).toNat : Nat) : Int) - ((0 : Nat) : Int) = Builtin.Range.rangeSize i j k := by omega
    show IsRangeIter _ _ (i + ((0 : Nat) : Int) * k) ((((Builtin.Range.rangeSize i j k).toNat : Nat) : Int) - ((0 : Nat) : Int)) k
    rw [e1, e2]
    exact Heap.get?_push_size _ rfl
  · have e : b = (s1.heap.push { cls := .type "range", data := .fields #[.int i t, .int j t', .int k t''] }).objs.size := by simpa using hb
    subst e
    exact I2.fpOk (Nat.le_refl _) (I2.hok.fresh (Nat.le_refl _))
theorem boolsAre_of {bs : List Bool} : ∀ {us : List Value}, Vals (bs.map V.bl) us → us = bs.map Value.bool := by
  induction bs with
  | nil => intro us r; cases r; rfl
  | cons b r ih =>
    intro us h
    cases h with
    | cons h1 h2 => cases h1; rw [ih h2]; rfl
theorem call_all (hc : X.calm = true) : CallR X (.builtin "all") (fun xs H Q => ∃ (p : Addr) (bs : List Bool), xs = [.ref p] ∧ SqL X.K H p (bs.map V.bl) ∧ Q (.bl (bs.all id)) H) := by
  intro pins s σ H xs us Q I r h
  obtain ⟨p, bs, rfl, hq, q⟩ := h
  obtain ⟨u, rfl, ru⟩ := vals1 r
  cases ru
  obtain ⟨its, r', pl, hz⟩ := I.list hq
  obtain rfl := boolsAre_of r'
  have hlt : p < s.heap.objs.size := by obtain ⟨_, _, e, _⟩ := pl; exact Heap.lt_size e
  refine call_all_walk (wpAny_pyIter_list pl.isList ?_)
  refine ⟨s.heap.objs.size, [s.heap.objs.size, p], [s.heap.objs.size], (bs.map Value.bool).toArray.size, _, _, fun i => (bs[i]?).getD true, rfl, Walks.list (A := X.A.in1) (I.ok.hd hc) _ p (Nat.ne_of_lt hlt) (bs.map Value.bool).toArray,
    ⟨⟨_, Heap.get?_push_size _ rfl, rfl, rfl⟩, pl.isList.push _⟩, fun i v s' Q' E' hP hQ => ?_, fun h' tk hk => ?_⟩
  · have hP' : (bs.map Value.bool)[i]? = some v := by simpa using hP
    rw [List.getElem?_map] at hP'
    obtain ⟨b, e, rfl⟩ := Option.map_eq_some_iff.mp hP'
    simp only [e, Option.getD_some] at hQ
    exact wpAny_truthy_bool hQ
  · have e : ((List.range (bs.map Value.bool).toArray.size).all fun i => (bs[i]?).getD true) = bs.all id := by
      rw [List.size_toArray, List.length_map]; exact LSm.range_all bs
    rw [e]
    exact ⟨.bl _, H, I.kept (LSm.kept_iter hk), rfl, q⟩
theorem call_int_text : CallR X (.type "int") (fun xs H Q => ∃ (x : Str) (n : Int), xs = [.str x] ∧ intText? x = some n ∧ x.length ≤ 640 ∧ Q (.int n) H) := by
  intro pins s σ H xs us Q I r h
  obtain ⟨x, n, rfl, hx, hl, q⟩ := h
  obtain ⟨u, rfl, t, rfl⟩ := vals1 r
  exact PySem.W.KIN.call_text hx hl ⟨.int n, H, I.tok _, ⟨_, rfl⟩, q⟩
theorem sl_listK {K : PySem.W.Frag} (h : X.K = K) : SlR X (rSlL K) := h ▸ sl_list
end
end L2
set_option Elab.async false
set_option linter.all false
set_option maxRecDepth 100000
set_option maxHeartbeats 4000000
namespace L2
open PySem PySem.Spec PyProof.Rows
noncomputable def PairAt (H : Hp) (v : V) (d : Str × Str) : Prop := ∃ p, v = .ref p ∧ H p = some (.tup [.str d.1, .str d.2]) ∧ NameOk d.1 ∧ NameOk d.2
noncomputable abbrev Pairs (H : Hp) : List V → List (Str × Str) → Prop := Paired (PairAt H)
theorem PairAt.mono {H H' : Hp} (s : Tups H H') {v : V} {t : Str × Str} (h : PairAt H v t) : PairAt H' v t := by
  obtain ⟨p, e, h, o⟩ := h
  exact ⟨p, e, s p _ h, o⟩
theorem Pairs.mono {H H' : Hp} (s : Tups H H') {vs : List V} {ts : List (Str × Str)} (h : Pairs H vs ts) : Pairs H' vs ts := Paired.mapP h fun _ _ q => q.mono s
structure PairsAt (H : Hp) (t : Addr) (ps : List (Str × Str)) : Prop where
  ex : ∃ vs, H t = some (.tup vs) ∧ Pairs H vs ps
  hi : ps.length ≤ 6
noncomputable def pairW : List (Str × Str) → List Str
  | [] => []
  | (g, o) :: r => g :: "as" :: o :: pairW r
theorem pairW_snoc (g o : Str) : ∀ ps, pairW (ps ++ [(g, o)]) = pairW ps ++ [g, "as", o]
  | [] => rfl
  | (a, b) :: r => by
    show a :: "as" :: b :: pairW (r ++ [(g, o)]) = _
    rw [pairW_snoc g o r]
    rfl
theorem pairW_len : ∀ ps, (pairW ps).length = 3 * ps.length
  | [] => rfl
  | (a, b) :: r => by
    show (pairW r).length + 1 + 1 + 1 = _
    rw [pairW_len r]
    simp only [List.length_cons]; omega
theorem pairW_ok : ∀ {ps : List (Str × Str)}, (∀ p ∈ ps, NameOk p.1 ∧ NameOk p.2) → ∀ x ∈ pairW ps, WordOk x
  | [], _, x, hx => by simp [pairW] at hx
  | (a, b) :: r, h, x, hx => by
    have hx' : x ∈ a :: "as" :: b :: pairW r := hx
    have h0 := h (a, b) List.mem_cons_self
    rcases List.mem_cons.mp hx' with z | z
    · rw [z]; exact h0.1.word
    · rcases List.mem_cons.mp z with z | z
      · rw [z]; decide +kernel
      · rcases List.mem_cons.mp z with z | z
        · rw [z]; exact h0.2.word
        · exact pairW_ok (fun p hp => h p (List.mem_cons_of_mem _ hp)) x z
noncomputable def optV : Option Str → V
  | none => .non
  | some x => .str x
noncomputable def whenW : Option Str → List Str
  | none => []
  | some x => ["when", x]
noncomputable def OptOk (o : Option Str) : Prop := ∀ x, o = some x → NameOk x
theorem whenW_ok {o : Option Str} (h : OptOk o) : ∀ x ∈ whenW o, WordOk x := by
  cases o with
  | none => intro x hx; simp [whenW] at hx
  | some y =>
    intro x hx
    have hx' : x ∈ (["when", y] : List Str) := hx
    rcases List.mem_cons.mp hx' with z | z
    · rw [z]; decide +kernel
    · rw [List.mem_singleton.mp z]; exact (h y rfl).word
theorem whenW_len (o : Option Str) : (whenW o).length ≤ 2 := by
  cases o with
  | none => exact Nat.zero_le _
  | some x => exact Nat.le_refl _
structure SumOk (ts : List (Int × Th)) : Prop where
  lo : 1 ≤ ts.length
  hi : ts.length ≤ 6
  th : ∀ p ∈ ts, ThOk p.2
  sg : ∀ p ∈ ts, p.1 = 1 ∨ p.1 = -1
  hd : ∀ p, ts.head? = some p → p.1 = 1
inductive Rw where
  | bring (p : Str) (ps : List (Str × Str))
  | give (o g : Str)
  | set (o : Str) (ts : List (Int × Th))
  | take (o : Str)
  | say (ts : List (Int × Th)) (w : Option Str)
  | need (ts : List (Int × Th))
  | ask (p : Str) (w : Option Str)
  | part (p : Str)
  | doo (p : Str)
noncomputable def rowW : Rw → List Str
  | .bring p ps => "bring" :: p :: pairW ps
  | .give o g => ["give", o, "as", g]
  | .set o ts => "set" :: o :: "=" :: sumW ts
  | .take o => ["take", o]
  | .say ts w => "say" :: (sumW ts ++ whenW w)
  | .need ts => "need" :: sumW ts
  | .ask p w => "ask" :: p :: whenW w
  | .part p => ["part", p]
  | .doo p => ["do", p]
noncomputable def RwOk : Rw → Prop
  | .bring p ps => NameOk p ∧ ps.length ≤ 6 ∧ ∀ q ∈ ps, NameOk q.1 ∧ NameOk q.2
  | .give o g => NameOk o ∧ NameOk g
  | .set o ts => NameOk o ∧ SumOk ts
  | .take o => NameOk o
  | .say ts w => SumOk ts ∧ OptOk w
  | .need ts => SumOk ts
  | .ask p w => NameOk p ∧ OptOk w
  | .part p => NameOk p
  | .doo p => NameOk p
noncomputable def RowAt (H : Hp) (r : Addr) : Rw → Prop
  | .bring p ps => ∃ t, H r = some (.tup [.str "bring", .str p, .ref t]) ∧ PairsAt H t ps
  | .give o g => H r = some (.tup [.str "give", .str o, .str g])
  | .set o ts => ∃ t, H r = some (.tup [.str "set", .str o, .ref t]) ∧ TermsAt H t ts
  | .take o => H r = some (.tup [.str "take", .str o])
  | .say ts w => ∃ t, H r = some (.tup [.str "say", .ref t, optV w]) ∧ TermsAt H t ts
  | .need ts => ∃ t, H r = some (.tup [.str "need", .ref t]) ∧ TermsAt H t ts
  | .ask p w => H r = some (.tup [.str "ask", .str p, optV w])
  | .part p => H r = some (.tup [.str "part", .str p])
  | .doo p => H r = some (.tup [.str "do", .str p])
theorem wordsOk_cons {x : Str} {ws : List Str} (h : WordOk x) (hw : ∀ y ∈ ws, WordOk y) : ∀ y ∈ x :: ws, WordOk y := fun y hy => by
  rcases List.mem_cons.mp hy with z | z
  · rw [z]; exact h
  · exact hw y z
theorem wordsOk_app {vs ws : List Str} (h : ∀ y ∈ vs, WordOk y) (hw : ∀ y ∈ ws, WordOk y) : ∀ y ∈ vs ++ ws, WordOk y := fun y hy => by
  rcases List.mem_append.mp hy with z | z
  · exact h y z
  · exact hw y z
theorem wordsOk_nil : ∀ y ∈ ([] : List Str), WordOk y := fun y hy => by simp at hy
structure WordsOk (ws : List Str) : Prop where
  ok : ∀ x ∈ ws, WordOk x
  lo : 2 ≤ ws.length
  hi : ws.length ≤ 20
theorem RwOk.words {rw : Rw} (h : RwOk rw) : WordsOk (rowW rw) := by
  cases rw with
  | bring p ps =>
    obtain ⟨h1, h2, h3⟩ := h
    have := pairW_len ps
    refine ⟨wordsOk_cons (by decide +kernel) (wordsOk_cons h1.word (pairW_ok h3)), ?_, ?_⟩ <;> simp only [rowW, List.length_cons] <;> omega
  | give o g =>
    refine ⟨wordsOk_cons (by decide +kernel) (wordsOk_cons h.1.word (wordsOk_cons (by decide +kernel) (wordsOk_cons h.2.word wordsOk_nil))), ?_, ?_⟩ <;> simp [rowW]
  | set o ts =>
    have := sumW_len h.2.lo
    have := h.2.hi
    refine ⟨wordsOk_cons (by decide +kernel) (wordsOk_cons h.1.word (wordsOk_cons (by decide +kernel) (sumW_ok h.2.th))), ?_, ?_⟩ <;> simp only [rowW, List.length_cons] <;> omega
  | take o => refine ⟨wordsOk_cons (by decide +kernel) (wordsOk_cons (NameOk.word h) wordsOk_nil), ?_, ?_⟩ <;> simp [rowW]
  | say ts w =>
    have := sumW_len h.1.lo
    have := h.1.hi
    have := h.1.lo
    have := whenW_len w
    refine ⟨wordsOk_cons (by decide +kernel) (wordsOk_app (sumW_ok h.1.th) (whenW_ok h.2)), ?_, ?_⟩ <;> simp only [rowW, List.length_cons, List.length_append] <;> omega
  | need ts =>
    have h' : SumOk ts := h
    have := sumW_len h'.lo
    have := h'.hi
    have := h'.lo
    refine ⟨wordsOk_cons (by decide +kernel) (sumW_ok h'.th), ?_, ?_⟩ <;> simp only [rowW, List.length_cons] <;> omega
  | ask p w =>
    have := whenW_len w
    refine ⟨wordsOk_cons (by decide +kernel) (wordsOk_cons h.1.word (whenW_ok h.2)), ?_, ?_⟩ <;> simp only [rowW, List.length_cons] <;> omega
  | part o => refine ⟨wordsOk_cons (by decide +kernel) (wordsOk_cons (NameOk.word h) wordsOk_nil), ?_, ?_⟩ <;> simp [rowW]
  | doo o => refine ⟨wordsOk_cons (by decide +kernel) (wordsOk_cons (NameOk.word h) wordsOk_nil), ?_, ?_⟩ <;> simp [rowW]
theorem weight_ok {ws : List Str} (h : WordsOk ws) : (ws.map (·.length)).sum ≤ 61 * ws.length := by
  have : ∀ (l : List Str), (∀ x ∈ l, WordOk x) → (l.map (·.length)).sum ≤ 61 * l.length := by
    intro l
    induction l with
    | nil => intro _; simp
    | cons x r ih =>
      intro hl
      have h1 := (hl x List.mem_cons_self).len
      have h2 := ih fun y hy => hl y (List.mem_cons_of_mem _ hy)
      simp only [List.map_cons, List.sum_cons, List.length_cons]; omega
  exact this ws h.ok
theorem join_app (sep : Str) (vs : List Str) (hv : vs ≠ []) : ∀ us : List Str, us ≠ [] → Str.join sep (us ++ vs) = Str.join sep us ++ sep ++ Str.join sep vs
  | [], h => absurd rfl h
  | [x], _ => by
    cases vs with
    | nil => exact absurd rfl hv
    | cons v r => rfl
  | x :: y :: r, _ => by
    have ih := join_app sep vs hv (y :: r) (by simp)
    show x ++ sep ++ Str.join sep (y :: r ++ vs) = x ++ sep ++ Str.join sep (y :: r) ++ sep ++ Str.join sep vs
    rw [ih]
    apply str_ext
    show (x.cps ++ sep.cps ++ ((Str.join sep (y :: r)).cps ++ sep.cps ++ (Str.join sep vs).cps)).toList = (x.cps ++ sep.cps ++ (Str.join sep (y :: r)).cps ++ sep.cps ++ (Str.join sep vs).cps).toList
    simp
theorem blank : (" " : Str) = ⟨#[32]⟩ := by decide +kernel
theorem split_words {ws : List Str} (h : WordsOk ws) : Txt.split (Str.join " " ws) " " = ws := by
  rw [blank]
  exact split_join (by intro z; have := h.lo; rw [z] at this; simp at this) fun y hy => (h.ok y hy).nb
theorem join_len {ws : List Str} (h : WordsOk ws) : (Str.join " " ws).length ≤ 1300 := by
  have h1 := StrLaws.join_length_le " " ws
  have h2 := weight_ok h
  have h3 := h.hi
  have hbl : (" " : Str).length = 1 := by decide +kernel
  rw [hbl] at h1
  omega
theorem let_mem (c : Nat) : decide (c ∈ ("abcdefghijklmnopqrstuvwxyz" : Str).cps.toList) = isLet c := by
  have e : ("abcdefghijklmnopqrstuvwxyz" : Str).cps.toList = [97, 98, 99, 100, 101, 102, 103, 104, 105, 106, 107, 108, 109, 110, 111, 112, 113, 114, 115, 116, 117, 118, 119, 120, 121, 122] := by decide +kernel
  rw [e]
  unfold isLet
  rw [Bool.eq_iff_iff]
  simp only [decide_eq_true_eq, Bool.and_eq_true, List.mem_cons, List.not_mem_nil, or_false]
  omega
theorem fig_mem (c : Nat) : decide (c ∈ ("0123456789" : Str).cps.toList) = isFig c := by
  have e : ("0123456789" : Str).cps.toList = [48, 49, 50, 51, 52, 53, 54, 55, 56, 57] := by decide +kernel
  rw [e]
  unfold isFig
  rw [Bool.eq_iff_iff]
  simp only [decide_eq_true_eq, Bool.and_eq_true, List.mem_cons, List.not_mem_nil, or_false]
  omega
theorem in_let (c : Nat) : (!(Builtin.Str.occurrences ("abcdefghijklmnopqrstuvwxyz" : Str) ⟨#[c]⟩ 0 ("abcdefghijklmnopqrstuvwxyz" : Str).length 1).isEmpty) = isLet c := by
  rw [StrLaws.found_one]; exact let_mem c
theorem in_fig (c : Nat) : (!(Builtin.Str.occurrences ("0123456789" : Str) ⟨#[c]⟩ 0 ("0123456789" : Str).length 1).isEmpty) = isFig c := by
  rw [StrLaws.found_one]; exact fig_mem c
noncomputable def isNumL (l : List Nat) : Bool := decide (1 ≤ l.length) && decide (l.length ≤ 60) && !(decide (l.head? = some 48) && !decide (l = [48])) && l.all isFig
theorem digits_head : ∀ (m : Nat) (c : Char) (r : List Char), Nat.toDigits 10 m = c :: r → c = '0' → r = [] := by
  intro m
  induction m using Nat.strongRecOn with
  | _ m ih =>
    intro c r h hc
    by_cases hm : m < 10
    · rw [Nat.toDigits_of_lt_base hm] at h
      cases h
      rfl
    · rw [Nat.toDigits_of_base_le (by decide) (by omega)] at h
      cases e : Nat.toDigits 10 (m / 10) with
      | nil =>
        have := PySem.W.KIN.val_back (m / 10)
        rw [e] at this
        simp [NumText.digitsVal] at this
        omega
      | cons d q =>
        rw [e] at h
        have h' : d :: (q ++ [(m % 10).digitChar]) = c :: r := h
        cases h'
        have hq := ih (m / 10) (by omega) c q e hc
        have hv := PySem.W.KIN.val_back (m / 10)
        rw [e, hq, hc] at hv
        have : (0 : Nat) = m / 10 := by simpa [NumText.digitsVal] using hv
        omega
theorem num_isNum {n : Int} (h : ThOk (.num n)) : isNumL (thS (.num n)).cps.toList = true := by
  obtain ⟨e, hl⟩ := num_text h.1 h.2
  have e' : (thS (.num n)).cps.toList = (Nat.toDigits 10 n.toNat).map Char.toNat := e
  rw [e']
  have hpos : Nat.toDigits 10 n.toNat ≠ [] := by
    intro z
    by_cases hm : n.toNat < 10
    · rw [Nat.toDigits_of_lt_base hm] at z; simp at z
    · rw [Nat.toDigits_of_base_le (by decide) (by omega)] at z; simp at z
  have hpos' : 1 ≤ (Nat.toDigits 10 n.toNat).length := by
    cases q : Nat.toDigits 10 n.toNat with
    | nil => exact absurd q hpos
    | cons a b => simp
  unfold isNumL
  simp only [Bool.and_eq_true, decide_eq_true_eq, List.length_map, List.all_eq_true, Bool.not_eq_true', Bool.and_eq_false_iff, decide_eq_false_iff_not]
  refine ⟨⟨⟨hpos', hl⟩, ?_⟩, fun c hc => ?_⟩
  · by_cases hz : ((Nat.toDigits 10 n.toNat).map Char.toNat).head? = some 48
    · refine .inr ?_
      cases q : Nat.toDigits 10 n.toNat with
      | nil => exact absurd q hpos
      | cons a b =>
        rw [q] at hz
        have ha : a.toNat = 48 := by simpa using hz
        have ha' : a = '0' := Char.toNat_inj.mp (by rw [ha]; decide)
        rw [digits_head _ _ _ q ha', ha']
        simp
    · exact .inl hz
  · have := digit_range _ c hc
    unfold isFig
    simp; omega
theorem name_notNum {x : Str} (h : NameOk x) : isNumL x.cps.toList = false := by
  unfold NameOk at h
  cases e : x.cps.toList with
  | nil => rw [e] at h; exact absurd (show false = true from h) Bool.false_ne_true
  | cons c r =>
    rw [e] at h
    have h' : (isLet c && r.all isSg && decide (r.length ≤ 7)) = true := h
    simp only [Bool.and_eq_true, decide_eq_true_eq] at h'
    unfold isNumL
    have hf : isFig c = false := by
      have := h'.1.1
      unfold isLet at this
      unfold isFig
      simp only [Bool.and_eq_true, decide_eq_true_eq] at this
      simp; omega
    rw [List.all_cons, hf]
    simp
theorem num_reads {n : Int} (h : ThOk (.num n)) : intText? (thS (.num n)) = some n ∧ (thS (.num n)).length ≤ 640 := by
  obtain ⟨e, hl⟩ := num_text h.1 h.2
  have e' : (thS (.num n)).cps.toList = (Nat.toDigits 10 n.toNat).map Char.toNat := e
  have hlen : (thS (.num n)).length = (thS (.num n)).cps.toList.length := by simp [Str.length]
  have hlen' : (thS (.num n)).length ≤ 60 := by rw [hlen, e', List.length_map]; exact hl
  have hne : (thS (.num n)).cps.toList ≠ [] := by
    have := num_isNum h
    intro z
    rw [z] at this
    exact absurd this (by decide)
  have hd : NumText.AllDigits (thS (.num n)).cps.toList := fun c hc => by
    rw [e'] at hc
    exact digit_range _ c hc
  have h3 := PySem.intText_digits hd hne (by omega)
  rw [e', PySem.W.KIN.val_back] at h3
  exact ⟨by rw [h3]; congr 1; have := h.1; omega, by omega⟩
end L2
set_option Elab.async false
set_option linter.all false
set_option maxRecDepth 100000
set_option maxHeartbeats 4000000
namespace XC
open PySem
noncomputable abbrev frsOf (l : List Env) : List Addr := l.filterMap (·.frame)
noncomputable def Tr (h : Heap) (e : Addr) (cls : Value) (dd : Option Addr) (T : Addr) (fl : Value) : Prop :=
  ∃ oe vs oT ts, h.get? e = some oe ∧ oe.cls = cls ∧ oe.dict = dd ∧ oe.data = .fields vs ∧ vs[1]? = some (.ref T) ∧ T ≠ e ∧ h.get? T = some oT ∧ oT.data = .fields ts ∧ ts[3]? = some fl ∧ vs[2]? = some .none
structure Gone (l : List Env) (e : Addr) (ts : List Addr) (h h' : Heap) : Prop where
  keep : ∀ b o, h.get? b = some o → b ≠ e → b ∉ ts → b ∉ frsOf l → h'.get? b = some o
  slot : ∀ b o, h.get? b = some o → b ∈ frsOf l → ∃ sl, h'.get? b = some { o with slots := sl }
section
variable {M : Model} {A : Around} {E : Value → Shared → Prop} {s : Shared}
theorem frames_free {h base : Heap} {l : List Env} (g : h.FunFrames base l) : ∀ b ∈ frsOf l, base.get? b = none ∧ ∃ o, h.get? b = some o ∧ ∀ vs, o.data ≠ .fields vs := fun b hb => by
  obtain ⟨h1, o, h2, h3⟩ := g.mem hb
  exact ⟨h1, o, h2, h3⟩
theorem dict_map {o : Obj} {f : Array Value → Array Value} {vs : Array Value} (hd : o.data = .fields vs) : (o.mapFields f).dict = o.dict := by
  obtain ⟨c, d, dt, sl⟩ := o
  subst hd
  rfl
theorem entry_ok {base : Heap} {env : Env} {outer : List Env} {L e : Addr} {oe : Obj} {vs : Array Value} {head : Value} {had : Bool} {Q : Unit → Shared → Prop}
    (hfr : A.frames = some (env :: outer)) (hl : s.heap.FunFrames base (env :: outer)) (hf : env.frame = some L) (he : s.heap.get? e = some oe) (hd : oe.data = .fields vs) (hz : 1 < vs.size) (hc : vs[2]? = some .none)
    (h : ∀ h' T, Gone (env :: outer) e [] s.heap h' → s.heap.get? T = none → Tr h' e oe.cls oe.dict T (rawInt L) → Q () { s with heap := h' }) :
    wpAny M A (do let a ← frameOf env; let p ← entryPlaceOf L had; let b ← EntryCells.newEntry head a .none (rawInt L) .none p; setField (.ref e) 1 b) Q E s := by
  have ne : e ∉ frsOf (env :: outer) := fun z => by
    obtain ⟨_, o, q, n⟩ := frames_free hl e z
    rw [he] at q
    cases q
    exact n vs hd
  refine wpAny_bind (wpAny_frameOf_fun hfr hl hf fun g S => wpAny_bind (wpAny_entryPlaceOf fun p hp => ?_))
  unfold EntryCells.newEntry newFields
  refine wpAny_bind (wpAny_newObj_type ?_ (hp.sizeOk5 _ _ _ _ _))
  generalize ht : ([head, Value.ref L, Value.none, rawInt L, Value.none] ++ (if p.isEmpty then List.replicate 6 Value.none else p)).toArray = tv
  have h3 : tv[3]? = some (rawInt L) := by rw [← ht]; simp
  have g1 : g.get? e = some oe := (S.2.1 e ne).trans he
  have te : g.objs.size ≠ e := Nat.ne_of_gt (Heap.lt_size g1)
  have d2 := Obj.data_mapFields hd (·.setIfInBounds 1 (Value.ref g.objs.size))
  have g2 := Heap.get?_push_of_some { cls := .type "traceback", dict := none, data := .fields tv } g1
  refine wpAny_setField g2 hd hz (h _ g.objs.size ⟨fun b o q z _ w => ?_, fun b o q w => ?_⟩ (Heap.get?_none_of_le (by rw [S.1]; exact Nat.le_refl _)) ?_)
  · rw [Heap.get?_update_other _ _ (Ne.symm z)]
    exact Heap.get?_push_of_some _ ((S.2.1 b w).trans q)
  · obtain ⟨sl, q2⟩ := S.2.2 b o q
    have z : b ≠ e := fun z => ne (z ▸ w)
    exact ⟨sl, by rw [Heap.get?_update_other _ _ (Ne.symm z)]; exact Heap.get?_push_of_some _ q2⟩
  · refine ⟨_, _, { cls := .type "traceback", dict := none, data := .fields tv }, tv, Heap.get?_update_self _ g2 (Obj.isFreed_of_fields d2), Obj.cls_mapFields _ _, dict_map hd, d2, ?_, te, ?_, rfl, h3, by rw [Array.getElem?_setIfInBounds_ne (by decide)]; exact hc⟩
    · rw [Array.getElem?_setIfInBounds_self, if_pos hz]
    · rw [Heap.get?_update_other _ _ (Ne.symm te)]
      exact Heap.get?_push_size _ rfl
theorem note_first {base : Heap} {env : Env} {outer : List Env} {L e : Addr} {oe : Obj} {vs : Array Value} {Q : Unit → Shared → Prop}
    (hfr : A.frames = some (env :: outer)) (hl : s.heap.FunFrames base (env :: outer)) (hf : env.frame = some L) (he : s.heap.get? e = some oe) (hd : oe.data = .fields vs) (h1 : vs[1]? = some .none) (hc : vs[2]? = some .none)
    (h : ∀ h' T, Gone (env :: outer) e [] s.heap h' → s.heap.get? T = none → Tr h' e oe.cls oe.dict T (rawInt L) → Q () { s with heap := h' }) : wpAny M A (noteFrame (.ref e) env) Q E s := by
  unfold noteFrame
  simp only [hf]
  refine wpAny_bind (wpAny_field he hd h1 ?_)
  rw [if_neg (by decide)]
  exact entry_ok hfr hl hf he hd (Array.getElem?_eq_some_iff.mp h1).1 hc h
theorem flight_at {h : Heap} {e T : Addr} {cls fl x : Value} {dd : Option Addr} (ht : Tr h e cls dd T fl) :
    (∀ b o, b ≠ T → h.get? b = some o → (h.update T (Obj.mapFields (·.setIfInBounds 3 x))).get? b = some o) ∧ Tr (h.update T (Obj.mapFields (·.setIfInBounds 3 x))) e cls dd T x := by
  obtain ⟨oe, vs, oT, ts, h1, h2, h2', h3, h4, h5, h6, h7, h8, h9⟩ := ht
  have hz : 3 < ts.size := (Array.getElem?_eq_some_iff.mp h8).1
  have d2 := Obj.data_mapFields h7 (·.setIfInBounds 3 x)
  refine ⟨fun b o z q => by rw [Heap.get?_update_other _ _ (Ne.symm z)]; exact q, oe, vs, _, _, ?_, h2, h2', h3, h4, h5, Heap.get?_update_self _ h6 (Obj.isFreed_of_fields d2), d2, ?_, h9⟩
  · rw [Heap.get?_update_other _ _ h5]
    exact h1
  · rw [Array.getElem?_setIfInBounds_self, if_pos hz]
theorem note_next {base : Heap} {env : Env} {outer : List Env} {L e T : Addr} {cls : Value} {dd : Option Addr} {Q : Unit → Shared → Prop}
    (hfr : A.frames = some (env :: outer)) (hl : s.heap.FunFrames base (env :: outer)) (hf : env.frame = some L) (ht : Tr s.heap e cls dd T .none)
    (h : ∀ h' T', Gone (env :: outer) e [T] s.heap h' → s.heap.get? T' = none → Tr h' e cls dd T' (rawInt L) → Q () { s with heap := h' }) : wpAny M A (noteFrame (.ref e) env) Q E s := by
  obtain ⟨k1, oe, vs, oT, ts, a1, a2, a2', a3, a4, a5, a6, a7, a8, a9⟩ := flight_at (x := .none) ht
  obtain ⟨oe0, vs0, oT0, ts0, h1, h2, h2', h3, h4, h5, h6, h7, h8, h9⟩ := ht
  unfold noteFrame
  simp only [hf]
  refine wpAny_bind (wpAny_field h1 h3 h4 ?_)
  rw [if_pos (show (Value.ref T != Value.none) = true from by simp)]
  refine wpAny_bind (wpAny_field h6 h7 h8 ?_)
  rw [if_neg (show ¬ ((Value.none == rawInt L) = true) from by simp [rawInt])]
  have nT : T ∉ frsOf (env :: outer) := fun z => by
    obtain ⟨_, o, q, n⟩ := frames_free hl T z
    rw [h6] at q
    cases q
    exact n ts0 h7
  have nt : ∀ b o, s.heap.get? b = some o → (∀ vs, o.data ≠ .fields vs) → b ≠ T := fun b o q n z => by
    rw [z, h6] at q
    cases q
    exact n ts0 h7
  refine wpAny_bind (wpAny_setField h6 h7 (Array.getElem?_eq_some_iff.mp h8).1 ?_)
  refine entry_ok hfr (hl.of_keeps fun b o q n => ⟨o, k1 b o (nt b o q n) q, rfl⟩) hf a1 a3 (Array.getElem?_eq_some_iff.mp a4).1 a9 fun h' T' G n t => ?_
  refine h h' T' ⟨fun b o q z w u => G.keep b o (k1 b o (fun z => w (by rw [z]; exact List.mem_singleton_self _)) q) z (by simp) u, fun b o q w => G.slot b o (k1 b o (fun z => nT (z ▸ w)) q) w⟩ ?_ (by rw [← a2, ← a2']; exact t)
  cases q : s.heap.get? T' with
  | none => rfl
  | some o =>
    by_cases z : T' = T
    · rw [z, a6] at n
      cases n
    · rw [show (s.heap.update T (Obj.mapFields (·.setIfInBounds 3 Value.none))).get? T' = some o from k1 T' o z q] at n
      cases n
theorem note_same {env : Env} {L e T : Addr} {cls : Value} {dd : Option Addr} {Q : Unit → Shared → Prop} (hf : env.frame = some L) (ht : Tr s.heap e cls dd T (rawInt L)) (h : Q () s) :
    wpAny M A (noteFrame (.ref e) env) Q E s := by
  obtain ⟨oe, vs, oT, ts, h1, h2, h2', h3, h4, h5, h6, h7, h8, h9⟩ := ht
  unfold noteFrame
  simp only [hf]
  refine wpAny_bind (wpAny_field h1 h3 h4 ?_)
  rw [if_pos (show (Value.ref T != Value.none) = true from by simp)]
  refine wpAny_bind (wpAny_field h6 h7 h8 ?_)
  rw [if_pos (show (rawInt L == rawInt L) = true from by simp)]
  exact wpAny_pure h
theorem fly_off {e T : Addr} {cls fl : Value} {dd : Option Addr} {Q : Unit → Shared → Prop} (ht : Tr s.heap e cls dd T fl)
    (h : ∀ h', (∀ b o, b ≠ T → s.heap.get? b = some o → h'.get? b = some o) → Tr h' e cls dd T .none → Q () { s with heap := h' }) : wpAny M A (setFlight (.ref e) none) Q E s := by
  obtain ⟨k, t⟩ := flight_at (x := .none) ht
  obtain ⟨oe, vs, oT, ts, h1, h2, h2', h3, h4, h5, h6, h7, h8, h9⟩ := ht
  unfold setFlight
  refine wpAny_bind (wpAny_field h1 h3 h4 ?_)
  rw [if_pos (show (Value.ref T != Value.none) = true from by simp)]
  exact wpAny_setField h6 h7 (Array.getElem?_eq_some_iff.mp h8).1 (h _ k t)
theorem Gone.off {l : List Env} {e T : Addr} {ts : List Addr} {h h1 h2 : Heap} (G : Gone l e ts h h1) (k : ∀ b o, b ≠ T → h1.get? b = some o → h2.get? b = some o) (hT : h.get? T = none ∨ T ∈ ts) (nT : T ∉ frsOf l) : Gone l e ts h h2 := by
  refine ⟨fun b o q z w u => k b o (fun y => ?_) (G.keep b o q z w u), fun b o q w => ?_⟩
  · rcases hT with y2 | y2
    · rw [y, y2] at q; cases q
    · exact w (y ▸ y2)
  · obtain ⟨sl, q2⟩ := G.slot b o q w
    exact ⟨sl, k b _ (fun y => nT (y ▸ w)) q2⟩
theorem Tr.notIn {h base : Heap} {l : List Env} {e T : Addr} {cls fl : Value} {dd : Option Addr} (ht : Tr h e cls dd T fl) (g : h.FunFrames base l) : T ∉ frsOf l := fun z => by
  obtain ⟨oe, vs, oT, ts, h1, h2, h2', h3, h4, h5, h6, h7, h8, h9⟩ := ht
  obtain ⟨_, o, q, n⟩ := frames_free g T z
  rw [h6] at q
  cases q
  exact n ts h7
theorem new_notIn {h base : Heap} {l : List Env} {T : Addr} (n : h.get? T = none) (g : h.FunFrames base l) : T ∉ frsOf l := fun z => by
  obtain ⟨_, o, q, _⟩ := frames_free g T z
  rw [n] at q
  cases q
theorem leave_first {base : Heap} {env : Env} {outer : List Env} {L e : Addr} {oe : Obj} {vs : Array Value} {Q : Unit → Shared → Prop}
    (hfr : A.frames = some (env :: outer)) (hl : s.heap.FunFrames base (env :: outer)) (hf : env.frame = some L) (he : s.heap.get? e = some oe) (hd : oe.data = .fields vs) (h1 : vs[1]? = some .none) (hc : vs[2]? = some .none)
    (h : ∀ h' T, Gone (env :: outer) e [] s.heap h' → s.heap.get? T = none → Tr h' e oe.cls oe.dict T .none → Q () { s with heap := h' }) : wpAny M A (leaving env (.ref e)) Q E s := by
  unfold leaving
  exact wpAny_bind (note_first hfr hl hf he hd h1 hc fun h' T G n t => fly_off t fun h2 k t2 => h h2 T (G.off k (.inl n) (new_notIn n hl)) n t2)
theorem leave_next {base : Heap} {env : Env} {outer : List Env} {L e T : Addr} {cls : Value} {dd : Option Addr} {Q : Unit → Shared → Prop}
    (hfr : A.frames = some (env :: outer)) (hl : s.heap.FunFrames base (env :: outer)) (hf : env.frame = some L) (ht : Tr s.heap e cls dd T .none)
    (h : ∀ h' T', Gone (env :: outer) e [T] s.heap h' → s.heap.get? T' = none → Tr h' e cls dd T' .none → Q () { s with heap := h' }) : wpAny M A (leaving env (.ref e)) Q E s := by
  unfold leaving
  exact wpAny_bind (note_next hfr hl hf ht fun h' T' G n t => fly_off t fun h2 k t2 => h h2 T' (G.off k (.inl n) (new_notIn n hl)) n t2)
end
end XC
set_option Elab.async false
set_option linter.all false
set_option maxRecDepth 100000
set_option maxHeartbeats 4000000
namespace L2
open PySem PySem.Spec PyProof.Rows XC
noncomputable def CXe (P : Program) (w : World) : CXT := fun outer H s E v s' => ∃ (a T : Addr) (cls : Value) (dd : Option Addr) (H' : Hp), v = .ref a ∧ s'.os = s.os ∧ AllBare s'.gens ∧ Un (frs outer) [] H H' s.heap s'.heap ∧ HOk P w H' s'.heap ∧ s.heap.get? a = none ∧ H' a = none ∧ Tr s'.heap a cls dd T .none ∧ s.heap.get? T = none ∧ H' T = none ∧ E cls dd H'
theorem HOk.gone {P : Program} {w : World} {h h' : Heap} {l : List Env} {e : Addr} {ts : List Addr} {H : Hp} (ok : HOk P w H h) (G : Gone l e ts h h') (he : H e = none) (hts : ∀ b ∈ ts, H b = none) (hf : ∀ b ∈ frs l, H b = none) : HOk P w H h' := fun b o q =>
  (ok b o q).stay (fun c u hc r => by
    have hH : H c ≠ none := by
      rcases hc with z | z
      · rw [z, q]; simp
      · rw [z]; simp
    exact G.keep c u r (fun z => hH (by rw [z]; exact he)) (fun z => hH (hts c z)) (fun z => hH (hf c z))) (fun _ q => q) fun _ _ q => q
theorem Un.gone {h0 h h' : Heap} {env : Env} {outer : List Env} {e : Addr} {ts : List Addr} {H0 H : Hp} (u : Un (frs outer) [] H0 H h0 h) (G : Gone (env :: outer) e ts h h') (he : h0.get? e = none) (hts : ∀ b ∈ ts, h0.get? b = none) (hF : ∀ L, env.frame = some L → h0.get? L = none) (hu : ∀ b ∈ frs outer, H0 b = none) : Un (frs outer) [] H0 H h0 h' := by
  have hfr : ∀ b o, h0.get? b = some o → b ∉ frs outer → b ∉ frsOf (env :: outer) := fun b o hb hn hm => by
    have hm : b ∈ (env :: outer).filterMap (·.frame) := hm
    rw [List.filterMap_cons] at hm
    cases ef : env.frame with
    | none => rw [ef] at hm; exact hn hm
    | some L =>
      rw [ef] at hm
      rcases List.mem_cons.mp hm with z | z
      · rw [z, hF L ef] at hb; cases hb
      · exact hn z
  have hin : ∀ b, b ∈ frs outer → b ∈ frsOf (env :: outer) := fun b hb => by
    show b ∈ (env :: outer).filterMap (·.frame)
    rw [List.filterMap_cons]
    cases env.frame with
    | none => exact hb
    | some L => exact List.mem_cons_of_mem _ hb
  have hne : ∀ b o, h0.get? b = some o → b ≠ e := fun b o hb z => by rw [z, he] at hb; cases hb
  have hnt : ∀ b o, h0.get? b = some o → b ∉ ts := fun b o hb z => by rw [hts b z] at hb; cases hb
  refine ⟨fun b o q n hf hx => G.keep b o (u.keep b o q n hf hx) (hne b o q) (hnt b o q) (hfr b o q hf), fun b o q n hf hx => ?_, u.free, fun b o q hx => ?_, u.tups, u.frzs, u.tbls⟩
  · obtain ⟨sl, h1⟩ := u.slot b o q n hf hx
    obtain ⟨sl', h2⟩ := G.slot b _ h1 (hin b hf)
    exact ⟨sl', h2⟩
  · by_cases hf : b ∈ frs outer
    · obtain ⟨sl, h1⟩ := u.slot b o q (hu b hf) hf hx
      obtain ⟨sl', h2⟩ := G.slot b _ h1 (hin b hf)
      exact ⟨_, h2⟩
    · obtain ⟨o', h1⟩ := u.there b o q hx
      exact ⟨o', G.keep b o' h1 (hne b o q) (hnt b o q) (hfr b o q hf)⟩
theorem ObjOk.there {P : Program} {w : World} {H : Hp} {h : Heap} {a : Addr} {o : HO} (x : ObjOk P w H h a o) : ∃ u, h.get? a = some u := by
  cases o with
  | lst xs => obtain ⟨_, _, _, _, e⟩ := x; exact ⟨_, e⟩
  | tup xs => obtain ⟨_, _, _, o, e, _⟩ := x; exact ⟨_, e⟩
  | dK kvs => obtain ⟨_, _, _, _, o, _, _, e, _⟩ := x; exact ⟨_, e⟩
  | dT kvs => obtain ⟨_, _, _, _, o, _, _, e, _⟩ := x; exact ⟨_, e⟩
  | set S n => obtain ⟨o, _, _, _, e, _⟩ := x; exact ⟨_, e⟩
  | ins C dx fs => obtain ⟨_, _, _, e, _⟩ := x; exact ⟨_, e⟩
  | own y => obtain ⟨_, e⟩ := x; exact ⟨_, e⟩
  | xd fs => obtain ⟨_, ⟨_, _, _, e, _⟩, _⟩ := x; exact ⟨_, e⟩
  | rng lo hi => obtain ⟨_, _, _, e⟩ := x; exact ⟨_, e⟩
  | frz ob u => obtain ⟨e, _⟩ := x; exact ⟨_, e⟩
  | tbl ps => exact ⟨_, x⟩
  | met f y => exact ⟨_, x⟩
  | ext φ => obtain ⟨_, ⟨_, e⟩, _⟩ := x; exact ⟨_, e⟩
theorem HOk.un_at {P : Program} {w : World} {h : Heap} {H : Hp} {a : Addr} (ok : HOk P w H h) (n : h.get? a = none) : H a = none := by
  cases q : H a with
  | none => rfl
  | some o => obtain ⟨u, e⟩ := (ok a o q).there; rw [n] at e; cases e
section
variable {P : Program} {w : World} {K : PySem.W.Frag} {mg : Str → Option Value} {base : Heap} {N : List Str} {qual : Str} {scope : Scope} {f : Addr} {cd : Value} {A : Around} {outer : List Env} {s : Shared} {H : Hp} {E : XK} {pins : List (Addr × Obj)} {σ : St} {H' : Hp} {s' : Shared}
theorem loc_new : ∀ L, (envOfC qual scope s.heap.objs.size f cd).frame = some L → s.heap.get? L = none := fun L e => by
  have e2 : L = s.heap.objs.size := (Option.some.inj e).symm
  rw [e2]
  cases q : s.heap.get? s.heap.objs.size with
  | none => rfl
  | some o => exact absurd (Heap.lt_size q) (Nat.lt_irrefl _)
theorem Inv.up {X : Cx} {s1 : Shared} {H1 : Hp} (I : Inv X pins σ H1 s1) (hx : X.ex = []) {b : Addr} (n : s1.heap.get? b = none) : X.s₀.heap.get? b = none := by
  cases q : X.s₀.heap.get? b with
  | none => rfl
  | some o =>
    obtain ⟨o', z⟩ := I.base.there b o q (by rw [hx]; intro z; cases z)
    rw [n] at z
    cases z
theorem fly_first (I : Inv (cxOf (CXe P w) P w K mg base N qual scope f cd A outer s H E) pins σ H' s') {a : Addr} {oe : Obj} {vs : Array Value} (he : s'.heap.get? a = some oe) (hd : oe.data = .fields vs) (h1 : vs[1]? = some .none) (hc : vs[2]? = some .none) (new : s.heap.get? a = none) (fr : H' a = none) (hE : E oe.cls oe.dict H') :
    (cxOf (CXe P w) P w K mg base N qual scope f cd A outer s H E).xe (.ref a) s' := by
  refine leave_first (base := base) (L := s.heap.objs.size) I.ok.frames I.stack rfl he hd h1 hc fun h' T G hT ht => ?_
  exact ⟨a, T, oe.cls, oe.dict, H', rfl, I.os, I.bare, Un.gone I.base G new (fun b z => by cases z) loc_new I.ok.frf, HOk.gone I.hok G fr (fun b z => by cases z) I.stkFree, new, fr, ht, I.up rfl hT, HOk.un_at I.hok hT, hE⟩
theorem fly_next (I : Inv (cxOf (CXe P w) P w K mg base N qual scope f cd A outer s H E) pins σ H' s') {a T : Addr} {cls : Value} {dd : Option Addr} (ht : Tr s'.heap a cls dd T .none) (new : s.heap.get? a = none) (newT : s.heap.get? T = none) (fr : H' a = none) (frT : H' T = none) (hE : E cls dd H') :
    (cxOf (CXe P w) P w K mg base N qual scope f cd A outer s H E).xe (.ref a) s' := by
  refine leave_next (base := base) (L := s.heap.objs.size) I.ok.frames I.stack rfl ht fun h' T' G hT' ht' => ?_
  exact ⟨a, T', cls, dd, H', rfl, I.os, I.bare, Un.gone I.base G new (fun b z => by rw [List.mem_singleton.mp z]; exact newT) loc_new I.ok.frf, HOk.gone I.hok G fr (fun b z => by rw [List.mem_singleton.mp z]; exact frT) I.stkFree, new, fr, ht', I.up rfl hT', HOk.un_at I.hok hT', hE⟩
theorem passE : Passes (CXe P w) (cxOf (CXe P w) P w K mg base N qual scope f cd A outer s H E) E := fun pins σ H1 s1 v s2 I h => by
  obtain ⟨a, T, cls, dd, H2, rfl, os, bare, un, hok, new, fr, ht, newT, frT, hE⟩ := h
  have I2 := Inv.call' (ch := []) I os un hok bare (fun b z => by cases z)
  exact fly_next I2 ht (I.up rfl new) (I.up rfl newT) fr frT hE
theorem passOwn : PassesOwn (model P w) (cxOf (CXe P w) P w K mg base N qual scope f cd A outer s H E).A (cxOf (CXe P w) P w K mg base N qual scope f cd A outer s H E).env (cxOf (CXe P w) P w K mg base N qual scope f cd A outer s H E).xe := PassesOwn.leaving
end
structure ClE (P : Program) (w : World) (K : PySem.W.Frag) (mg : Str → Option Value) (base : Heap) (k : Nat) (x : Str) (ps : List Str) (sp : Sp) : Prop where
  ex : ∃ f fd, FnOk P w K mg base (CXe P w) k f fd ps sp ∧ mg x = some (.ref f) ∧ PySem.W.keepIn K (.ref f) = true ∧ Binds K fd ps []
theorem pe_fnE {X : Cx} {j k : Nat} {x : Str} {ps : List Str} {sp : Sp} {E : XK} {e : Expr} {es : List Expr} {t : TA} {p pos : Pos} (C : ClE X.prog X.w X.K X.mg X.base j x ps sp) (hx : Passes (CXe X.prog X.w) X E) (hr : Room k X.A) (hg : Gl X x) (ha : PA X (e :: es) t) (hjk : j ≤ k := by decide)
    (hdb : (x == ("__debug__" : Str)) = false := by decide) (he : starEach (e :: es) X.env = (false, eval e X.env) :: starEach es X.env := by rfl) (hpl : (backTo pos (starEach es X.env)).any (·.1) = false := by rfl) :
    PE X (.Call (.Name x p) (e :: es) [] pos) (tCall sp [] E t) := by
  obtain ⟨f, fd, F, hm, hk, hb⟩ := C.ex
  exact pe_call F (hr.mono hjk) hg hm hk hb .nil hx ha hdb he hpl
theorem ClE.of {P : Program} {w : World} {K : PySem.W.Frag} {mg : Str → Option Value} {base : Heap} {x : Str} {st : Stmt} {N ps : List Str} {k : Nat} {sp : Sp} (T : HasDef K mg x st) (S : FnScope N ps (defScope st)) (len : ∀ vs H Q E, sp vs H Q E → vs.length = ps.length)
    (hb : ∀ (kV doc pm : Value) (an : Option Addr) (cdv ct : Value) (us : List Value), us.length = ps.length → bindArgs (PySem.W.fnOf x x (defArgs st) (defBody st) (defScope st) .none kV doc pm an cdv ct) ⟨us, []⟩ = pure (ps.zip us))
    (hbody : ∀ (f : Addr) (cdv : Value) (A : Around) (outer : List Env) (s : Shared) (H : Hp) (vs : List V) (Q : VK) (E : XK), Room k (A.deeper (envOfC x (defScope st) s.heap.objs.size f cdv)) → sp vs H Q E →
      ∃ t, PSs (cxOf (CXe P w) P w K mg base N x (defScope st) f cdv A outer s H E) (defBody st) t ∧ t { nx := fun _ H' => Q .non H', rt := Q } (start N vs) H) : ClE P w K mg base (k + 1) x ps sp := by
  obtain ⟨f, fd, F, m⟩ := T
  obtain ⟨oc, od, kV, doc, pm, an, cdv, ct, osl, rfl, lk, hcd⟩ := F.ex
  exact ⟨f, _, fn_of lk hcd S len fun A outer s H vs Q E hr hsp => hbody f cdv A outer s H vs Q E hr hsp, m, F.kp, F.binds hb⟩
theorem Cl.toE {P : Program} {w : World} {K : PySem.W.Frag} {mg : Str → Option Value} {base : Heap} {k : Nat} {x : Str} {ps : List Str} {sp : Sp} (C : Cl P w K mg base k x ps sp) : ClE P w K mg base k x ps sp := by
  obtain ⟨f, fd, F, hm, hk, hb⟩ := C.ex
  refine ⟨f, fd, ⟨F.len, fun A outer s H args us vs Q E hr e0 b r h => codeAny_mono (F.run A outer s H args us vs Q E hr e0 b r h) fun r s' q => ?_⟩, hm, hk, hb⟩
  cases r with
  | error e => exact False.elim q
  | ok fl =>
    cases fl with
    | ret u => exact q
    | next => exact q
    | brk => exact q
    | cont => exact q
end L2
set_option Elab.async false
set_option linter.all false
set_option maxRecDepth 100000
set_option maxHeartbeats 4000000
namespace L2
open PySem PySem.Spec PyProof.Rows XC
structure Fr1 (X : Cx) (pins : List (Addr × Obj)) (b : Addr) : Prop where
  s0 : X.s₀.heap.get? b = none
  loc : b ≠ X.env.locals
  cel : ∀ x c, X.env.cells.lookup x = some c → c ≠ b
  pin : ∀ p ∈ X.pn ++ pins, p.1 ≠ b
section
variable {X : Cx} {pins : List (Addr × Obj)} {σ : St} {H H' : Hp} {s : Shared} {h' : Heap} {a : Addr} {ts : List Addr}
theorem Inv.fr1 (I : Inv X pins σ H s) (hx : X.ex = []) {b : Addr} (n : s.heap.get? b = none) : Fr1 X pins b := by
  refine ⟨I.up hx n, fun z => ?_, fun x c e z => ?_, fun p hp z => ?_⟩
  · obtain ⟨m, ⟨o, _, _, ho, _⟩, _⟩ := I.loc
    rw [← z, n] at ho
    cases ho
  · obtain ⟨v, o, ho, _⟩ := I.cell x c e
    rw [z, n] at ho
    cases ho
  · have q := (I.pin p hp).1
    rw [z, n] at q
    cases q
theorem Inv.flown {t' : Nat} (I : Inv X pins σ H s) (hx : X.ex = []) (hs : X.stack = X.env :: X.outer) (hf : X.env.frame = some X.env.locals) (G : Gone X.stack a ts s.heap h') (ha : Fr1 X pins a) (ht : ∀ b ∈ ts, Fr1 X pins b) (na : H a = none)
    (hH : H' = H ∨ ∃ o, H' = upd H a o) (hok : HOk X.prog X.w H' h') : Inv X pins σ H' { s with heap := h', toks := t' } := by
  have fre : frsOf X.stack = X.env.locals :: X.fs := by
    rw [hs]
    show (X.env :: X.outer).filterMap (·.frame) = _
    rw [List.filterMap_cons, hf]
    rfl
  have stay : ∀ b, b ≠ a → H' b = H b := fun b z => by
    rcases hH with e | ⟨o, e⟩
    · rw [e]
    · rw [e, upd_ne z]
  have stayT : ∀ b o, H b = some o → H' b = some o := fun b o q => by rw [stay b (ne_of_none q na)]; exact q
  have any : ∀ b o, s.heap.get? b = some o → b ≠ a → b ∉ ts → ∃ sl, h'.get? b = some { o with slots := sl } := fun b o q z w => by
    by_cases hb : b ∈ frsOf X.stack
    · exact G.slot b o q hb
    · exact ⟨o.slots, G.keep b o q z w hb⟩
  have old : ∀ b o, X.s₀.heap.get? b = some o → b ≠ a ∧ b ∉ ts := fun b o q => ⟨(fun z => by rw [z, ha.s0] at q; cases q), (fun z => by rw [(ht b z).s0] at q; cases q)⟩
  have cellK : ∀ x c, X.env.cells.lookup x = some c → ∀ v, s.heap.IsCell c v → h'.IsCell c v := fun x c e v ⟨o, ho, hd⟩ => by
    obtain ⟨sl, q⟩ := any c o ho (ha.cel x c e) fun z => (ht c z).cel x c e rfl
    exact ⟨_, q, hd⟩
  refine ⟨I.ok, I.os, I.bare, ⟨fun b o e n hb hx => ?_, fun b o e n hb hx => ?_, fun b o e n hx => ?_, fun b o e hx => ?_, fun b xs e => stayT b _ (I.base.tups b xs e), fun b o xs e => stayT b _ (I.base.frzs b o xs e), fun b ps e => ?_⟩, ?_, fun x c e => ?_, ?_, fun x c e => ?_, fun p hp => ?_, hok, I.len⟩
  · refine G.keep b o (I.base.keep b o e n hb hx) (old b o e).1 (old b o e).2 fun z => ?_
    rw [fre] at z
    rcases List.mem_cons.mp z with z | z
    · exact absurd (Nat.lt_of_lt_of_le (Heap.lt_size e) I.ok.above) (by rw [z]; exact Nat.lt_irrefl _)
    · exact hb z
  · obtain ⟨sl, e1⟩ := I.base.slot b o e n hb hx
    obtain ⟨sl', e2⟩ := G.slot b _ e1 (by rw [fre]; exact List.mem_cons_of_mem _ hb)
    exact ⟨sl', e2⟩
  · rw [stay b (old b o e).1]
    exact I.base.free b o e n hx
  · obtain ⟨o1, e1⟩ := I.base.there b o e hx
    obtain ⟨sl, e2⟩ := any b o1 e1 (old b o e).1 (old b o e).2
    exact ⟨_, e2⟩
  · obtain ⟨more, e1⟩ := I.base.tbls b ps e
    exact ⟨more, stayT b _ e1⟩
  · obtain ⟨m, ⟨o, es, ep, ho, r⟩, hl⟩ := I.loc
    obtain ⟨sl, q⟩ := any _ o ho (fun z => ha.loc z.symm) (fun z => (ht _ z).loc rfl)
    refine ⟨m, ⟨_, es, ep, q, r⟩, fun i x v e1 e2 e3 => ?_⟩
    obtain ⟨u, r1, l⟩ := hl i x v e1 e2 e3
    refine ⟨u, r1, ?_⟩
    rcases l with l | ⟨k, c, e, z⟩
    · exact .inl l
    · exact .inr ⟨k, c, e, cellK x c e _ z⟩
  · obtain ⟨v, z⟩ := I.cell x c e
    exact ⟨v, cellK x c e v z⟩
  · rw [stay _ (fun z => ha.loc z.symm)]
    exact I.free
  · rw [stay c (ha.cel x c e)]
    exact I.freeC x c e
  · obtain ⟨e, n, ne, nf, d⟩ := I.pin p hp
    refine ⟨G.keep p.1 p.2 e (ha.pin p hp) (fun z => (ht _ z).pin p hp rfl) (fun z => ?_), by rw [stay _ (ha.pin p hp)]; exact n, ne, nf, d⟩
    rw [fre] at z
    rcases List.mem_cons.mp z with z | z
    · exact ne z
    · exact nf z
theorem HOk.take {P : Program} {w : World} {h : Heap} {o : HO} (ok : HOk P w H h) (na : H a = none) (new : ObjOk P w (upd H a o) h a o) : HOk P w (upd H a o) h := fun b u e => by
  by_cases hb : b = a
  · subst hb
    rw [upd_same] at e
    cases e
    exact new
  · rw [upd_ne hb] at e
    exact (ok b u e).stay (fun _ _ _ q => q) (fun c q => by rw [upd_ne (ne_of_none q na)]; exact q) fun c xs q => by rw [upd_ne (ne_of_none q na)]; exact q
theorem forget_ok {M : Model} {A : Around} {E : Value → Shared → Prop} {i : Nat} {n : Str} {pos : Pos} {Q : Unit → Shared → Prop} (I : Inv X pins σ H s) (hN : X.N.Nodup) (hi : X.N[i]? = some n) (hk : X.env.kindOf n = some .local)
    (h : ∀ s', Inv X pins (σ.set i none) H s' → Q () s') : wpAny M A (do bindName X.env n .none; unbindBehindTheSuite X.env n pos) Q E s := by
  obtain ⟨m, hn, hl⟩ := id I.loc
  obtain ⟨oL, _, _, hoL, _⟩ := id hn
  have hiσ : i < σ.length := by rw [I.len]; exact (List.getElem?_eq_some_iff.mp hi).1
  refine wpAny_nameGoes_keeps hk hn (by rw [I.ok.kind]; rfl) fun h' v hn' hs => h _ ⟨I.ok, I.os, I.bare, ⟨fun b o e n hb hx => ?_, fun b o e n hb hx => ?_, I.base.free, fun b o e hx => ?_, I.base.tups, I.base.frzs, I.base.tbls⟩, ⟨_, hn', fun j y v' e1 e2 e3 => ?_⟩, fun y c e => ?_, I.free, I.freeC, fun p hp => ?_, fun b ob e => ?_, by rw [List.length_set]; exact I.len⟩
  · exact (hs.2 b (Nat.ne_of_lt (Nat.lt_of_lt_of_le (Heap.lt_size e) I.ok.above))).trans (I.base.keep b o e n hb hx)
  · obtain ⟨sl, e1⟩ := I.base.slot b o e n hb hx
    exact ⟨sl, (hs.2 b (Nat.ne_of_lt (Nat.lt_of_lt_of_le (Heap.lt_size e) I.ok.above))).trans e1⟩
  · obtain ⟨o', e1⟩ := I.base.there b o e hx
    exact ⟨o', (hs.2 b (Nat.ne_of_lt (Nat.lt_of_lt_of_le (Heap.lt_size e) I.ok.above))).trans e1⟩
  · by_cases hj : j = i
    · rw [hj, List.getElem?_set_self hiσ] at e2
      cases e2
    · rw [List.getElem?_set_ne (Ne.symm hj)] at e2
      obtain ⟨u', r', q⟩ := hl j y v' e1 e2 e3
      refine ⟨u', r', ?_⟩
      rcases q with ⟨k, e⟩ | ⟨k, c, e, z⟩
      · refine .inl ⟨k, ?_⟩
        have : y ≠ n := fun e => hj (nodup_ix hN e1 (e ▸ hi))
        simp [this, e]
      · exact .inr ⟨k, c, e, z.sameBut hs (I.cne y c e)⟩
  · obtain ⟨w', z⟩ := I.cell y c e
    exact ⟨w', z.sameBut hs (I.cne y c e)⟩
  · obtain ⟨e, n, ne, nf, d⟩ := I.pin p hp
    exact ⟨(hs.2 p.1 ne).trans e, n, ne, nf, d⟩
  · refine (I.hok b ob e).stay (fun c w' hc q => (hs.2 c ?_).trans q) (fun _ q => q) fun _ _ q => q
    intro z
    rcases hc with hc | hc
    · rw [← hc, z, I.free] at e; cases e
    · rw [z, I.free] at hc; cases hc
end
noncomputable def ExO (a C : Addr) (dd : Option Addr) : HO := .ext fun h => ∃ o vs, h.get? a = some o ∧ o.cls = .ref C ∧ o.dict = dd ∧ o.data = .fields vs ∧ vs[2]? = some .none
noncomputable abbrev Cx.hand (X : Cx) (a : Addr) : Cx := { X with A := X.A.mark (some (.ref a)), calm := false, xe := fun _ _ => False }
section
variable {X : Cx} {pins : List (Addr × Obj)} {σ : St} {H : Hp} {s : Shared} {a : Addr}
theorem Inv.hand (I : Inv X pins σ H s) (a : Addr) : Inv (X.hand a) pins σ H s :=
  ⟨⟨I.ok.mod, I.ok.kind, I.ok.glob, I.ok.blt, I.ok.above, I.ok.inj, I.ok.has, I.ok.cab, fun z => absurd (show false = true from z) Bool.false_ne_true, I.ok.frames, I.ok.stk, I.ok.exf, I.ok.bs, I.ok.bsz, I.ok.noex, I.ok.exfs, I.ok.funs, I.ok.frf⟩, I.os, I.bare, I.base, I.loc, I.cell, I.free, I.freeC, I.pin, I.hok, I.len⟩
theorem Inv.unhand (ok : X.Ok) (I : Inv (X.hand a) pins σ H s) : Inv X pins σ H s := ⟨ok, I.os, I.bare, I.base, I.loc, I.cell, I.free, I.freeC, I.pin, I.hok, I.len⟩
end
noncomputable def Up (X : Cx) (pins : List (Addr × Obj)) (σ : St) (E : XK) (e : Value) (s : Shared) : Prop :=
  ∃ (a T : Addr) (cls : Value) (dd : Option Addr) (H : Hp), e = .ref a ∧ Inv X pins σ H s ∧ Fr1 X pins a ∧ Fr1 X pins T ∧ H a = none ∧ H T = none ∧ Tr s.heap a cls dd T .none ∧ E cls dd H
noncomputable def TBody (X : Cx) (body : List Stmt) (t : XK → TS) : Prop :=
  ∀ (pins : List (Addr × Obj)) (s : Shared) (σ : St) (H : Hp) (D : Ends) (E : XK) (xe1 : Value → Shared → Prop), Inv X pins σ H s → (∀ e s2, Up X pins σ E e s2 → xe1 e s2) → t E D σ H → wpAny (model X.prog X.w) X.A (execs body X.env) (SP X pins D) xe1 s
section
variable {X : Cx} {j k : Nat} {f : Str} {ps : List Str} {sp : Sp} {e : Expr} {es : List Expr} {ta : TA} {p pos cpos : Pos}
theorem PA.nox {t : TA} (h : PA X.nox es t) (xe1 : Value → Shared → Prop) : PA (X.wish xe1) es t := fun pos pins s σ H Q I hw =>
  wpAny_mono (h pos pins s σ H Q (I.unwish.wish _) hw) (fun _ _ ⟨v, H', I', r, q⟩ => ⟨v, H', I'.unwish.wish _, r, q⟩) fun _ _ z => False.elim z
theorem call_up (C : ClE X.prog X.w X.K X.mg X.base j f ps sp) (hx : X.ex = []) (hr : Room k X.A) (hg : Gl X f) (ha : PA X.nox (e :: es) ta) (hjk : j ≤ k)
    (hdb : (f == ("__debug__" : Str)) = false) (he : starEach (e :: es) X.env = (false, eval e X.env) :: starEach es X.env) (hpl : (backTo cpos (starEach es X.env)).any (·.1) = false)
    {pins : List (Addr × Obj)} {s : Shared} {σ : St} {H : Hp} {Q : VK} {E : XK} {xe1 : Value → Shared → Prop} (I : Inv X pins σ H s) (hu : ∀ e s2, Up X pins σ E e s2 → xe1 e s2) (h : ta σ H fun vs H1 => sp (vs ++ []) H1 Q E) :
    wpAny (model X.prog X.w) X.A (eval (.Call (.Name f p) (e :: es) [] cpos) X.env) (EP X pins σ Q) xe1 s := by
  obtain ⟨fa, fd, F, hm, hk, hb⟩ := C.ex
  refine wpAny_Call_Name_kw (ld_glob I hg hm ?_ hdb)
  refine PySem.W.callWith_K (h₀ := X.base) I.ok.mod.kin hk (thn (PA.nox ha xe1 cpos pins s σ H _ (I.wish _) h) fun us s1 ⟨vs, H1, I1, r, q⟩ => ⟨I1.kIn, ?_⟩) he hpl
  have I1 := I1.unwish
  have r2 : Vals (vs ++ []) (us ++ []) := r.append .nil
  have hl : (us ++ []).length = ps.length := by rw [← r2.length]; exact F.len _ _ _ _ q
  refine wpAny_call (codeAny_mono (F.run X.A X.stack s1 H1 ⟨us, []⟩ (us ++ []) (vs ++ []) Q E (hr.mono hjk) I1.env0 (hb s1 us I1.kIn hl) r2 q) fun r s' hq => ?_)
  cases r with
  | error v =>
    obtain ⟨a, T, cls, dd, H2, rfl, os, bare, un, hok, new, fr, ht, newT, frT, hE⟩ := hq
    exact hu _ _ ⟨a, T, cls, dd, H2, rfl, Inv.call' (ch := []) I1 os un hok bare (fun b z => by cases z), I1.fr1 hx new, I1.fr1 hx newT, fr, frT, ht, hE⟩
  | ok fl =>
    cases fl with
    | ret u => exact I1.after hq
    | next => exact False.elim hq
    | brk => exact False.elim hq
    | cont => exact False.elim hq
noncomputable def tbCall (sp : Sp) (ta : TA) (k : V → TS) : XK → TS := fun E D σ H => ta σ H fun vs H1 => sp (vs ++ []) H1 (fun v H2 => k v D σ H2) E
theorem tb_expr (C : ClE X.prog X.w X.K X.mg X.base j f ps sp) (hr : Room k X.A) (hg : Gl X f) (ha : PA X.nox (e :: es) ta) (hjk : j ≤ k := by decide) (hx : X.ex = [] := by rfl)
    (hdb : (f == ("__debug__" : Str)) = false := by decide) (he : starEach (e :: es) X.env = (false, eval e X.env) :: starEach es X.env := by rfl) (hpl : (backTo cpos (starEach es X.env)).any (·.1) = false := by rfl)
    (hs : swapsWith (.Call (.Name f p) (e :: es) [] cpos) none pos.line X.env = pure false := by rfl) :
    TBody X [.Expr (.Call (.Name f p) (e :: es) [] cpos) pos] (tbCall sp ta fun _ => tNext) := by
  intro pins s σ H D E xe1 I hu h
  refine wpAny_execs_cons (thn (Q := fun f s1 => SP X pins D f s1) (wpAny_Expr_any (thn (call_up C hx hr hg ha hjk hdb he hpl I hu h) fun v s1 ⟨x, H1, I1, r1, q1⟩ => ⟨σ, H1, I1, q1⟩) I.quiet hs) fun f s1 q => ?_)
  cases f with
  | next => exact wpAny_execs_nil q
  | ret v => exact q
  | brk => exact q
  | cont => exact q
end
structure XK1 (K : PySem.W.Frag) (C : Addr) : Prop where
  cl : (PySem.W.clsIn K C).isSome = true
  ty : PySem.W.typeIn K (.ref C) = some (.type "type")
  base : PySem.W.mroIn K C (.type "BaseException") = some true
  ga : PySem.W.findIn K (.ref C) "__getattribute__" = some (some (.builtin "BaseException.__getattribute__"))
  gt : PySem.W.findIn K (.ref C) "__getattr__" = some none
  ca : PySem.W.findIn K (.ref C) "__class__" = some (some (.builtin "object.__class__"))
  gd : PySem.W.specialIn K (.builtin "object.__class__") "__get__" = some (some (.builtin "getset_descriptor.__get__"))
  tk : PySem.W.takesIn K (.builtin "object.__class__") = some true
  ob : PySem.W.mroIn K C (.type "object") = some true
theorem looks_isType {K : PySem.W.Frag} {M : Model} {h : Heap} (x : K.In h) {C : Addr} (e : (PySem.W.clsIn K C).isSome = true) : PySem.W.Looks M h (isType (.ref C)) true := by
  unfold PySem.W.clsIn at e
  split at e
  · rename_i c' d' cd' sl' ho
    intro A' Q' E' s' k q
    unfold isType loadHead
    exact wpAny_bind (wpAny_loadPart (k _ _ (x _ _ ho)) (wpAny_pure q))
  · cases e
theorem exc_match {M : Model} {A : Around} {E : Value → Shared → Prop} {s : Shared} {K : PySem.W.Frag} {a C B : Addr} {o : Obj} {Q : Bool → Shared → Prop} (X : K.In s.heap) (b : XK1 K B) (sub : PySem.W.mroIn K C (.ref B) = some true) (ha : s.heap.get? a = some o) (hc : o.cls = .ref C)
    (h : Q true s) : wpAny M A (excMatches (.ref a) (.ref B)) Q E s := by
  obtain ⟨hh, g, d, t, os⟩ := s
  have L1 := PySem.W.looks_typeIn (M := M) X b.ty
  have L2 : PySem.W.Looks M hh (isSubtype (.type "type") (.type "tuple")) false := PySem.W.Looks.of_pure tc_notTuple
  have L3 := looks_isType (M := M) X b.cl
  have L4 := PySem.W.looks_mroIn (M := M) X b.base
  have L5 : PySem.W.Looks M hh (typeOf (.ref a)) (.ref C) := hc ▸ (PySem.W.Looks.ld ha).andThen .now
  have L6 := PySem.W.looks_mroIn (M := M) X sub
  have L7 : PySem.W.Looks M hh (isInstance (.ref B) (.type "tuple")) false := L1.andThen L2
  have L8 : PySem.W.Looks M hh (isExcClass (.ref B)) true := L3.andThen (by simpa using L4)
  unfold excMatches
  refine wpAny_bind (L7.at ?_)
  simp only [Bool.false_eq_true, if_false, List.forIn_cons, List.forIn_nil, pure_bind]
  refine wpAny_bind (wpAny_bind (wpAny_bind (L8.at ?_)))
  simp only [Bool.not_true, Bool.false_eq_true, if_false]
  refine wpAny_pure (wpAny_pure (wpAny_bind (L5.at (wpAny_bind (wpAny_bind (wpAny_bind (L6.at ?_)))))))
  simp only [if_true]
  exact wpAny_pure (wpAny_pure (wpAny_pure h))
noncomputable def goneD (i : Nat) (D : Ends) : Ends := { nx := fun σ H => D.nx (σ.set i none) H, rt := D.rt, bk := fun σ H => D.bk (σ.set i none) H, ct := fun σ H => D.ct (σ.set i none) H }
noncomputable def tTryAs (K : PySem.W.Frag) (B : Addr) (i : Nat) (tb : XK → TS) (th : Addr → TS) : TS := fun D σ H =>
  tb (fun cls dd H2 => ∃ C, cls = .ref C ∧ PySem.W.mroIn K C (.ref B) = some true ∧ ∀ a, H2 a = none → th a (goneD i D) (σ.set i (some (.ref a))) (upd H2 a (ExO a C dd))) D σ H
section
variable {X : Cx} {body : List Stmt} {tb : XK → TS} {x n : Str} {B : Addr} {i : Nat} {b0 : Stmt} {suite : List Stmt} {th : Addr → TS} {np hp pos : Pos}
theorem exo_ok {P : Program} {w : World} {H : Hp} {h : Heap} {a T C : Addr} {dd : Option Addr} {fl : Value} (t : Tr h a (.ref C) dd T fl) : ObjOk P w (upd H a (ExO a C dd)) h a (ExO a C dd) := by
  obtain ⟨oe, vs, oT, ts, h1, h2, h2', h3, _, _, _, _, _, h9⟩ := t
  exact ⟨⟨oe, vs, h1, h2, h2', h3, h9⟩, ⟨oe, h1⟩, fun g1 g2 ⟨o, vs, q, r⟩ k => ⟨o, vs, k o q, r⟩⟩
theorem ps_tryAs (hN : X.N.Nodup) (hi : X.N[i]? = some n) (hk : X.env.kindOf n = some .local) (hg : Gl X x) (hm : X.mg x = some (.ref B)) (b : XK1 X.K B) (hb : TBody X body tb) (hh : ∀ a, PSs (X.hand a) (b0 :: suite) (th a))
    (hx : X.ex = [] := by rfl) (hs : X.stack = X.env :: X.outer := by rfl) (hf : X.env.frame = some X.env.locals := by rfl) (hd : (x == ("__debug__" : Str)) = false := by decide) (hfn : X.fn n = true ∨ X.env.scope.names.lookup n = some .local := by first | exact .inl rfl | exact .inr rfl) :
    PS X (.Try body [.ExceptHandler (some (.Name x np)) (some n) (b0 :: suite) hp] [] [] pos) (tTryAs X.K B i tb th) := by
  intro pins s σ H D I h
  refine wpAny_Try_except (thn (hb pins s σ H D _ _ I (fun e s1 u => ?_) h) fun f s1 q => ?_)
  · obtain ⟨a, T, cls, dd, H2, rfl, I1, fa, fT, na, nT, ht, C, rfl, sub, hth⟩ := u
    have st : s1.heap.FunFrames X.base (X.env :: X.outer) := hs ▸ I1.stack
    refine note_next (by rw [I1.ok.frames, hs]) st hf ht fun h3 T3 G3 n3 t3 => fly_off t3 fun h4 k4 t4 => ?_
    have G4 := G3.off k4 (.inl n3) (new_notIn n3 st)
    have ok4 : HOk X.prog X.w H2 h4 := HOk.gone I1.hok G4 na (fun b z => by rw [List.mem_singleton.mp z]; exact nT) (hs ▸ I1.stkFree)
    have I4 : Inv X pins σ H2 { s1 with heap := h4 } := I1.flown (t' := s1.toks) hx hs hf (hs ▸ G4) fa (fun b z => by rw [List.mem_singleton.mp z]; exact fT) na (.inl rfl) ok4
    obtain ⟨oe, vs, oT, tt, e1, e2, _⟩ := id t4
    refine wpAny_handleBy_cons (codeAny_handlers_test (ld_glob (I4.hand a) hg hm (exc_match I4.kIn b sub e1 e2 (codeAny_handlers_suite_as (fly_off t4 fun h5 k5 t5 => ?_))) hd)) (by intro q; cases q)
    have G5 := G4.off k5 (.inl n3) (new_notIn n3 st)
    have ok5 : HOk X.prog X.w H2 h5 := HOk.gone I1.hok G5 na (fun b z => by rw [List.mem_singleton.mp z]; exact nT) (hs ▸ I1.stkFree)
    have I5 : Inv X pins σ (upd H2 a (ExO a C dd)) { s1 with heap := h5 } := I1.flown (t' := s1.toks) hx hs hf (hs ▸ G5) fa (fun b z => by rw [List.mem_singleton.mp z]; exact fT) na (.inr ⟨_, rfl⟩) (ok5.take na (exo_ok t5))
    refine store_ok I5 hN hi (.inl hk) (show RelV (.ref a) (.ref a) from rfl) (fun s6 I6 => ?_) hfn
    refine wpAny_mono (hh a pins s6 _ _ _ (I6.hand a) (hth a na)) (fun f s7 q => ?_) fun _ _ z => z.elim
    cases f with
    | next =>
      obtain ⟨σ', H', I', q⟩ := q
      exact forget_ok (I'.unhand I.ok) hN hi hk fun s8 I8 => ⟨_, H', I8, q⟩
    | brk =>
      obtain ⟨σ', H', I', q⟩ := q
      exact forget_ok (I'.unhand I.ok) hN hi hk fun s8 I8 => ⟨_, H', I8, q⟩
    | cont =>
      obtain ⟨σ', H', I', q⟩ := q
      exact forget_ok (I'.unhand I.ok) hN hi hk fun s8 I8 => ⟨_, H', I8, q⟩
    | ret u =>
      obtain ⟨v, σ', H', I', r, q⟩ := q
      exact forget_ok (I'.unhand I.ok) hN hi hk fun s8 I8 => ⟨v, _, H', I8, r, q⟩
  · cases f with
    | next => exact wpAny_execs_nil q
    | ret v => exact q
    | brk => exact q
    | cont => exact q
end
noncomputable abbrev bmV : List Value := [.type "ValueError", .type "Exception", .type "BaseException", .type "object"]
theorem own_obj {K : PySem.W.Frag} {h : Heap} {C : Addr} {bmB : List Value} {newId : String} (X : K.In h) (q : PySem.W.excIn K C bmB newId = true) : ∃ bm N nm qn bs hdct sn sub ab col dd k0 k1 k2 k3 k5 mN,
    h.get? C = some (excClassObj nm qn C N bs bm hdct sn sub ab col dd k0 k1 k2 k3 k5 newId) ∧ h.Ns N mN ∧ mN "__init__" = none ∧ OwnTail h bmB bm := by
  unfold PySem.W.excIn at q
  split at q
  · rename_i dd cd sl ho
    split at q
    · rename_i C' bm k0 k1 k2 k3 n k5 e1 e2
      simp only [Bool.and_eq_true, beq_iff_eq, Bool.not_eq_true'] at q
      obtain ⟨⟨⟨⟨⟨c1, c2⟩, c3⟩, c4⟩, c5⟩, c6⟩ := q
      cases c1
      cases c2
      obtain ⟨nm, bs, mro, ns, qn, hd, sn, sub, ab, col, del⟩ := cd
      dsimp only at e1 c3 c5 c6
      cases e1
      cases c3
      obtain ⟨l⟩ := sl
      cases (show l = _ from e2)
      exact ⟨bm, ns, nm, qn, bs, hd, sn, sub, ab, col, dd, k0, k1, k2, k3, k5, _, X _ _ ho, .of_isNs (PySem.W.isNs_of_in X c5), PySem.W.nsMap_none_of_in X c5 c6, PySem.W.tail_of_in X c4⟩
    · cases q
  · cases q
section
variable {P : Program} {w : World} {K : PySem.W.Frag} {mg : Str → Option Value} {base : Heap} {N : List Str} {qual : Str} {scope : Scope} {f : Addr} {cd : Value} {A : Around} {outer : List Env} {s : Shared} {H : Hp} {E : XK}
end
end L2
set_option Elab.async false
set_option linter.all false
set_option maxRecDepth 100000
set_option maxHeartbeats 4000000
namespace L2
open PySem PySem.Spec PyProof.Rows XC
section
variable {prog : Program} {w : World} {A : Around} {E : Value → Shared → Prop} {s : Shared} {K : PySem.W.Frag} {x C : Addr} {ox : Obj} {od : Option Obj}
theorem exc_found (k : XK1 K C) : PySem.W.findObj K C od "__class__" = some (.bind (.builtin "getset_descriptor.__get__") (.builtin "object.__class__")) := by
  obtain ⟨cd, hc⟩ := Option.isSome_iff_exists.mp k.cl
  unfold PySem.W.findObj
  rw [hc, Option.bind_some, k.ca, Option.bind_some]
  simp [k.gd, k.tk]
theorem exc_check {M : Model} {tk : Tok} {n : Str} {Q : Unit → Shared → Prop} (k : XK1 K C) (X : K.In s.heap) (I : PySem.W.InstAt s.heap x ox C od) (h : Q () s) : wpAny M A (checkBuiltinCall "BaseException.__getattribute__" ⟨[.ref x, .str n tk], []⟩) Q E s := by
  obtain ⟨hh, g, d, t, os⟩ := s
  have hk : builtinKind "BaseException.__getattribute__" = some .slot := by decide +kernel
  have hsplit : splitId "BaseException.__getattribute__" = some ("BaseException", "__getattribute__") := by decide +kernel
  have ha := F.args_bexc_ga (.ref x) (.str n tk)
  have L1 : PySem.W.Looks M hh (isInstance (.ref x) (.type "BaseException")) true := (I.type (M := M)).andThen (PySem.W.looks_mroIn X k.base)
  simp only [checkBuiltinCall, hk, hsplit]
  refine wpAny_bind (L1.at ?_)
  simp only [Bool.not_true, Bool.false_eq_true, if_false]
  exact wpAny_of_eq ha h
theorem exc_class {Q : Option Value → Shared → Prop} (k : XK1 K C) (X : K.In s.heap) (I : PySem.W.InstAt s.heap x ox C od) (h : Q (some (.ref C)) { s with toks := s.toks + 1 }) : wpAny (model prog w) A (getAttr? (.ref x) "__class__") Q E s := by
  obtain ⟨hh, g, d, t, os⟩ := s
  have L0 := I.type (M := model prog w)
  have L1 := PySem.W.looks_findIn (M := model prog w) X k.ga
  have L2 := PySem.W.looks_findIn (M := model prog w) X k.gt
  have L3 := PySem.W.looks_find (M := model prog w) X I (exc_found k)
  unfold getAttr? getAttrBy? getAttrBy
  refine wpAny_bind (wpAny_mkText (wpAny_bind (wpAny_attempt (wpAny_holding (wpAny_bind (L0.at (wpAny_bind (L1.at ?_))))))))
  dsimp only
  rw [if_neg (by rw [show (Value.builtin "BaseException.__getattribute__" == Value.builtin "object.__getattribute__") = false by decide +kernel, Bool.and_false]; exact Bool.false_ne_true)]
  unfold getAttrByItsOwn hookBefore
  rw [if_pos (show onTheHeap (Value.ref C) = true from rfl)]
  refine wpAny_bind (L2.at (wpAny_bind (wpAny_attempt (wpAny_holding ?_))))
  unfold callGetattribute boundAndCalled
  rw [if_neg (by rw [Bool.false_and]; exact Bool.false_ne_true)]
  refine wpAny_bind (wpAny_of_eq (F.excAttr_ValueError.ga.bind _) ?_)
  refine wpAny_call (codeAny_call_builtin F.excAttr_ValueError.ga.plain F.entry_bexc_ga (exc_check k X I ?_))
  unfold Builtin.«object.__getattribute__»
  refine wpAny_bind (wpAny_of_eq (a := (Value.ref x, [Value.str "__class__" t])) rfl (wpAny_bind (wpAny_of_eq (a := ("__class__" : Str)) rfl (wpAny_bind (L0.at (wpAny_bind (L3.at ?_)))))))
  show wpAny _ _ (holding [Value.builtin "object.__class__"] (call (.builtin "getset_descriptor.__get__") [.builtin "object.__class__", .ref x, .ref C]) >>= ret) _ _ _
  refine wpAny_bind (wpAny_holding (wpAny_call (PySem.W.class_get (s := ⟨hh, g, d, t + 1, os⟩) X I k.ob (wpAny_pure ?_))))
  show wpAny _ _ (handedOut (.ref C)) _ _ _
  exact PySem.W.handed_on rfl (wpAny_pure h)
end
theorem kitx_exc {K : PySem.W.Frag} {x C : Addr} (k : XK1 K C) : PySem.W.KitX K (.ref x) (.ref C) (fun h => ∃ ox od, PySem.W.InstAt h x ox C od) where
  ty := fun _ _ _ ⟨_, _, I⟩ => I.type
  it := fun _ _ X _ => looks_isType X k.cl
  ne := fun h tp dd its n sl X htp => by
    refine Bool.eq_false_iff.mpr fun q => ?_
    have e : C = tp := Value.ref.inj (beq_iff_eq.mp q)
    subst e
    have z := k.cl
    unfold PySem.W.clsIn at z
    split at z
    · rename_i ho
      have z2 := (X _ _ ho).symm.trans htp
      cases z2
    · cases z
  ca := fun X ⟨_, _, I⟩ q => exc_class k X I q
inductive ExC (K : PySem.W.Frag) (H : Hp) (t : Value) : V → Bool → Prop
  | one {B : Addr} {b : Bool} (e : PySem.W.kitOne K t (.ref B) = some b) : ExC K H t (.ref B) b
  | ty {T : String} {b : Bool} (e : PySem.W.kitOne K t (.type T) = some b) : ExC K H t (.ty T) b
  | tup {p : Addr} {Bs : List Addr} {b : Bool} (h : H p = some (.tup (Bs.map V.ref))) (e : PySem.W.kitAny K t (Bs.map Value.ref) = some b) : ExC K H t (.ref p) b
noncomputable def DictThere (H : Hp) : Option Addr → Prop
  | none => True
  | some dx => ∃ u, H dx = some u
theorem vals_refs : ∀ {Bs : List Addr} {its : List Value}, Vals (Bs.map V.ref) its → its = Bs.map Value.ref
  | [], _, .nil => rfl
  | B :: r, _, .cons h t => by
    rw [vals_refs t, show _ = Value.ref B from h]
    rfl
theorem exo_inst {P : Program} {w : World} {H : Hp} {h : Heap} {a C : Addr} {dd : Option Addr} (ok : HOk P w H h) (ha : H a = some (ExO a C dd)) (hd : DictThere H dd) : ∃ ox od, PySem.W.InstAt h a ox C od := by
  obtain ⟨⟨o, vs, h1, h2, h3, h4, _⟩, _⟩ := ok a _ ha
  have nc : PySem.W.notCls o = true := by unfold PySem.W.notCls; rw [h4]
  cases dd with
  | none => exact ⟨o, none, h1, h2, nc, by rw [h3]; trivial⟩
  | some dx =>
    obtain ⟨u, hu⟩ := hd
    obtain ⟨od, q⟩ := (ok dx u hu).there
    exact ⟨o, some od, h1, h2, nc, by rw [h3]; exact q⟩
theorem call_isinstE {X : Cx} : CallR X (.builtin "isinstance") (fun xs H Q => ∃ a C dd c b, xs = [.ref a, c] ∧ H a = some (ExO a C dd) ∧ DictThere H dd ∧ XK1 X.K C ∧ ExC X.K H (.ref C) c b ∧ Q (.bl b) H) := by
  intro pins s σ H xs us Q I r h
  obtain ⟨a, C, dd, c, b, rfl, ha, hd, k, hc, q⟩ := h
  obtain ⟨u, w', rfl, rx, ry⟩ := vals2 r
  cases (show u = Value.ref a from rx)
  have J := exo_inst I.hok ha hd
  cases hc with
  | @one B b e =>
    cases (show w' = Value.ref B from ry)
    exact PySem.W.kia_one (kitx_exc k) I.kIn J e (fun z => nomatch z) fun tk => ⟨.bl b, H, I.tok _, rfl, q⟩
  | @ty T b e =>
    cases (show w' = Value.type T from ry)
    exact PySem.W.kia_one (kitx_exc k) I.kIn J e (fun z => nomatch z) fun tk => ⟨.bl b, H, I.tok _, rfl, q⟩
  | @tup p Bs b hp e =>
    cases (show w' = Value.ref p from ry)
    obtain ⟨_, its, rv, ⟨oc, od, oda, osl⟩, e1, e2, n, e3⟩ := (show ObjOk X.prog X.w H s.heap p (.tup (Bs.map V.ref)) from I.hok p _ hp)
    dsimp only at e2 e3
    subst e2 e3
    rw [vals_refs rv] at e1
    exact PySem.W.kia_tup (kitx_exc k) I.kIn J e1 e (fun z => nomatch z) fun tk => ⟨.bl b, H, I.tok _, rfl, q⟩
theorem boot_ValueError : bootBuiltins "ValueError" = some (.type "ValueError") := by kernel_rfl
end L2
set_option Elab.async false
set_option linter.all false
set_option maxRecDepth 100000
set_option maxHeartbeats 16000000
namespace L2
open PySem PySem.Spec PyProof.Rows XC
inductive OverV : List Value → Prop
  | base : OverV bmV
  | own {c : Addr} {l : List Value} : OverV l → OverV (.ref c :: l)
theorem OverV.pass (self : Value) {l : List Value} (h : OverV l) : refuseLoop self "__setattr__" l = pure () := by
  induction h with
  | base => exact F.store_ValueError.passes self
  | own _ ih => rw [refuseLoop_ref]; exact ih
structure XF (K : PySem.W.Frag) (C : Addr) (f : Str) : Prop where
  cd : ∃ cd, PySem.W.clsIn K C = some cd ∧ OverV cd.mro ∧ cd.hasDict = true
  sa : PySem.W.findIn K (.ref C) "__setattr__" = some (some (.builtin "object.__setattr__"))
  no : PySem.W.findIn K (.ref C) f = some none
section
variable {prog : Program} {w : World} {A : Around} {E : Value → Shared → Prop} {s : Shared} {K : PySem.W.Frag} {x C : Addr} {o : Obj} {vs : Array Value} {f : Str} {v : Value}
theorem exc_set {Q : Unit → Shared → Prop} (k : XK1 K C) (xf : XF K C f) (X : K.In s.heap) (hx : s.heap.get? x = some o) (hc : o.cls = .ref C) (hd : o.dict = none) (hv : o.data = .fields vs)
    (h : ∀ h' dx tk, dx = s.heap.objs.size → (∀ b u, b ≠ x → s.heap.get? b = some u → h'.get? b = some u) → h'.get? x = some { o with dict := some dx } → dx ≠ x → h'.Ns1 dx (fun y => if y = f then some v else none) → Q () { s with heap := h', toks := tk }) :
    wpAny (model prog w) A (setAttr (.ref x) f v) Q E s := by
  obtain ⟨hh, g, d, t, os⟩ := s
  obtain ⟨cd, c1, c2, c3⟩ := xf.cd
  have SF := F.store_ValueError
  have L0 : PySem.W.Looks (model prog w) hh (typeOf (.ref x)) (.ref C) := hc ▸ (PySem.W.Looks.ld hx).andThen .now
  have L1 := PySem.W.looks_findIn (M := model prog w) X xf.sa
  have L2 := PySem.W.looks_findIn (M := model prog w) X xf.no
  have L3 : PySem.W.Looks (model prog w) hh (mroOf (.ref C)) cd.mro := (PySem.W.looks_clsIn X c1).andThen .now
  have L4 : PySem.W.Looks (model prog w) hh (isInstance (.ref x) (.type "object")) true := L0.andThen (PySem.W.looks_mroIn X k.ob)
  unfold setAttr callSpecial? specialOf
  refine wpAny_bind (wpAny_mkText (wpAny_bind (wpAny_bind (wpAny_bind (L0.at (L1.at ?_))))))
  refine wpAny_holding (wpAny_bind (wpAny_of_eq (SF.slot.bind (.ref x)) ?_))
  refine wpAny_bind (wpAny_call (codeAny_call_builtin SF.slot.plain SF.entry (@PySem.W.check_slot (model prog w) _ _ ⟨hh, g, d, t + 1, os⟩ "object.__setattr__" "object" "__setattr__" (.ref x) [.str f t, v] [] _ SF.kind SF.split L4 (SF.args (.ref x) (.str f t) v) ?_)))
  show wpAny _ _ (Builtin.«object.__setattr__» ⟨[.ref x, .str f t, v], []⟩) _ _ _
  rw [PySem.W.osa_eq, refuse_eq]
  refine wpAny_bind (wpAny_bind (L0.at (wpAny_bind (L3.at ?_))))
  rw [c2.pass]
  refine wpAny_pure (wpAny_bind (L0.at (wpAny_bind (L2.at (wpAny_bind (wpAny_pure ?_))))))
  show wpAny _ _ (Builtin.ObjectAttr.storeInOwnDict (.ref x) (.ref C) (.str f t) f v false) _ _ _
  obtain ⟨oc, od, oda, osl⟩ := o
  dsimp only at hc hd hv
  subst hc hd hv
  refine wpAny_bind (wpAny_pure (wpAny_bind (wpAny_bind (wpAny_loadPart hx (wpAny_bind ((PySem.W.looks_clsIn X c1).at ?_))))))
  rw [c3]
  have hx1 : (hh.push { cls := .type "dict", data := .dict #[] }).get? x = some ⟨.ref C, none, .fields vs, osl⟩ := Heap.get?_push_of_some _ hx
  have hxs : x ≠ hh.objs.size := Nat.ne_of_lt (Heap.lt_size hx)
  refine wpAny_bind (wpAny_alloc' (wpAny_bind (wpAny_update' hx1 (wpAny_pure ?_))))
  have gx : ((hh.push { cls := .type "dict", data := .dict #[] }).update x fun o => { o with dict := some hh.objs.size }).get? x = some ⟨.ref C, some hh.objs.size, .fields vs, osl⟩ := Heap.get?_update_self _ hx1 rfl
  have gd : ((hh.push { cls := .type "dict", data := .dict #[] }).update x fun o => { o with dict := some hh.objs.size }).get? hh.objs.size = some { cls := .type "dict", data := .dict #[] } := by
    rw [Heap.get?_update_other _ _ hxs]
    exact Heap.get?_push_size _ rfl
  have ko : ∀ b u, b ≠ x → hh.get? b = some u → ((hh.push { cls := .type "dict", data := .dict #[] }).update x fun o => { o with dict := some hh.objs.size }).get? b = some u := fun b u z q => by
    rw [Heap.get?_update_other _ _ (Ne.symm z)]
    exact Heap.get?_push_of_some _ q
  show wpAny _ _ (Builtin.ObjectAttr.storeInDict hh.objs.size (.str f t) f v) _ _ ⟨(hh.push { cls := .type "dict", data := .dict #[] }).update x fun o => { o with dict := some hh.objs.size }, g, d, t + 1, os⟩
  generalize ((hh.push { cls := .type "dict", data := .dict #[] }).update x fun o => { o with dict := some hh.objs.size }) = h2 at gx gd ko
  have nd : h2.Ns hh.objs.size (fun _ => none) := ⟨_, #[], _, gd, rfl, fun e he => absurd he (by simp), fun _ => rfl⟩
  unfold Builtin.ObjectAttr.storeInDict Builtin.ObjectAttr.newKeyGuard
  refine wpAny_bind (wpAny_pure (wpAny_bind (wpAny_nsSet1 (Heap.Ns1.of_empty nd) fun h3 n3 S3 => ?_)))
  obtain ⟨oD, esD, epD, a1, a2, a3⟩ := n3.count (Within.cons f v Within.nil)
  refine wpAny_bind (wpAny_lookBehind a1 (by rw [a2]; exact pastItsLine_dict (Nat.le_trans a3 (by rw [List.length_cons, List.length_nil, sizeLine_eq]; omega))) ?_)
  refine wpAny_pure (wpAny_pure (wpAny_pure ?_))
  refine h h3 hh.objs.size _ rfl (fun b u z q => ?_) ((S3.2 x hxs).trans gx) (Ne.symm hxs) n3
  exact (S3.2 b (Nat.ne_of_lt (Heap.lt_size q))).trans (ko b u z q)
theorem exc_get {Q : Value → Shared → Prop} {expr : Bool} {dx : Addr} {mA : Str → Option Value} (k : XK1 K C) (xf : XF K C f) (X : K.In s.heap) (hx : s.heap.get? x = some o) (hc : o.cls = .ref C) (hd : o.dict = some dx) (hv : o.data = .fields vs) (hn : s.heap.Ns1 dx mA) (hf : mA f = some v) (hh : PySem.W.handedIn v = true)
    (h : ∀ tk, Q v { s with toks := tk }) : wpAny (model prog w) A (getAttr (.ref x) f expr) Q E s := by
  obtain ⟨hp, g, d, t, os⟩ := s
  obtain ⟨cd, c1, c2, c3⟩ := xf.cd
  obtain ⟨od, es, ep, n1, n2, n3, n4, n5⟩ := id hn
  have I : PySem.W.InstAt hp x o C (some od) := ⟨hx, hc, by unfold PySem.W.notCls; rw [hv], by rw [hd]; exact n1⟩
  have lk : PySem.W.lookIn f od = some (some v) := by
    unfold PySem.W.lookIn
    rw [n2]
    have q := n5 f
    rw [hf] at q
    unfold nsFind findBy at q
    obtain ⟨en, q1, q2⟩ := Option.map_eq_some_iff.mp q
    dsimp only
    rw [← Array.find?_toList] at q1
    rw [q1]
    exact congrArg (fun z => some (some z)) q2
  have fo : PySem.W.findObj K C (some od) f = some (.value v) := by
    unfold PySem.W.findObj
    rw [c1, Option.bind_some, xf.no, Option.bind_some]
    simp [PySem.W.ownOf, c3, lk]
  have L0 := I.type (M := model prog w)
  have L1 := PySem.W.looks_findIn (M := model prog w) X k.ga
  have L2 := PySem.W.looks_findIn (M := model prog w) X k.gt
  have L3 := PySem.W.looks_find (M := model prog w) X I fo
  unfold getAttr getAttrBy
  refine wpAny_bind (wpAny_mkText (wpAny_holding (wpAny_bind (L0.at (wpAny_bind (L1.at ?_))))))
  dsimp only
  rw [if_neg (by rw [show (Value.builtin "BaseException.__getattribute__" == Value.builtin "object.__getattribute__") = false by decide +kernel, Bool.and_false]; exact Bool.false_ne_true)]
  unfold getAttrByItsOwn hookBefore
  rw [if_pos (show onTheHeap (Value.ref C) = true from rfl)]
  refine wpAny_bind (L2.at (wpAny_bind (wpAny_attempt (wpAny_holding ?_))))
  unfold callGetattribute boundAndCalled
  rw [if_neg (by rw [show onTheHeap (Value.builtin "BaseException.__getattribute__") = false from rfl, Bool.and_false]; exact Bool.false_ne_true)]
  refine wpAny_bind (wpAny_of_eq (F.excAttr_ValueError.ga.bind _) ?_)
  refine wpAny_call (codeAny_call_builtin F.excAttr_ValueError.ga.plain F.entry_bexc_ga (exc_check k X I ?_))
  unfold Builtin.«object.__getattribute__»
  refine wpAny_bind (wpAny_of_eq (a := (Value.ref x, [Value.str f t])) rfl (wpAny_bind (wpAny_of_eq (a := f) rfl (wpAny_bind (L0.at (wpAny_bind (L3.at (wpAny_pure ?_))))))))
  show wpAny _ _ (handedOut v) _ _ _
  exact PySem.W.handed_on hh (h _)
end
section
variable {prog : Program} {w : World} {A : Around} {E : Value → Shared → Prop} {h : Heap} {g : Array GenState} {d : Drawn} {t : Nat} {os : OsState}
variable {nm q : Str} {C N e : Addr} {bs bm : List Value} {hdct : Bool} {sn : List Str} {sub : List Value} {ab : Bool} {col : Option Bool} {dd : Option Addr} {k0 k1 k2 k3 k5 : Option Value} {oe : Obj} {vs : Array Value} {v : Value}
theorem exc_init {Q : Value → Shared → Prop} (hC : h.get? C = some (excClassObj nm q C N bs bm hdct sn sub ab col dd k0 k1 k2 k3 k5 "ValueError.__new__")) (T : OwnTail h bmV bm) (he : h.get? e = some oe) (hc : oe.cls = .ref C) (hd : oe.data = .fields vs) {a0 : Addr} (h0 : vs[0]? = some (.ref a0))
    (k : ∀ h' t', h.get? t' = none → (∀ b o, b ≠ e → h.get? b = some o → h'.get? b = some o) → h'.get? e = some (oe.mapFields (·.setIfInBounds 0 (.ref t'))) → Q .none ⟨h', g, d, t, os⟩) :
    wpAny (model prog w) A (call (.builtin "ValueError.__init__") [.ref e, v]) Q E ⟨h, g, d, t, os⟩ := by
  refine wpAny_call (codeAny_call_builtin F.excBase_ValueError.init.plain F.excBase_ValueError.initEntry (wpAny_check_init_subT F.excBase_ValueError T hC he hc ?_))
  iterate 12 (first | wp_step | skip)
  have he2 := Heap.get?_push_of_some { cls := .type "tuple", data := .seq #[v] } he
  unfold Builtin.BaseException.bexcPut
  refine wpAny_bind (wpAny_field he2 hd h0 (wpAny_bind (wpAny_setField he2 hd (Array.getElem?_eq_some_iff.mp h0).1 ?_)))
  wp_walk
  refine k _ h.objs.size (Heap.get?_none_of_le (Nat.le_refl _)) (fun b o z qb => ?_) (Heap.get?_update_self _ he2 (Obj.isFreed_of_fields (Obj.data_mapFields hd _)))
  rw [Heap.get?_update_other _ _ (Ne.symm z)]
  exact Heap.get?_push_of_some _ qb
end
section
variable {prog : Program} {w : World} {A : Around} {E : Value → Shared → Prop} {h : Heap} {g : Array GenState} {d : Drawn} {t : Nat} {os : OsState}
variable {nm q : Str} {C N fI : Addr} {bs bm : List Value} {hdct : Bool} {sn : List Str} {sub : List Value} {ab : Bool} {col : Option Bool} {dd : Option Addr} {k0 k1 k2 k3 k5 : Option Value} {oI : Obj} {rest : List Value}
theorem exc_tcall {Q : Fin → Shared → Prop} (hC : h.get? C = some (excClassObj nm q C N bs bm hdct sn sub ab col dd k0 k1 k2 k3 k5 "ValueError.__new__")) (T : OwnTail h bmV bm) (hl : PySem.W.Looks (model prog w) h (typeLookup (.ref C) "__init__") (some (.ref fI)))
    (hf : h.get? fI = some oI) (hc : oI.cls = .type "function") (hz : rest.length ≤ sizeLine)
    (k : ∀ h' e, Heap.MadeExcOf h h' e (.ref C) rest → wpAny (model prog w) A (call (.ref fI) (.ref e :: rest)) (fun r s' => r = .none ∧ Q (.done (.ret (.ref e))) s') E ⟨h', g, d, t, os⟩) :
    wpAny (model prog w) A (Builtin.«type.__call__» ⟨.ref C :: rest, []⟩) Q E ⟨h, g, d, t, os⟩ := by
  iterate 60 (first | with_reducible refine wpAny_loadPart_at hC ?_ | with_reducible refine wpAny_madeBy_exc hC ?_ | wp_step | skip)
  refine codeAny_call_builtin_code (Code.quiet_builtin _ F.excBase_ValueError.quiet) (wpAny_check_new_subT F.excBase_ValueError T hC (codeAny_exc_new_subT F.excBase_ValueError T hC ?_ hz))
  have kp : ∀ b o, h.get? b = some o → ((h.push { cls := .type "tuple", data := .seq rest.toArray }).push { cls := .ref C, data := .fields #[.ref h.objs.size, .none, .none, .none, .bool false, .none] }).get? b = some o := fun b o e => Heap.get?_push_of_some _ (Heap.get?_push_of_some _ e)
  have gt : ((h.push { cls := .type "tuple", data := .seq rest.toArray }).push { cls := .ref C, data := .fields #[.ref h.objs.size, .none, .none, .none, .bool false, .none] }).get? h.objs.size = some { cls := .type "tuple", data := .seq rest.toArray } := Heap.get?_push_of_some _ (Heap.get?_push_size _ rfl)
  have ge : ((h.push { cls := .type "tuple", data := .seq rest.toArray }).push { cls := .ref C, data := .fields #[.ref h.objs.size, .none, .none, .none, .bool false, .none] }).get? (h.objs.size + 1) = some { cls := .ref C, data := .fields #[.ref h.objs.size, .none, .none, .none, .bool false, .none] } := by
    rw [show h.objs.size + 1 = (h.push { cls := .type "tuple", data := .seq rest.toArray }).objs.size from (Heap.size_push _ _).symm]
    exact Heap.get?_push_size _ rfl
  have M := Heap.MadeExcOf.mk (h := h) (e := h.objs.size + 1) (cls := .ref C) (args := rest) kp (Heap.get?_none_of_le (Nat.le_succ _)) ⟨h.objs.size, ge, Heap.get?_none_of_le (Nat.le_refl _), gt⟩
  generalize (h.push { cls := .type "tuple", data := .seq rest.toArray }).push { cls := .ref C, data := .fields #[.ref h.objs.size, .none, .none, .none, .bool false, .none] } = h1 at kp gt ge M ⊢
  generalize h.objs.size + 1 = e at ge M ⊢
  have L0 : PySem.W.Looks (model prog w) h1 (typeOf (.ref e)) (.ref C) := (PySem.W.Looks.ld ge).andThen .now
  have L1 := hl.keeps kp
  show wpAny _ _ _ _ _ _
  refine wpAny_bind ?_
  unfold isInstance
  refine wpAny_bind (L0.at (wpAny_isSubtype_exc (kp _ _ hC) ?_))
  rw [show (Value.ref C :: bm).contains (Value.ref C) = true by simp]
  simp only [Bool.not_true, Bool.false_eq_true, if_false]
  unfold callSpecial? specialOf
  refine wpAny_bind (wpAny_holding (wpAny_bind (wpAny_bind (L0.at (L1.at (wpAny_holding (wpAny_bind ?_)))))))
  unfold bindSpecial
  refine wpAny_bind (wpAny_typeOf (show (⟨h1, g, d, t, os⟩ : Shared).TypeIs (.ref fI) "function" from ⟨_, kp _ _ hf, hc⟩) ?_)
  rw [if_pos (by decide)]
  refine wpAny_pure (wpAny_bind (wpAny_mono (k h1 e M) (fun r s' z => ?_) fun _ _ z => z))
  obtain ⟨z1, z2⟩ := z
  subst z1
  refine wpAny_pure ?_
  dsimp only
  rw [if_neg (by decide)]
  exact wpAny_pure z2
theorem exc_make {Q : Value → Shared → Prop} (hC : h.get? C = some (excClassObj nm q C N bs bm hdct sn sub ab col dd k0 k1 k2 k3 k5 "ValueError.__new__")) (T : OwnTail h bmV bm) (hl : PySem.W.Looks (model prog w) h (typeLookup (.ref C) "__init__") (some (.ref fI)))
    (hf : h.get? fI = some oI) (hc : oI.cls = .type "function") (hz : rest.length ≤ sizeLine)
    (k : ∀ h' e, Heap.MadeExcOf h h' e (.ref C) rest → wpAny (model prog w) (A.under (.builtin "type.__call__" ⟨.ref C :: rest, []⟩)) (call (.ref fI) (.ref e :: rest)) (fun r s' => r = .none ∧ Q (.ref e) s') E ⟨h', g, d, t, os⟩) :
    wpAny (model prog w) A (call (.ref C) rest) Q E ⟨h, g, d, t, os⟩ := by
  have f1 := tc_lookup
  have f2 := tc_bind (.ref C)
  have hT : (⟨h, g, d, t, os⟩ : Shared).TypeIs (.ref C) "type" := ⟨_, hC, rfl⟩
  refine wpAny_call (codeAny_of_tree ?_)
  show wpAny _ _ (callAny (.ref C) _) _ _ _
  repeat (any_goals (first | wp_step | assumption | with_reducible refine wpAny_loadPart_at hC ?_))
  refine ⟨rfl, codeAny_call_builtin_at (Code.quiet_builtin _ (by decide +kernel)) entry_typeCall (wpAny_check_type_call_sub hC (exc_tcall hC T hl hf hc hz fun h' e m => k h' e m))⟩
end
end L2
set_option Elab.async false
set_option linter.all false
set_option maxRecDepth 100000
set_option maxHeartbeats 16000000
namespace L2
open PySem PySem.Spec PyProof.Rows XC
noncomputable def ExN (a C : Addr) (dd : Option Addr) : HO := .ext fun h => ∃ o vs a0, h.get? a = some o ∧ o.cls = .ref C ∧ o.dict = dd ∧ o.data = .fields vs ∧ vs[0]? = some (.ref a0) ∧ vs[1]? = some .none ∧ vs[2]? = some .none
structure XI (K : PySem.W.Frag) (C fI : Addr) : Prop where
  obj : ∃ B N nm q bs hdct sn sub ab col dd k0 k1 k2 k3 k5, K.lookup C = some (excClassObj nm q C N bs (.ref B :: bmV) hdct sn sub ab col dd k0 k1 k2 k3 k5 "ValueError.__new__") ∧ PySem.W.excIn K B bmV "ValueError.__new__" = true
  ini : PySem.W.findIn K (.ref C) "__init__" = some (some (.ref fI))
  fn : PySem.W.isFn K (.ref fI) = true
theorem XI.here {K : PySem.W.Frag} {h : Heap} {C fI : Addr} (x : XI K C fI) (X : K.In h) : ∃ N nm q bs bm hdct sn sub ab col dd k0 k1 k2 k3 k5, h.get? C = some (excClassObj nm q C N bs bm hdct sn sub ab col dd k0 k1 k2 k3 k5 "ValueError.__new__") ∧ OwnTail h bmV bm := by
  obtain ⟨B, N, nm, q, bs, hdct, sn, sub, ab, col, dd, k0, k1, k2, k3, k5, e, b⟩ := x.obj
  obtain ⟨_, _, _, _, _, _, _, _, _, _, _, _, _, _, _, _, mN, hB, hN, hni, _⟩ := own_obj X b
  exact ⟨N, nm, q, bs, _, hdct, sn, sub, ab, col, dd, k0, k1, k2, k3, k5, X _ _ e, .own hB hN hni .base⟩
theorem upd_self {H : Hp} {a : Addr} {o : HO} (h : H a = some o) : upd H a o = H := by
  funext b
  unfold upd
  by_cases e : b = a
  · rw [if_pos e, e, h]
  · rw [if_neg e]
structure XB (K : PySem.W.Frag) (B : Addr) : Prop where
  ga : PySem.W.specialIn K (.ref B) "__getattribute__" = some (some (.builtin "type.__getattribute__"))
  rd : PySem.W.readsIn K B (.type "type") = true
  fc : PySem.W.findCls K (.ref B) (.type "type") "__init__" = some (.val (.builtin "ValueError.__init__"))
section
variable {X : Cx} {b : Str} {B : Addr} {bp apos pos spos : Pos} {e1 e2 : Expr} {ta : TA}
noncomputable def tInitB (K : PySem.W.Frag) (ta : TA) : TS := fun D σ H => ta σ H fun vs H1 => ∃ x C fI v, vs = [.ref x, v] ∧ H1 x = some (ExN x C none) ∧ XI K C fI ∧ D.nx σ H1
theorem ps_initB {pl : Sem Bool} (hg : Gl X b) (hm : X.mg b = some (.ref B)) (xb : XB X.K B) (ha : PA X [e1, e2] ta) (hd : (b == ("__debug__" : Str)) = false := by decide)
    (hs : swapsWith (.Call (.Attribute (.Name b bp) "__init__" apos) [e1, e2] [] pos) none spos.line X.env = pure false := by rfl)
    (he : starEach [e1, e2] X.env = (false, eval e1 X.env) :: starEach [e2] X.env := by rfl) (hpl : (backTo pos (starEach [e2] X.env)).any (·.1) = false := by rfl)
    (ht : eval (.Call (.Attribute (.Name b bp) "__init__" apos) [e1, e2] [] pos) X.env = (do
      let ov ← eval (.Name b bp) X.env
      standAt apos.atName
      let (f, first) ← holding [ov] (getMethod ov "__init__" pl)
      callWith pos f first (backTo pos (starEach [e1, e2] X.env)) (backToKw pos (keywordEach [] X.env))) := by rfl) :
    PS X (.Expr (.Call (.Attribute (.Name b bp) "__init__" apos) [e1, e2] [] pos) spos) (tInitB X.K ta) := by
  intro pins s σ H D I h
  refine wpAny_Expr_any (Q := SP X pins D) ?_ I.quiet hs
  refine PySem.W.methodCall_KW (pl := pl) (ld_glob I hg hm ?_ hd) ht
  refine PySem.W.method_cls I.kIn xb.ga (PySem.W.cls_value I.kIn xb.rd xb.fc rfl ?_)
  refine PyProof.Rows.callWith_builtin1 (thn (ha pos pins _ σ H _ (I.tok _) h) fun us s1 ⟨vs, H1, I1, r, x, C, fI, v, ev, hx, xi, q⟩ => ?_) he hpl
  subst ev
  obtain ⟨u1, u2, rfl, r1, r2⟩ := vals2 r
  cases (show u1 = Value.ref x from r1)
  obtain ⟨⟨o, fs, a0, o1, o2, o3, o4, o5, o6, o7⟩, _⟩ := I1.hok x _ hx
  obtain ⟨N, nm, q', bs, bm, hdct, sn, sub, ab, col, dd, k0, k1, k2, k3, k5, hC, T⟩ := xi.here I1.kIn
  obtain ⟨hh, g, d, t, os⟩ := s1
  refine exc_init hC T o1 o2 o4 o5 fun h' t' _ kp hx' => ?_
  have d2 := Obj.data_mapFields o4 (·.setIfInBounds 0 (Value.ref t'))
  have J : Inv X pins σ (upd H1 x (ExN x C none)) { (⟨hh, g, d, t, os⟩ : Shared) with heap := h', toks := t } := I1.write (e := x) (by rw [hx]; trivial) (.inl rfl) kp ⟨_, hx'⟩ ⟨⟨_, _, t', hx', (Obj.cls_mapFields _ _).trans o2, (dict_map o4).trans o3, d2, ?_, ?_, ?_⟩, ⟨_, hx'⟩, fun g1 g2 ⟨o, vs, a0, q, r⟩ k => ⟨o, vs, a0, k o q, r⟩⟩
  · rw [upd_self hx] at J
    exact ⟨σ, H1, J, q⟩
  · rw [Array.getElem?_setIfInBounds_self, if_pos (Array.getElem?_eq_some_iff.mp o5).1]
  · rw [Array.getElem?_setIfInBounds_ne (by decide)]
    exact o6
  · rw [Array.getElem?_setIfInBounds_ne (by decide)]
    exact o7
end
section
variable {X : Cx} {o value : Expr} {f : Str} {ta tv : TE} {pos pos' : Pos}
noncomputable def sFldX (K : PySem.W.Frag) (ta tv : TE) (f : Str) : TS := fun D σ H => tv σ H fun y H1 => ta σ H1 fun x H2 => ∃ a C, x = .ref a ∧ H2 a = some (ExN a C none) ∧ XK1 K C ∧ XF K C f ∧ ∀ dx, H2 dx = none → D.nx σ (upd (upd H2 dx (.xd [(f, y)])) a (ExN a C (some dx)))
theorem ps_fldX (ha : PE X o ta) (hv : PE X value tv) (hs : swapsWith value (some (.Attribute o f pos')) pos.line X.env = pure false) : PS X (.Assign [.Attribute o f pos'] value pos) (sFldX X.K ta tv f) := by
  intro pins s σ H D I h
  refine plainObj_wpAny_Assign_Attribute (thn (hv pins s σ H _ I h) fun u s1 ⟨y, H1, I1, ry, q⟩ => thn (ha pins s1 σ H1 _ I1 q) fun ov s2 ⟨x, H2, I2, rx, a, C, ex, hx, k, xf, q2⟩ => ?_) hs
  subst ex
  obtain rfl : ov = Value.ref a := rx
  obtain ⟨⟨ob, fs, a0, o1, o2, o3, o4, o5, o6, o7⟩, _⟩ := I2.hok a _ hx
  refine exc_set k xf I2.kIn o1 o2 o3 o4 fun h' dx tk edx kp hx' ne ns => ?_
  have fr : H2 dx = none := I2.hok.fresh (by rw [edx]; exact Nat.le_refl _)
  have lt : ∀ b u, s2.heap.get? b = some u → b ≠ dx := fun b u q z => by rw [z, edx] at q; exact absurd (Heap.lt_size q) (Nat.lt_irrefl _)
  have hne : ∀ b u, H2 b = some u → b ≠ dx := fun b u q => ne_of_none q fr
  have other : ∀ b, b ≠ a → b ≠ dx → upd (upd H2 dx (.xd [(f, y)])) a (ExN a C (some dx)) b = H2 b := fun b z1 z2 => by rw [upd_ne z1, upd_ne z2]
  have old : ∀ b v, H2 b = some v → v ≠ ExN a C none → b ≠ a := fun b v q z w => by rw [w, hx] at q; exact z (Option.some.inj q).symm
  refine ⟨σ, _, I2.un (t' := tk) ⟨fun b u q n _ _ => kp b u (fun z => by rw [z, hx] at n; cases n) q, fun b u q n _ _ => ⟨u.slots, kp b u (fun z => by rw [z, hx] at n; cases n) q⟩, fun b u q n _ => ?_, fun b u q _ => ?_, fun b xs q => ?_, fun b u xs q => ?_, fun b ps q => ⟨#[], ?_⟩⟩ fun b u q => ?_, q2 dx fr⟩
  · rw [other b (fun z => by rw [z, hx] at n; cases n) (lt b u q)]
    exact n
  · by_cases z : b = a
    · exact ⟨_, z ▸ hx'⟩
    · exact ⟨u, kp b u z q⟩
  · rw [other b (old b _ q (by intro z; cases z)) (hne b _ q)]
    exact q
  · rw [other b (old b _ q (by intro z; cases z)) (hne b _ q)]
    exact q
  · rw [other b (old b _ q (by intro z; cases z)) (hne b _ q), q]
    simp
  · by_cases z1 : b = a
    · subst z1
      rw [upd_same] at q
      cases q
      exact ⟨⟨_, fs, a0, hx', o2, rfl, o4, o5, o6, o7⟩, ⟨_, hx'⟩, fun g1 g2 ⟨o, vs, a0, q, r⟩ k => ⟨o, vs, a0, k o q, r⟩⟩
    · by_cases z2 : b = dx
      · subst z2
        rw [upd_ne z1, upd_same] at q
        cases q
        refine ⟨_, ns, fun y' => ?_⟩
        by_cases ey : y' = f
        · subst ey
          rw [if_pos rfl, List.lookup_cons]
          simp [RelO]
          exact ry
        · rw [if_neg ey, List.lookup_cons]
          rw [show (y' == f) = false from by simpa using ey]
          simp [RelO]
      · rw [other b z1 z2] at q
        refine (I2.hok b u q).stay (fun c v hc r => kp c v ?_ r) (fun c r => ?_) fun c xs r => ?_
        · rcases hc with hc | hc
          · rw [hc]; exact z1
          · exact old c _ hc (by intro z; cases z)
        · rw [other c (old c _ r (by intro z; cases z)) (hne c _ r)]
          exact r
        · rw [other c (old c _ r (by intro z; cases z)) (hne c _ r)]
          exact r
noncomputable def tFldX (K : PySem.W.Frag) (ta : TE) (f : Str) : TE := fun σ H Q => ta σ H fun x H1 => ∃ a C dx fs v, x = .ref a ∧ H1 a = some (ExO a C (some dx)) ∧ H1 dx = some (.xd fs) ∧ XK1 K C ∧ XF K C f ∧ fs.lookup f = some v ∧ Q v H1
theorem handed_rel {v : V} {u : Value} (r : RelV v u) : PySem.W.handedIn u = true := by
  cases v with
  | non => cases (show u = _ from r); rfl
  | bl b => cases (show u = _ from r); rfl
  | int i => obtain ⟨t, rfl⟩ := r; rfl
  | str x => obtain ⟨t, rfl⟩ := r; rfl
  | byt x => obtain ⟨t, rfl⟩ := r; rfl
  | flt x => obtain ⟨t, rfl⟩ := r; rfl
  | ref a => cases (show u = _ from r); rfl
  | ty n => cases (show u = _ from r); rfl
theorem pe_fldX {e : Expr} (he : PE X e ta) (hb : attributeBase e f X.env (eval e X.env) = eval e X.env) : PE X (.Attribute e f pos) (tFldX X.K ta f) := by
  intro pins s σ H Q I h
  refine attr_of hb (thn (he pins s σ H _ I h) fun u s1 ⟨x, H1, I1, rx, a, C, dx, fs, v, ex, hx, hdx, k, xf, l, q⟩ => ?_)
  subst ex
  obtain rfl : u = Value.ref a := rx
  obtain ⟨⟨ob, vs, o1, o2, o3, o4, _⟩, _⟩ := I1.hok a _ hx
  obtain ⟨mA, ns, rel⟩ := I1.hok dx _ hdx
  have rf := rel f
  rw [l] at rf
  cases em : mA f with
  | none => rw [em] at rf; exact False.elim rf
  | some w =>
    rw [em] at rf
    exact exc_get k xf I1.kIn o1 o2 o3 o4 ns em (handed_rel rf) fun tk => ⟨v, H1, I1.tok _, rf, q⟩
end
end L2
set_option Elab.async false
set_option linter.all false
set_option maxRecDepth 100000
set_option maxHeartbeats 16000000
namespace L2
open PySem PySem.Spec PyProof.Rows XC
noncomputable def dropH (H : Hp) (a : Addr) : Hp := fun b => if b = a then none else H b
theorem drop_ne {H : Hp} {a b : Addr} (h : b ≠ a) : dropH H a b = H b := by unfold dropH; rw [if_neg h]
theorem drop_none {H : Hp} {a b : Addr} (h : H b = none) : dropH H a b = none := by unfold dropH; split <;> first | rfl | exact h
theorem drop_some {H : Hp} {a b : Addr} {o : HO} (h : dropH H a b = some o) : b ≠ a ∧ H b = some o := by
  unfold dropH at h
  split at h
  · cases h
  · rename_i z
    exact ⟨z, h⟩
theorem Inv.drop {X : Cx} {pins : List (Addr × Obj)} {σ : St} {H : Hp} {s : Shared} {a : Addr} {φ : Heap → Prop} (I : Inv X pins σ H s) (h : H a = some (.ext φ)) : Inv X pins σ (dropH H a) s := by
  have keep : ∀ b o, H b = some o → o ≠ .ext φ → dropH H a b = some o := fun b o q z => by
    rw [drop_ne fun w => by rw [w, h] at q; exact z (Option.some.inj q).symm]
    exact q
  refine ⟨I.ok, I.os, I.bare, ⟨fun b o q n => I.base.keep b o q n, fun b o q n => I.base.slot b o q n, fun b o q n hx => drop_none (I.base.free b o q n hx), I.base.there, fun b xs q => keep b _ (I.base.tups b xs q) (by intro z; cases z), fun b o xs q => keep b _ (I.base.frzs b o xs q) (by intro z; cases z), fun b ps q => ?_⟩, I.loc, I.cell, drop_none I.free, fun x c e => drop_none (I.freeC x c e), fun p hp => ?_, fun b o q => ?_, I.len⟩
  · obtain ⟨more, e⟩ := I.base.tbls b ps q
    exact ⟨more, keep b _ e (by intro z; cases z)⟩
  · obtain ⟨e, n, r⟩ := I.pin p hp
    exact ⟨e, drop_none n, r⟩
  · obtain ⟨z, q⟩ := drop_some q
    exact (I.hok b o q).stay (fun _ _ _ r => r) (fun c r => keep c _ r (by intro z; cases z)) fun c xs r => keep c _ r (by intro z; cases z)
theorem exc_raise {M : Model} {A : Around} {E : Value → Shared → Prop} {s : Shared} {K : PySem.W.Frag} {C : Addr} {env : Env} {x : Sem Value} {Q : Flow → Shared → Prop} (hh : A.handled = none) (k : XK1 K C)
    (h : wpAny M A x (fun v s1 => ∃ e oe vs, v = .ref e ∧ K.In s1.heap ∧ s1.heap.get? e = some oe ∧ oe.cls = .ref C ∧ oe.data = .fields vs ∧ vs[1]? = some .none ∧ E (.ref e) s1) E s) : wpAny M A (raiseStmt env (some x) none) Q E s := by
  unfold raiseStmt
  refine wpAny_bind (wpAny_mono h (fun v s1 z => ?_) fun _ _ z => z)
  obtain ⟨e, oe, vs, rfl, X, he, hc, hd, h1, hE⟩ := z
  obtain ⟨hp, g, d, t, os⟩ := s1
  have L0 : PySem.W.Looks M hp (typeOf (.ref e)) (.ref C) := hc ▸ (PySem.W.Looks.ld he).andThen .now
  have L1 : PySem.W.Looks M hp (isType (.ref e)) false := by
    intro A' Q' E' s' kp q
    unfold isType loadHead
    refine wpAny_bind (wpAny_loadPart (kp _ _ he) ?_)
    rw [hd]
    exact wpAny_pure q
  have L2 : PySem.W.Looks M hp (isInstance (.ref e) (.type "BaseException")) true := L0.andThen (PySem.W.looks_mroIn X k.base)
  have L3 := PySem.W.looks_typeIn (M := M) X k.ty
  refine wpAny_bind (wpAny_pure (wpAny_bind (wpAny_holding ?_)))
  unfold excFromValue isExcClass
  refine wpAny_bind (wpAny_bind (L1.at ?_))
  simp only [Bool.false_eq_true, if_false]
  refine wpAny_pure (wpAny_bind (L2.at ?_))
  simp only [if_true]
  refine wpAny_pure ?_
  refine wpAny_bind (L1.at ?_)
  simp only [Bool.false_eq_true, if_false]
  unfold raisedInstance
  refine wpAny_bind (wpAny_bind (L0.at (wpAny_bind (L3.at ?_))))
  rw [if_pos (by decide)]
  refine wpAny_pure (wpAny_bind ?_)
  unfold setFlight
  refine wpAny_bind (wpAny_field he hd h1 ?_)
  rw [if_neg (by decide)]
  exact wpAny_pure (wpAny_raiseNew_none hh hE)
noncomputable def spInit (C : Addr) (f : Str) : Sp := fun vs H Q _ => ∃ e v, vs = [.ref e, v] ∧ H e = some (ExN e C none) ∧ ∀ dx, H dx = none → Q .non (upd (upd H dx (.xd [(f, v)])) e (ExN e C (some dx)))
structure XCl (P : Program) (w : World) (K : PySem.W.Frag) (mg : Str → Option Value) (base : Heap) (k : Nat) (C : Addr) (f : Str) (ps : List Str) : Prop where
  ex : ∃ fI fd, FnOk P w K mg base CX0 k fI fd ps (spInit C f) ∧ XI K C fI ∧ PySem.W.keepIn K (.ref C) = true ∧ Binds K fd ps []
noncomputable def HasX (K : PySem.W.Frag) (C : Addr) (qual : Str) (st : Stmt) : Prop := ∃ f fd, Fun K "__init__" qual st f fd ∧ XI K C f ∧ PySem.W.keepIn K (.ref C) = true
theorem XCl.of {P : Program} {w : World} {K : PySem.W.Frag} {mg : Str → Option Value} {base : Heap} {C : Addr} {f qual : Str} {st : Stmt} {N ps : List Str} {k : Nat} (T : HasX K C qual st) (S : FnScope N ps (defScope st)) (hps : ps.length = 2)
    (hb : ∀ (kV doc pm : Value) (an : Option Addr) (cdv ct : Value) (us : List Value), us.length = ps.length → bindArgs (PySem.W.fnOf "__init__" qual (defArgs st) (defBody st) (defScope st) .none kV doc pm an cdv ct) ⟨us, []⟩ = pure (ps.zip us))
    (hbody : ∀ (f' : Addr) (cdv : Value) (A : Around) (outer : List Env) (s : Shared) (H : Hp) (vs : List V) (Q : VK) (E : XK), XI K C f' → Room k (A.deeper (envOfC qual (defScope st) s.heap.objs.size f' cdv)) → spInit C f vs H Q E →
      ∃ t, PSs (cxOf CX0 P w K mg base N qual (defScope st) f' cdv A outer s H E).nox (defBody st) t ∧ t { nx := fun _ H' => Q .non H', rt := Q } (start N vs) H) : XCl P w K mg base (k + 1) C f ps := by
  obtain ⟨fI, fd, F, x, kp⟩ := T
  refine ⟨fI, fd, F.ok S (fun vs H Q E h => ?_) (fun cdv A outer s H vs Q E => hbody fI cdv A outer s H vs Q E x), x, kp, F.binds hb⟩
  obtain ⟨e, v, rfl, _⟩ := h
  exact hps.symm
section
variable {P : Program} {w : World} {K : PySem.W.Frag} {mg : Str → Option Value} {base : Heap} {N : List Str} {qual : Str} {scope : Scope} {f : Addr} {cd : Value} {A : Around} {outer : List Env} {s : Shared} {H : Hp} {E : XK}
theorem ps_raise1 {x : Str} {C : Addr} {fl : Str} {ps : List Str} {j k : Nat} {e1 : Expr} {ta : TA} {np cpos pos : Pos} (M : XCl P w K mg base j C fl ps) (hr : Room k (cxOf (CXe P w) P w K mg base N qual scope f cd A outer s H E).A) (hg : Gl (cxOf (CXe P w) P w K mg base N qual scope f cd A outer s H E) x) (hm : mg x = some (.ref C)) (k1 : XK1 K C)
    (ha : PA (cxOf (CXe P w) P w K mg base N qual scope f cd A outer s H E) [e1] ta) (hjk : j + 1 ≤ k := by decide) (hd : (x == ("__debug__" : Str)) = false := by decide)
    (he : starEach [e1] (cxOf (CXe P w) P w K mg base N qual scope f cd A outer s H E).env = (false, eval e1 (cxOf (CXe P w) P w K mg base N qual scope f cd A outer s H E).env) :: starEach [] (cxOf (CXe P w) P w K mg base N qual scope f cd A outer s H E).env := by rfl) :
    PS (cxOf (CXe P w) P w K mg base N qual scope f cd A outer s H E) (.Raise (some (.Call (.Name x np) [e1] [] cpos)) none pos) (fun _ σ H' => ta σ H' fun vs H2 => ∃ v, vs = [v] ∧ ∀ dx, H2 dx = none → E (.ref C) (some dx) (upd H2 dx (.xd [(fl, v)]))) := by
  intro pins s1 σ H1 D I h
  obtain ⟨fI, fd, F, xi, kp, hb⟩ := M.ex
  rw [arm_exec_Raise]
  refine wpAny_bind (wpAny_standAt (exc_raise (K := K) (C := C) (I.ok.hd rfl) k1 ?_))
  refine wpAny_bind (wpAny_mono (wpAny_Call_Name_kw (ld_glob I hg hm ?_ hd)) (fun v s2 z => wpAny_bind (wpAny_standAt (wpAny_pure z))) fun _ _ z => z)
  refine PySem.W.callWith_K (h₀ := base) I.ok.mod.kin kp (thn (ha cpos pins s1 σ H1 _ I h) fun us s2 ⟨vs, H2, I2, r, v, ev, q⟩ => ⟨I2.kIn, ?_⟩) he rfl
  subst ev
  obtain ⟨u, rfl, ru⟩ := vals1 r
  obtain ⟨N', nm, q', bs, bm, hdct, sn, sub, ab, col, dd, k0, k1', k2, k3, k5, hC, T⟩ := xi.here I2.kIn
  have tf : PySem.W.typeIn K (.ref fI) = some (.type "function") := beq_iff_eq.mp xi.fn
  obtain ⟨oI, hI, cI⟩ := Option.map_eq_some_iff.mp tf
  obtain ⟨hh, g, d, t, os⟩ := s2
  refine exc_make hC T (PySem.W.looks_findIn I2.kIn xi.ini) (I2.kIn _ _ hI) cI (by show 1 ≤ sizeLine; decide) fun h' e m => ?_
  have G : Gone (cxOf (CXe P w) P w K mg base N qual scope f cd A outer s H E).stack e [] hh h' := ⟨fun b o q _ _ _ => m.keeps b o q, fun b o q _ => ⟨o.slots, m.keeps b o q⟩⟩
  have ne : H2 e = none := HOk.un_at I2.hok m.new
  obtain ⟨t0, ge, _⟩ := m.there
  have I3 : Inv (cxOf (CXe P w) P w K mg base N qual scope f cd A outer s H E) pins σ (upd H2 e (ExN e C none)) ⟨h', g, d, t, os⟩ := I2.flown (t' := t) rfl rfl rfl G (I2.fr1 rfl m.new) (fun b z => by cases z) ne (.inr ⟨_, rfl⟩) ((I2.hok.kept m.keeps).take ne ⟨⟨_, _, t0, ge, rfl, rfl, rfl, rfl, rfl, rfl⟩, ⟨_, ge⟩, fun g1 g2 ⟨o, vs, a0, q, r⟩ k => ⟨o, vs, a0, k o q, r⟩⟩)
  have hsp : spInit C fl [.ref e, v] (upd H2 e (ExN e C none)) (fun v' H' => v' = .non ∧ ∃ dx, H2 dx = none ∧ dx ≠ e ∧ H' = upd (upd (upd H2 e (ExN e C none)) dx (.xd [(fl, v)])) e (ExN e C (some dx))) E0 := ⟨e, v, rfl, upd_same, fun dx hdx => by
    have z : dx ≠ e := fun z => by rw [z, upd_same] at hdx; cases hdx
    rw [upd_ne z] at hdx
    exact ⟨rfl, dx, hdx, z, rfl⟩⟩
  refine wpAny_call (codeAny_mono (F.run _ (cxOf (CXe P w) P w K mg base N qual scope f cd A outer s H E).stack ⟨h', g, d, t, os⟩ _ ⟨[.ref e, u], []⟩ [.ref e, u] [.ref e, v] _ E0 ((hr.mono hjk).make C [u] []) (I3.env0.make C [u] []) (hb _ [.ref e, u] I3.kIn (F.len _ _ _ _ hsp)) (.cons rfl (.cons ru .nil)) hsp) fun r s3 hq => ?_)
  cases r with
  | error z => exact False.elim hq
  | ok fw =>
    cases fw with
    | next => exact False.elim hq
    | brk => exact False.elim hq
    | cont => exact False.elim hq
    | ret uu =>
      obtain ⟨v', H', I4, rv, ev, dx, hdx, ne2, eH⟩ := I3.after hq
      subst ev
      subst eH
      obtain ⟨⟨oe, fs, a0, o1, o2, o3, o4, o5, o6, o7⟩, _⟩ := I4.hok e _ upd_same
      refine ⟨rv, e, oe, fs, rfl, I4.kIn, o1, o2, o4, o6, ?_⟩
      have I5 := I4.drop (a := e) upd_same
      have eD : dropH (upd (upd (upd H2 e (ExN e C none)) dx (.xd [(fl, v)])) e (ExN e C (some dx))) e = upd H2 dx (.xd [(fl, v)]) := by
        funext b
        by_cases z : b = e
        · rw [z]
          unfold dropH
          rw [if_pos rfl, upd_ne (Ne.symm ne2), ne]
        · rw [drop_ne z, upd_ne z]
          by_cases z2 : b = dx
          · rw [z2, upd_same, upd_same]
          · rw [upd_ne z2, upd_ne z2, upd_ne z]
      rw [eD] at I5
      exact fly_first I5 o1 o4 o6 o7 (I2.up rfl m.new) (by rw [upd_ne (Ne.symm ne2)]; exact ne) (by rw [o2, o3]; exact q dx hdx)
end
end L2
set_option Elab.async false
set_option linter.all false
set_option maxRecDepth 100000
set_option maxHeartbeats 2000000
namespace XC
open PySem
section
variable {M : Model} {A : Around} {E : Value → Shared → Prop} {s : Shared}
theorem note_any {base : Heap} {env : Env} {outer : List Env} {L e T : Addr} {cls fl : Value} {dd : Option Addr} {Q : Unit → Shared → Prop}
    (hfr : A.frames = some (env :: outer)) (hl : s.heap.FunFrames base (env :: outer)) (hf : env.frame = some L) (ht : Tr s.heap e cls dd T fl) (hfl : (fl == rawInt L) = false)
    (h : ∀ h' T', Gone (env :: outer) e [T] s.heap h' → s.heap.get? T' = none → Tr h' e cls dd T' (rawInt L) → Q () { s with heap := h' }) : wpAny M A (noteFrame (.ref e) env) Q E s := by
  obtain ⟨k1, oe, vs, oT, ts, a1, a2, a2', a3, a4, a5, a6, a7, a8, a9⟩ := flight_at (x := .none) ht
  obtain ⟨oe0, vs0, oT0, ts0, h1, h2, h2', h3, h4, h5, h6, h7, h8, h9⟩ := ht
  unfold noteFrame
  simp only [hf]
  refine wpAny_bind (wpAny_field h1 h3 h4 ?_)
  rw [if_pos (show (Value.ref T != Value.none) = true from by simp)]
  refine wpAny_bind (wpAny_field h6 h7 h8 ?_)
  rw [if_neg (by rw [hfl]; exact Bool.false_ne_true)]
  have nT : T ∉ frsOf (env :: outer) := fun z => by
    obtain ⟨_, o, q, n⟩ := frames_free hl T z
    rw [h6] at q
    cases q
    exact n ts0 h7
  have nt : ∀ b o, s.heap.get? b = some o → (∀ vs, o.data ≠ .fields vs) → b ≠ T := fun b o q n z => by
    rw [z, h6] at q
    cases q
    exact n ts0 h7
  refine wpAny_bind (wpAny_setField h6 h7 (Array.getElem?_eq_some_iff.mp h8).1 ?_)
  refine entry_ok hfr (hl.of_keeps fun b o q n => ⟨o, k1 b o (nt b o q n) q, rfl⟩) hf a1 a3 (Array.getElem?_eq_some_iff.mp a4).1 a9 fun h' T' G n t => ?_
  refine h h' T' ⟨fun b o q z w u => G.keep b o (k1 b o (fun z => w (by rw [z]; exact List.mem_singleton_self _)) q) z (by simp) u, fun b o q w => G.slot b o (k1 b o (fun z => nT (z ▸ w)) q) w⟩ ?_ (by rw [← a2, ← a2']; exact t)
  cases q : s.heap.get? T' with
  | none => rfl
  | some o =>
    by_cases z : T' = T
    · rw [z, a6] at n
      cases n
    · rw [show (s.heap.update T (Obj.mapFields (·.setIfInBounds 3 Value.none))).get? T' = some o from k1 T' o z q] at n
      cases n
theorem leave_any {base : Heap} {env : Env} {outer : List Env} {L e T : Addr} {cls fl : Value} {dd : Option Addr} {Q : Unit → Shared → Prop}
    (hfr : A.frames = some (env :: outer)) (hl : s.heap.FunFrames base (env :: outer)) (hf : env.frame = some L) (ht : Tr s.heap e cls dd T fl)
    (h : ∀ h' T', Gone (env :: outer) e [T] s.heap h' → (s.heap.get? T' = none ∨ T' = T) → Tr h' e cls dd T' .none → Q () { s with heap := h' }) : wpAny M A (leaving env (.ref e)) Q E s := by
  unfold leaving
  cases hfl : (fl == rawInt L) with
  | false => exact wpAny_bind (note_any hfr hl hf ht hfl fun h' T' G n t => fly_off t fun h2 k t2 => h h2 T' (G.off k (.inl n) (new_notIn n hl)) (.inl n) t2)
  | true =>
    have e1 : fl = rawInt L := by simpa using hfl
    subst e1
    have nT := ht.notIn hl
    refine wpAny_bind (note_same hf ht (fly_off ht fun h2 k t2 => h h2 T ⟨fun b o q z w u => k b o (fun y => w (by rw [y]; exact List.mem_singleton_self _)) q, fun b o q w => ⟨o.slots, k b o (fun y => nT (y ▸ w)) q⟩⟩ (.inr rfl) t2))
theorem pass_on {what : String} {cenv : Env} {e T : Addr} {cls fl : Value} {dd : Option Addr} {α : Type} (ht : Tr s.heap e cls dd T fl)
    (h : ∀ h', (∀ b o, b ≠ T → s.heap.get? b = some o → h'.get? b = some o) → Tr h' e cls dd T (cenv.frame.elim .none fun f => rawInt f) → E (.ref e) { s with heap := h' }) : wpAny M A (passOn what (.ref e) cenv : Sem α) (fun _ _ => False) E s := by
  obtain ⟨k, t⟩ := flight_at (x := cenv.frame.elim .none fun f => rawInt f) ht
  obtain ⟨oe, vs, oT, ts, h1, h2, h2', h3, h4, h5, h6, h7, h8, h9⟩ := ht
  unfold passOn setFlight
  refine wpAny_bind (wpAny_field h1 h3 h4 ?_)
  rw [if_neg (by simp)]
  refine wpAny_bind (wpAny_bind (wpAny_field h1 h3 h4 ?_))
  rw [if_pos (show (Value.ref T != Value.none) = true from by simp)]
  exact wpAny_setField h6 h7 (Array.getElem?_eq_some_iff.mp h8).1 (wpAny_throw (h _ k t))
theorem Tr.keep {h h' : Heap} {e T : Addr} {cls fl : Value} {dd : Option Addr} (ht : Tr h e cls dd T fl) (k : ∀ b o, (b = e ∨ b = T) → h.get? b = some o → h'.get? b = some o) : Tr h' e cls dd T fl := by
  obtain ⟨oe, vs, oT, ts, h1, h2, h2', h3, h4, h5, h6, h7, h8, h9⟩ := ht
  exact ⟨oe, vs, oT, ts, k _ _ (.inl rfl) h1, h2, h2', h3, h4, h5, k _ _ (.inr rfl) h6, h7, h8, h9⟩
end
end XC
namespace L2
open PySem PySem.Spec PyProof.Rows XC
section
variable {P : Program} {w : World} {K : PySem.W.Frag} {mg : Str → Option Value} {base : Heap} {N : List Str} {qual : Str} {scope : Scope} {f : Addr} {cd : Value} {A : Around} {outer : List Env} {s : Shared} {H : Hp} {E : XK} {pins : List (Addr × Obj)} {σ : St} {H' : Hp} {s' : Shared}
theorem fly_any (I : Inv (cxOf (CXe P w) P w K mg base N qual scope f cd A outer s H E) pins σ H' s') {a T : Addr} {cls fl : Value} {dd : Option Addr} (ht : Tr s'.heap a cls dd T fl) (new : s.heap.get? a = none) (newT : s.heap.get? T = none) (fr : H' a = none) (frT : H' T = none) (hE : E cls dd H') :
    (cxOf (CXe P w) P w K mg base N qual scope f cd A outer s H E).xe (.ref a) s' := by
  refine leave_any (base := base) (L := s.heap.objs.size) I.ok.frames I.stack rfl ht fun h' T' G hT' ht' => ?_
  have z : s.heap.get? T' = none ∧ H' T' = none := by
    rcases hT' with z | z
    · exact ⟨I.up rfl z, HOk.un_at I.hok z⟩
    · rw [z]; exact ⟨newT, frT⟩
  exact ⟨a, T', cls, dd, H', rfl, I.os, I.bare, Un.gone I.base G new (fun b z => by rw [List.mem_singleton.mp z]; exact newT) loc_new I.ok.frf, HOk.gone I.hok G fr (fun b z => by rw [List.mem_singleton.mp z]; exact frT) I.stkFree, new, fr, ht', z.1, z.2, hE⟩
end
section
variable {X : Cx} {tg elt iter : Expr} {ifs : List Expr} {sc : Scope} {pos : Pos} {M : List Str} {ρ : List (Option Nat)} {wi : TI} {g : TG} {tt : TT} {te : TE}
theorem comp_blockE {E : XK} (osc : Scope) (hosc : X.env.scope = osc) (N : List Str) (hN : X.N = N) (S : CompScope osc N sc M ρ) (hc : X.calm = true)
    (hg : ∀ cl C s H fp xe, PG (cxComp X sc cl C M s H fp xe) tg g) (ht : ∀ cl C s H fp xe, PTs (cxComp X sc cl C M s H fp xe) ifs tt) (he : ∀ cl C s H fp xe, Passes (CXe X.prog X.w) (cxComp X sc cl C M s H fp xe) E → PE (cxComp X sc cl C M s H fp xe) elt te)
    {pins : List (Addr × Obj)} {σ : St} {H : Hp} {s : Shared} {itv : Value} {Q : VK} {RR : Value → Addr → Result → Shared → Prop} (I : Inv X pins σ H s)
    (h2 : PIE X pins σ tg (fun J H1 => ∀ D, H1 D = none → ∃ W : Nat → Nat → St → Hp → Prop, (∃ m, W 0 m (subS ρ σ) (upd H1 D (.lst []))) ∧ ∀ i m σ2 H2, W i m σ2 H2 →
      (J.stop i H2 ∧ Q (.ref D) H2) ∨ (J.go i H2 ∧ ∃ N : St → Hp → Prop, (∀ σ' H', N σ' H' → ∃ m', m' < m ∧ W (i + 1) m' σ' H') ∧ ∀ x H3, J.yld i H2 x H3 → g x σ2 H3 fun σ4 H4 => tt σ4 H4 fun b H5 =>
        if b = true then te σ4 H5 fun y H6 => ∃ ys, H6 D = some (.lst ys) ∧ ys.length < sizeLine ∧ N σ4 (upd H6 D (.lst (ys ++ [y])))
        else N σ4 H5)) itv s)
    (hP : ∀ (cl : List (Str × Addr)) (C D : Addr) (H2 : Hp) (fp : List Addr) (xe : Value → Shared → Prop), Inv X pins σ H2 s → s.heap.objs.size ≤ C → (∀ b ∈ fp, FpOk X pins H2 b) → xe = notedBy (model X.prog X.w) X.A (compEnvC sc cl C X.env) (fun e s' => RR (.ref D) C (.error e) s') → Passes (CXe X.prog X.w) (cxComp X sc cl C M s H2 fp xe) E)
    (hR : ∀ (D C : Addr) (H' : Hp) (s' : Shared) (mC : Str → Option Value), Inv X pins σ H' s' → s'.heap.Ns C mC → FpOk X pins H' C → Q (.ref D) H' → RR (.ref D) C (.ok .next) s') :
    wpAny (model X.prog X.w) X.A (newList []) (fun acc s3 => wpAny (model X.prog X.w) X.A (newFunctionEnv sc X.env.globals (closL X.env.cells sc.names []) [] X.env.qual none .none (some X.env)) (fun cenv s4 =>
      codeAny (model X.prog X.w) X.A (.compStart (.ListComp elt [⟨tg, iter, ifs, 0⟩] sc pos) 0 itv acc { cenv with scope := relabel sc X.env }) (RR acc cenv.locals) s4) X.xe s3) X.xe s := by
  subst hosc hN
  obtain ⟨it, fp, tn, J, H2, rfl, I2, T, st2, f2, q2⟩ := h2
  have hcells : ∀ y ∈ sc.names, y.2 = .free → ∃ c, X.env.cells.lookup y.1 = some c := fun y hy hf => I2.ok.has y.1 (S.fre y hy hf)
  have hclx : ∀ {x c}, (closL X.env.cells sc.names []).lookup x = some c → X.env.cells.lookup x = some c := fun {x c} e => (closL_lookup _ _ hcells e).elim id fun z => by simp at z
  generalize hcl : closL X.env.cells sc.names [] = cl at hclx ⊢
  refine wpAny_newObj_type (wpAny_newFunctionEnv S.nocell (by intro y hy; simp at hy) (fun h1 hns hsb => ?_) S.kind)
  dsimp only at hns hsb ⊢
  generalize hG : s.heap.push { cls := .type "list", dict := none, data := .seq ([] : List Value).toArray } = G at hns hsb ⊢
  have hC : G.objs.size = s.heap.objs.size + 1 := by rw [← hG, Heap.size_push]
  have old : ∀ b o, s.heap.get? b = some o → h1.get? b = some o := fun b o e =>
    hsb.extBut b o (Nat.ne_of_lt (by rw [hC]; exact Nat.lt_succ_of_lt (Heap.lt_size e))) (Heap.get?_push_of_some _ (hG ▸ Heap.get?_push_of_some _ e))
  have hD1 : h1.get? s.heap.objs.size = some { cls := .type "list", dict := none, data := .seq ([] : List Value).toArray } :=
    hsb.extBut _ _ (by rw [hC]; exact Nat.ne_of_lt (Nat.lt_succ_self _)) (Heap.get?_push_of_some _ (hG ▸ Heap.get?_push_size _ rfl))
  have hDn : H2 s.heap.objs.size = none := I2.hok.fresh (Nat.le_refl _)
  obtain ⟨W, ⟨m0, w0⟩, turn⟩ := q2 s.heap.objs.size hDn
  have hCle : s.heap.objs.size ≤ G.objs.size := by rw [hC]; exact Nat.le_succ _
  have hCD : G.objs.size ≠ s.heap.objs.size := by rw [hC]; exact Nat.succ_ne_self _
  generalize hxe : notedBy (model X.prog X.w) X.A (compEnvC sc cl G.objs.size X.env) (fun e s' => RR (.ref s.heap.objs.size) G.objs.size (.error e) s') = xe
  have hpass := hP cl G.objs.size s.heap.objs.size H2 fp xe I2 hCle f2 hxe.symm
  have fpC : ∀ b ∈ fp, b ≠ G.objs.size := fun b hb => by
    obtain ⟨o, e, _⟩ := T.obj 0 _ st2 b hb
    have := Heap.lt_size e
    exact Nat.ne_of_lt (Nat.lt_of_lt_of_le this hCle)
  have fpS : ∀ b ∈ fp, b ∉ frs X.stack := fun b hb z => by
    obtain ⟨f0, f1, f3, _⟩ := f2 b hb
    rcases List.mem_cons.mp (I2.stkSub b z) with e | e
    · exact f1 e
    · exact f3 e
  have hok : (cxComp X sc cl G.objs.size M s H2 fp xe).Ok := by
    refine ⟨I2.ok.mod, S.kind, I2.ok.glob, I2.ok.blt, hCle, fun x y c e1 e2 => I2.ok.inj x y c (hclx e1) (hclx e2), fun x hx => ?_, (fun x c e _ => absurd (show false = true from e) Bool.false_ne_true), I2.ok.hd, I2.ok.frames, .inl rfl, fun b hb => ⟨fpC b hb, fun x c e => (f2 b hb).2.2.2.2.1 x c (hclx e)⟩,
      I2.bs, Nat.le_trans I2.ok.bsz I2.sz, fun b o e hb => ?_, fpS, I2.stack, I2.stkFree⟩
    · rcases relabel_back (names := sc.names) (env := X.env) hx with q | q
      · rw [← hcl]; exact closL_has _ _ q
      · exact absurd rfl (S.nocell _ q)
    · rcases (f2 b hb).2.2.2.1 with z | z
      · exact I2.ok.noex b o e z
      · exact absurd (Nat.lt_of_lt_of_le (Heap.lt_size e) (Nat.le_trans I2.ok.bsz z)) (Nat.lt_irrefl _)
  have I4 : Inv (cxComp X sc cl G.objs.size M s H2 fp xe) [] (subS ρ σ) (upd H2 s.heap.objs.size (.lst [])) { s with heap := h1, toks := s.toks + ([] : List (Str × Value)).length } := by
    refine ⟨hok, rfl, I2.bare, Un.laid old (Nat.le_refl _) hDn, ⟨_, hns, fun j x v e1 e2 _ => ?_⟩, fun x c e => ?_, ?_, fun x c e => ?_, fun p hp => absurd (show p ∈ ([] : List (Addr × Obj)) from hp) (by simp), I2.hok.laid old (Nat.le_refl _) ⟨by show 0 ≤ sizeLine; decide, [], 0, .nil, hD1⟩, ?_⟩
    · unfold subS at e2
      rw [List.getElem?_map] at e2
      cases q : ρ[j]? with
      | none => rw [q] at e2; cases e2
      | some o =>
        rw [q] at e2
        cases o with
        | none => cases e2
        | some i =>
          have e2' : (σ[i]?).join = some v := Option.some.inj e2
          have e3 : σ[i]? = some (some v) := by
            cases z : σ[i]? with
            | none => rw [z] at e2'; cases e2'
            | some y => rw [z] at e2'; cases y with
              | none => cases e2'
              | some y => cases e2'; rfl
          have hz : (ρ.zip M)[j]? = some (some i, x) := List.getElem?_zip_eq_some.mpr ⟨q, e1⟩
          have hr := S.ren (some i, x) (List.mem_of_getElem? hz)
          obtain ⟨r1, r2⟩ := of_decide_eq_true hr
          obtain ⟨m, hn, hl⟩ := I2.loc
          have hfr := S.fre _ (PySem.mem_of_lookup r2) rfl
          obtain ⟨u, ru, lk⟩ := hl i x v r1 e3 (hfr.elim (fun z => .inr (.inl z)) fun z => .inr (.inr z))
          refine ⟨u, ru, ?_⟩
          rcases lk with ⟨k, _⟩ | ⟨_, c, hcc, cell⟩
          · have k' : X.env.scope.names.lookup x = some .local := k
            rcases hfr with z | z
            · rw [k'] at z; cases z
            · rw [k'] at z; cases z
          · obtain ⟨c', hc'⟩ := closL_has (cells := X.env.cells) sc.names [] (PySem.mem_of_lookup r2)
            rw [hcl] at hc'
            have := hclx hc'
            rw [hcc] at this
            cases this
            obtain ⟨oc, ho, hd⟩ := cell
            exact .inr ⟨relabel_free r2, _, hc', oc, old _ _ ho, hd⟩
    · obtain ⟨v, oc, ho, hd⟩ := I2.cell x c (hclx e)
      exact ⟨v, oc, old _ _ ho, hd⟩
    · show upd H2 s.heap.objs.size (.lst []) G.objs.size = none
      rw [upd_ne hCD]
      exact I2.hok.fresh hCle
    · show upd H2 s.heap.objs.size (.lst []) c = none
      obtain ⟨v, oc, ho, hd⟩ := I2.cell x c (hclx e)
      rw [upd_ne (Nat.ne_of_lt (Heap.lt_size ho))]
      exact I2.freeC x c (hclx e)
    · show (subS ρ σ).length = M.length
      unfold subS
      rw [List.length_map, S.len]
  have st4 : tn 0 h1 := T.keep 0 _ _ st2 fun b _ o e => old b o e
  have fr4 : ∀ b ∈ fp, upd H2 s.heap.objs.size (.lst []) b = none := fun b hb => by
    obtain ⟨o, e, _⟩ := T.obj 0 _ st2 b hb
    rw [upd_ne (Nat.ne_of_lt (Heap.lt_size e))]
    exact (f2 b hb).1
  have stat : ∀ {H' : Hp}, (∀ b ∈ fp, H' b = none) → ∀ b ∈ fp, FpOk (cxComp X sc cl G.objs.size M s H2 fp xe) [] H' b := fun hn b hb =>
    ⟨hn b hb, fpC b hb, fpS b hb, .inl hb, fun x c e => (f2 b hb).2.2.2.2.1 x c (hclx e), fun p hp => absurd (show p ∈ ([] : List (Addr × Obj)) from hp) (by simp)⟩
  have loop : codeAny (model X.prog X.w) X.A (.compLoop (.ListComp elt [⟨tg, iter, ifs, 0⟩] sc pos) 0 (.ref it) (.ref s.heap.objs.size) (compEnvC sc cl G.objs.size X.env)) (RR (.ref s.heap.objs.size) G.objs.size)
      { s with heap := h1, toks := s.toks + ([] : List (Str × Value)).length } := by
    refine comp_loop (fun n s' => ∃ i σ' H', Inv (cxComp X sc cl G.objs.size M s H2 fp xe) [] σ' H' s' ∧ tn i s'.heap ∧ (∀ b ∈ fp, H' b = none) ∧ W i n σ' H') ?_ m0 ⟨0, _, _, I4, st4, fr4, w0⟩
    rw [hxe]
    rintro n s3 ⟨i, σ3, H3, I3, st3, fr3, w3⟩
    rcases turn i n σ3 H3 w3 with ⟨stop, qn⟩ | ⟨go, N, hN, step⟩
    · refine thn (T.done (cxComp X sc cl G.objs.size M s H2 fp xe) rfl rfl rfl hc i [] s3 σ3 H3 xe I3 (stat fr3) st3 stop) fun r s4 ⟨hr, I5⟩ => ?_
      subst hr
      obtain ⟨mC, nC, _⟩ := I5.loc
      have I6 : Inv X pins σ H3 s4 := I2.call' I5.os I5.base I5.hok I5.bare fun b hb => ⟨(f2 b hb).2.2.2.1, (f2 b hb).2.1, (f2 b hb).2.2.2.2.1, (f2 b hb).2.2.2.2.2⟩
      exact hR _ _ H3 s4 mC I6 nC (I2.fpOk hCle I5.free) qn
    · refine thn (T.item (cxComp X sc cl G.objs.size M s H2 fp xe) rfl rfl rfl hc i [] s3 σ3 H3 xe I3 (stat fr3) st3 go) fun r s4 ⟨u, hr, h4⟩ => ?_
      subst hr
      refine thn h4 fun _ s5 ⟨x, H5, I5, r5, y5, st5, fr5⟩ => ?_
      have I5' := I5.pinned (stat fr5) (T.obj _ _ st5)
      refine thn (hg cl G.objs.size s H2 fp xe _ s5 σ3 H5 x u _ I5' r5 (step x H5 y5)) fun _ s6 ⟨σ6, H6, I6, q6⟩ => ?_
      have fin : ∀ {s7 : Shared} {σ7 : St} {H7 : Hp}, Inv (cxComp X sc cl G.objs.size M s H2 fp xe) ([] ++ pinsAt fp s5.heap) σ7 H7 s7 → (∃ m', m' < n ∧ W (i + 1) m' σ7 H7) →
          ∃ m, m < n ∧ ∃ i σ' H', Inv (cxComp X sc cl G.objs.size M s H2 fp xe) [] σ' H' s7 ∧ tn i s7.heap ∧ (∀ b ∈ fp, H' b = none) ∧ W i m σ' H' := fun {s7 σ7 H7} I7 ⟨m', hm, w7⟩ => by
        refine ⟨m', hm, i + 1, σ7, H7, I7.unpinned, T.keep _ _ _ st5 fun b hb o e => (I7.pin (b, o) (List.mem_append_right _ (List.mem_append_right _ (mem_pinsAt hb e)))).1, fun b hb => ?_, w7⟩
        obtain ⟨o, e, d⟩ := T.obj _ _ st5 b hb
        exact (I7.pin (b, o) (List.mem_append_right _ (List.mem_append_right _ (mem_pinsAt hb e)))).2.1
      refine thn (ht cl G.objs.size s H2 fp xe _ s6 σ6 H6 _ I6 q6) fun ok s7 ⟨H7, I7, q7⟩ => ?_
      cases ok with
      | false =>
        rw [if_neg Bool.false_ne_true] at q7 ⊢
        exact fin I7 (hN _ _ q7)
      | true =>
        rw [if_pos rfl] at q7 ⊢
        refine thn (he cl G.objs.size s H2 fp xe hpass _ s7 σ6 H7 _ I7 q7) fun y s8 ⟨yv, H8, I8, r8, ys, hys, hlt, q8⟩ => ?_
        obtain ⟨z, its, k, rv, hl, e⟩ := I8.lstM hys
        refine call_meets F.slot_list_append ⟨_, e, rfl⟩ F.entry_list_append (F.args_list_append_2 _ _) (PySem.list_append _ its.toArray k y (by rw [List.size_toArray]; omega)) ⟨e, ?_⟩
        exact fin (I8.lset (its' := its ++ [y]) hys e (by simp) (rv.append (.cons r8 .nil)) (by rw [List.length_append, List.length_singleton]; omega)) (hN _ _ q8)
  exact codeAny_compStart_list loop (T.self X.A 0 _ _ _ st4 loop)
end
section
variable {P : Program} {w : World} {K : PySem.W.Frag} {mg : Str → Option Value} {base : Heap} {N' : List Str} {qual : Str} {scope : Scope} {f : Addr} {cd : Value} {A : Around} {outer : List Env} {s0 : Shared} {H0 : Hp} {E : XK}
variable {tg elt iter : Expr} {ifs : List Expr} {sc : Scope} {pos : Pos} {M : List Str} {ρ : List (Option Nat)} {wi : TI} {g : TG} {tt : TT} {te : TE}
theorem pass_block {pins : List (Addr × Obj)} {σ : St} {H2 : Hp} {s : Shared} {cl : List (Str × Addr)} {C D : Addr} {fp : List Addr} {xe : Value → Shared → Prop} {use : Option (Value → Sem Unit)} {Q : Value → Shared → Prop}
    (I2 : Inv (cxOf (CXe P w) P w K mg base N' qual scope f cd A outer s0 H0 E) pins σ H2 s) (hC : s.heap.objs.size ≤ C) (hfp : ∀ b ∈ fp, FpOk (cxOf (CXe P w) P w K mg base N' qual scope f cd A outer s0 H0 E) pins H2 b)
    (hxe : xe = notedBy (model P w) (cxOf (CXe P w) P w K mg base N' qual scope f cd A outer s0 H0 E).A (compEnvC sc cl C (cxOf (CXe P w) P w K mg base N' qual scope f cd A outer s0 H0 E).env) (fun e s' => compPost (model P w) (cxOf (CXe P w) P w K mg base N' qual scope f cd A outer s0 H0 E).A (cxOf (CXe P w) P w K mg base N' qual scope f cd A outer s0 H0 E).xe use Q (.ref D) C (.error e) s')) :
    Passes (CXe P w) (cxComp (cxOf (CXe P w) P w K mg base N' qual scope f cd A outer s0 H0 E) sc cl C M s H2 fp xe) E := by
  intro pins' σ' H1 s1 v s2 I1 h
  obtain ⟨a, T, cls, dd, H3, rfl, os, bare, un, hok, new, fr, ht, newT, frT, hE⟩ := h
  have J2 := Inv.call' (ch := []) I1 os un hok bare (fun b z => by cases z)
  have I3 : Inv (cxOf (CXe P w) P w K mg base N' qual scope f cd A outer s0 H0 E) pins σ H1 s1 := I2.call' I1.os I1.base I1.hok I1.bare fun b hb => ⟨(hfp b hb).2.2.2.1, (hfp b hb).2.1, (hfp b hb).2.2.2.2.1, (hfp b hb).2.2.2.2.2⟩
  have I4 : Inv (cxOf (CXe P w) P w K mg base N' qual scope f cd A outer s0 H0 E) pins σ H3 s2 := I2.call' J2.os J2.base J2.hok J2.bare fun b hb => ⟨(hfp b hb).2.2.2.1, (hfp b hb).2.1, (hfp b hb).2.2.2.2.1, (hfp b hb).2.2.2.2.2⟩
  have fa := I3.fr1 rfl new
  have fT := I3.fr1 rfl newT
  show xe (.ref a) s2
  rw [hxe]
  show wpAny (model P w) _ (noteFrame (.ref a) (cxOf (CXe P w) P w K mg base N' qual scope f cd A outer s0 H0 E).env) _ _ s2
  refine note_next (base := base) I4.ok.frames I4.stack rfl ht fun h3 T3 G3 n3 t3 => ?_
  obtain ⟨mC, ⟨oC, es, ep, hoC, rC⟩, _⟩ := J2.loc
  have Ca : C ≠ a := fun z => by
    obtain ⟨m, ⟨o, _, _, ho, _⟩, _⟩ := I1.loc
    rw [show (cxComp (cxOf (CXe P w) P w K mg base N' qual scope f cd A outer s0 H0 E) sc cl C M s H2 fp xe).env.locals = C from rfl, z, new] at ho
    cases ho
  have CT : C ≠ T := fun z => by
    obtain ⟨m, ⟨o, _, _, ho, _⟩, _⟩ := I1.loc
    rw [show (cxComp (cxOf (CXe P w) P w K mg base N' qual scope f cd A outer s0 H0 E) sc cl C M s H2 fp xe).env.locals = C from rfl, z, newT] at ho
    cases ho
  have CF : C ∉ frsOf (cxOf (CXe P w) P w K mg base N' qual scope f cd A outer s0 H0 E).stack := fun z => by
    obtain ⟨_, o, q, _⟩ := frames_free I2.stack C z
    exact absurd (Nat.lt_of_lt_of_le (Heap.lt_size q) hC) (Nat.lt_irrefl _)
  have CT3 : C ≠ T3 := fun z => by
    have q : s2.heap.get? C = some oC := hoC
    rw [z, n3] at q
    cases q
  have kC : h3.get? C = some oC := G3.keep C oC hoC Ca (by intro z; exact CT (List.mem_singleton.mp z)) CF
  have frC : H3 C = none := J2.free
  refine ⟨mC, ⟨oC, es, ep, kC, rC⟩, fun h4 sb cenv _ => pass_on (t3.keep fun b o hb q => (sb.2 b ?_).trans q) fun h5 k5 t5 => ?_⟩
  · rcases hb with z | z
    · rw [z]; exact Ne.symm Ca
    · rw [z]; exact Ne.symm CT3
  · have ok3 : HOk P w H3 h3 := HOk.gone I4.hok G3 fr (fun b z => by rw [List.mem_singleton.mp z]; exact frT) I4.stkFree
    have f3 := I4.fr1 rfl n3
    have r3 : H3 T3 = none := HOk.un_at I4.hok n3
    have I5 : Inv (cxOf (CXe P w) P w K mg base N' qual scope f cd A outer s0 H0 E) pins σ H3 { s2 with heap := h3 } := I4.flown (t' := s2.toks) rfl rfl rfl G3 fa (fun b z => by rw [List.mem_singleton.mp z]; exact fT) fr (.inl rfl) ok3
    have fC := I2.fpOk (H' := H3) hC frC
    have I6 : Inv (cxOf (CXe P w) P w K mg base N' qual scope f cd A outer s0 H0 E) pins σ H3 { s2 with heap := h4 } := I5.turned (t' := s2.toks) (fun b o hb e => (sb.2 b hb).trans e) frC fC.2.1 fC.2.2.2.1 fC.2.2.2.2.1 fC.2.2.2.2.2
    have I7 : Inv (cxOf (CXe P w) P w K mg base N' qual scope f cd A outer s0 H0 E) pins σ H3 { s2 with heap := h5 } := I6.flown (t' := s2.toks) (a := T3) (ts := []) rfl rfl rfl ⟨fun b o q z _ _ => k5 b o z q, fun b o q w => ⟨o.slots, k5 b o (fun z => new_notIn n3 I4.stack (z ▸ w)) q⟩⟩ f3 (fun b z => by cases z) r3 (.inl rfl) (fun b o q => (I6.hok b o q).stay (fun c u hc r => k5 c u (fun z => by
      rcases hc with hc | hc
      · rw [← hc, z, r3] at q; cases q
      · rw [z, r3] at hc; cases hc) r) (fun _ q => q) fun _ _ q => q)
    exact fly_any I7 t5 fa.s0 (I4.up rfl n3) fr r3 hE
end
end L2
set_option Elab.async false
set_option linter.all false
set_option maxRecDepth 100000
set_option maxHeartbeats 2000000
namespace L2
open PySem XC
section
variable {P : Program} {w : World} {K : PySem.W.Frag} {mg : Str → Option Value} {base : Heap} {N' : List Str} {qual : Str} {scope : Scope} {f : Addr} {cd : Value} {A : Around} {outer : List Env} {s0 : Shared} {H0 : Hp} {E : XK}
variable {tg elt iter : Expr} {ifs : List Expr} {sc : Scope} {pos : Pos} {M : List Str} {ρ : List (Option Nat)} {wi : TI} {g : TG} {tt : TT} {te : TE}
theorem ps_setCE {j : Nat} {x : Str} {px spos : Pos} (osc : Scope) (N : List Str) (S : CompScope osc N sc M ρ) (hNd : N'.Nodup) (hj : N'[j]? = some x) (hx : Loc scope x) (hi : PI (cxOf (CXe P w) P w K mg base N' qual scope f cd A outer s0 H0 E) tg iter wi) (hg : ∀ cl C s H fp xe, PG (cxComp (cxOf (CXe P w) P w K mg base N' qual scope f cd A outer s0 H0 E) sc cl C M s H fp xe) tg g)
    (ht : ∀ cl C s H fp xe, PTs (cxComp (cxOf (CXe P w) P w K mg base N' qual scope f cd A outer s0 H0 E) sc cl C M s H fp xe) ifs tt) (he : ∀ cl C s H fp xe, Passes (CXe P w) (cxComp (cxOf (CXe P w) P w K mg base N' qual scope f cd A outer s0 H0 E) sc cl C M s H fp xe) E → PE (cxComp (cxOf (CXe P w) P w K mg base N' qual scope f cd A outer s0 H0 E) sc cl C M s H fp xe) elt te)
    (hsw : swapsWith (.ListComp elt [⟨tg, iter, ifs, 0⟩] sc pos) (some (.Name x px)) spos.line (cxOf (CXe P w) P w K mg base N' qual scope f cd A outer s0 H0 E).env = pure true := by rfl) (hosc : scope = osc := by rfl) (hN : N' = N := by rfl) (hs : ∀ x, foldedSetIterable iter (cxOf (CXe P w) P w K mg base N' qual scope f cd A outer s0 H0 E).env x = pure x := by intro _; rfl)
    (hf : (cxOf (CXe P w) P w K mg base N' qual scope f cd A outer s0 H0 E).fn x = true ∨ (cxOf (CXe P w) P w K mg base N' qual scope f cd A outer s0 H0 E).env.scope.names.lookup x = some .local := by first | exact .inl rfl | exact .inr rfl | assumption) :
    PS (cxOf (CXe P w) P w K mg base N' qual scope f cd A outer s0 H0 E) (.Assign [.Name x px] (.ListComp elt [⟨tg, iter, ifs, 0⟩] sc pos) spos) (tAsg (tComp wi ρ g tt te) (gName j)) := by
  intro pins s σ H D I h
  have hcells : ∀ y ∈ sc.names, y.2 = .free → ∃ c, (cxOf (CXe P w) P w K mg base N' qual scope f cd A outer s0 H0 E).env.cells.lookup y.1 = some c := fun y hy hf => I.ok.has y.1 (by show scope.names.lookup y.1 = _ ∨ scope.names.lookup y.1 = _; rw [hosc]; exact S.fre y hy hf)
  rw [exec_Assign_Name_used _ _ _ _ hsw]
  refine wpAny_bind (wpAny_standAt (wpAny_bind ?_))
  show wpAny (model P w) (cxOf (CXe P w) P w K mg base N' qual scope f cd A outer s0 H0 E).A (do let _ ← comprehension (.ListComp elt [⟨tg, iter, ifs, 0⟩] sc pos) sc (cxOf (CXe P w) P w K mg base N' qual scope f cd A outer s0 H0 E).env (firstIterPos [⟨tg, iter, ifs, 0⟩] pos) (newList []) false (eval iter (cxOf (CXe P w) P w K mg base N' qual scope f cd A outer s0 H0 E).env) (some (assign (.Name x px) (cxOf (CXe P w) P w K mg base N' qual scope f cd A outer s0 H0 E).env))) _ (cxOf (CXe P w) P w K mg base N' qual scope f cd A outer s0 H0 E).xe s
  refine wpAny_bind (thn (Q := fun _ s' => SP (cxOf (CXe P w) P w K mg base N' qual scope f cd A outer s0 H0 E) pins D .next s') (wpAny_comprehension_free (M := model P w) (A := (cxOf (CXe P w) P w K mg base N' qual scope f cd A outer s0 H0 E).A) (E := (cxOf (CXe P w) P w K mg base N' qual scope f cd A outer s0 H0 E).xe) (e := .ListComp elt [⟨tg, iter, ifs, 0⟩] sc pos) (use := some (assign (.Name x px) (cxOf (CXe P w) P w K mg base N' qual scope f cd A outer s0 H0 E).env)) rfl hs (closure_pure hcells) S.kind S.own
    (thn (hi pins s σ H _ I h) fun v s1 h1 => thn h1 fun itv s2 h2 => ?_)) fun _ s' hq => wpAny_pure (wpAny_pure hq))
  obtain ⟨_, _, _, _, _, _, I2, _⟩ := id h2
  refine comp_blockE (E := E) (Q := fun v H' => gName j v σ H' D.nx) (RR := fun acc C => compPost (model P w) (cxOf (CXe P w) P w K mg base N' qual scope f cd A outer s0 H0 E).A (cxOf (CXe P w) P w K mg base N' qual scope f cd A outer s0 H0 E).xe (some (assign (.Name x px) (cxOf (CXe P w) P w K mg base N' qual scope f cd A outer s0 H0 E).env)) (fun _ s' => SP (cxOf (CXe P w) P w K mg base N' qual scope f cd A outer s0 H0 E) pins D .next s') acc C) osc hosc N hN S rfl hg ht he I2 h2 (fun cl C D H2 fp xe J hC hfp hxe => pass_block J hC hfp hxe) fun D' C H' s' mC I' nC fC q => ?_
  show wpAny _ _ (assign (.Name x px) (cxOf (CXe P w) P w K mg base N' qual scope f cd A outer s0 H0 E).env (.ref D')) _ _ s'
  refine wpAny_assign_Name (store_ok2 I' hNd hj hx (v := .ref D') rfl (fun s3 I3 ⟨a, sb, ha⟩ => ?_) hf)
  have hCa : C ≠ a := by
    rcases ha with e | e
    · rw [e]; exact fC.2.1
    · exact fun z => fC.2.2.2.2.1 x a e z.symm
  refine ⟨mC, nC.sameBut sb hCa, fun h' sb2 => ?_⟩
  obtain ⟨f0, f1, _, f3, f4, f5⟩ := fC
  exact ⟨_, H', I3.turned (t' := s3.toks) (fun b o hb e => (sb2.2 b hb).trans e) f0 f1 f3 f4 f5, q⟩
end
end L2
set_option Elab.async false
set_option linter.all false
set_option maxRecDepth 100000
set_option maxHeartbeats 4000000
namespace L2
open PySem PySem.Spec PyProof.Rows
section
variable {X : Cx} {elts : List Expr} {k : Nat} {tpos : Pos}
end
end L2
set_option Elab.async false
set_option linter.all false
set_option maxRecDepth 100000
set_option maxHeartbeats 4000000
namespace L2
open PySem PySem.Spec PyProof.Rows
noncomputable abbrev Pt := Str × List Rw
end L2
set_option Elab.async false
set_option linter.all false
set_option maxRecDepth 100000
set_option maxHeartbeats 4000000
namespace L2
open PySem PySem.Spec PyProof.Rows
section
variable {κ : Type} [DecidableEq κ]
end
noncomputable abbrev KT (H : Hp) : List (List Key × V) → List (List Key × Addr × Value) → Prop := Paired fun p q => p.1 = q.1 ∧ H q.2.1 = some (.tup (p.1.map kV)) ∧ RelV p.2 q.2.2
section
variable {P : Program} {w : World} {H : Hp} {h : Heap} {a : Addr}
end
section
variable {X : Cx} {pins : List (Addr × Obj)} {σ : St} {H : Hp} {s : Shared} {a : Addr} {y v : V} {u r : Value} {o : Option V} {A : Around} {E : Value → Shared → Prop}
end
section
variable {X : Cx} {pins : List (Addr × Obj)} {σ : St} {H : Hp} {s : Shared} {a : Addr} {kvs : List (Key × V)} {k : Key} {u : Value} {A : Around} {E : Value → Shared → Prop}
end
section
variable {X : Cx} {o i e value : Expr} {pos pos' tpos : Pos} {td ty tv : TE}
end
section
variable {X : Cx} {pos : Pos}
end
noncomputable abbrev VV : List (V × V) → List (Value × Value) → Prop := Paired fun p q => RelV p.1 q.1 ∧ RelV p.2 q.2
section
variable {X : Cx} {pins : List (Addr × Obj)} {σ : St} {H : Hp} {s : Shared} {a : Addr} {y d : V} {u r : Value} {o : Option V} {A : Around} {E : Value → Shared → Prop}
end
section
variable {X : Cx} {o e f : Expr} {apos cpos : Pos} {td ty tx : TE}
end
section
variable {X : Cx} {pins : List (Addr × Obj)} {σ : St} {H : Hp} {s : Shared} {a : Addr} {kvs : List (Key × V)} {A : Around} {E : Value → Shared → Prop}
end
section
variable {X : Cx} {pins : List (Addr × Obj)} {σ : St} {H : Hp} {s : Shared} {a : Addr} {y : V} {u : Value} {A : Around} {E : Value → Shared → Prop}
end
end L2
namespace L2
open PySem PySem.Spec PyProof.Rows
section
variable {X : Cx}
end
section
variable {κ : Type} [DecidableEq κ]
end
end L2
set_option Elab.async false
set_option linter.all false
set_option maxRecDepth 100000
set_option maxHeartbeats 4000000
namespace L2
open PySem PySem.Spec PyProof.Rows
section
variable {X : Cx}
end
end L2
set_option Elab.async false
set_option linter.all false
set_option maxRecDepth 100000
set_option maxHeartbeats 4000000
namespace L2
open PySem PySem.Spec PyProof.Rows PySem.W
section
variable {prog : Program} {w : World} {A : Around} {E : Value → Shared → Prop} {s : Shared} {T : String} {r d : Addr} {n : Nat} {P : Nat → Value → Prop} {OK : Heap → Prop}
end
section
variable {X : Cx}
end
end L2
set_option Elab.async false
set_option linter.all false
set_option maxRecDepth 100000
set_option maxHeartbeats 4000000
namespace L2
open PySem PySem.Spec PyProof.Rows
end L2
set_option Elab.async false
set_option linter.all false
set_option maxRecDepth 100000
set_option maxHeartbeats 4000000
namespace L2
open PySem PySem.Spec PyProof.Rows
section
variable {X : Cx}
end
end L2
set_option Elab.async false
set_option linter.all false
set_option maxRecDepth 100000
set_option maxHeartbeats 4000000
namespace L2
open PySem PySem.Spec PyProof.Rows
section
variable {X : Cx}
end
end L2
set_option Elab.async false
set_option linter.all false
set_option maxRecDepth 100000
set_option maxHeartbeats 4000000
namespace L2
open PySem PySem.Spec PyProof.Rows
section
variable {X : Cx}
end
end L2
set_option Elab.async false
set_option linter.all false
set_option maxRecDepth 100000
set_option maxHeartbeats 4000000
namespace L2
open PySem PySem.Spec PyProof.Rows
section
variable {prog : Program} {w : World} {A : Around} {E : Value → Shared → Prop} {s : Shared}
end
section
variable {X : Cx}
end
end L2
set_option Elab.async false
set_option linter.all false
set_option maxRecDepth 100000
set_option maxHeartbeats 4000000
namespace L2
open PySem PySem.Spec PyProof.Rows
section
variable {X : Cx}
end
end L2
set_option Elab.async false
set_option linter.all false
set_option maxRecDepth 100000
set_option maxHeartbeats 4000000
namespace RV
open PySem PySem.Spec PyProof.Rows
end RV
set_option Elab.async false
set_option linter.all false
set_option maxRecDepth 100000
set_option maxHeartbeats 4000000
namespace RV
open PySem PySem.Spec PyProof.Rows
section
variable {prog : Program} {w : World} {A : Around} {E : Value → Shared → Prop} {s : Shared}
end
end RV
set_option Elab.async false
set_option linter.all false
set_option maxRecDepth 100000
set_option maxHeartbeats 4000000
namespace RV
open PySem PySem.Spec PyProof.Rows
section
variable {prog : Program} {w : World} {A : Around} {E : Value → Shared → Prop} {s : Shared}
end
end RV
set_option Elab.async false
set_option linter.all false
set_option maxRecDepth 100000
set_option maxHeartbeats 4000000
namespace RV
open PySem PySem.Spec PyProof.Rows
section
variable {prog : Program} {w : World} {A : Around} {E : Value → Shared → Prop} {s : Shared}
end
end RV
set_option Elab.async false
set_option linter.all false
set_option maxRecDepth 100000
set_option maxHeartbeats 4000000
namespace L2
open PySem PySem.Spec PyProof.Rows PySem.W RV
section
variable {X : Cx} {e : Expr} {te : TE} {pos pos2 p p2 : Pos}
end
end L2
set_option Elab.async false
set_option linter.all false
set_option maxRecDepth 100000
set_option maxHeartbeats 4000000
namespace L2
open PySem PySem.Spec PyProof.Rows
section
variable {X : Cx}
end
end L2
set_option Elab.async false
set_option linter.all false
set_option maxRecDepth 100000
set_option maxHeartbeats 4000000
namespace L2
open PySem PySem.Spec PyProof.Rows
section
variable {X : Cx} {elts : List Expr} {k : Nat} {tpos : Pos}
end
end L2
set_option Elab.async false
set_option linter.all false
set_option maxRecDepth 100000
set_option maxHeartbeats 4000000
namespace L2
open PySem PySem.Spec PyProof.Rows
section
variable {P : Program} {w : World} {A : Around} {E : Value → Shared → Prop} {s : Shared} {z TI TO i1 i2 l1 l2 : Addr} {xs ys : Array Value} {I1 I2 : Nat → Heap → Prop} {S1 S2 : Heap → Prop}
end
section
variable {X : Cx} {elts : List Expr} {k : Nat} {tpos : Pos}
end
end L2
set_option Elab.async false
set_option linter.all false
set_option maxRecDepth 100000
set_option maxHeartbeats 4000000
namespace L2
open PySem PySem.Spec PyProof.Rows PySem.W
section
variable {P : Program} {w : World} {A : Around} {E : Value → Shared → Prop} {s : Shared} {d : Addr} {es : Array DictEntry} {ep : Nat}
end
section
variable {X : Cx}
end
end L2
set_option Elab.async false
set_option linter.all false
set_option maxRecDepth 100000
set_option maxHeartbeats 4000000
namespace L2
open PySem PySem.Spec PyProof.Rows
section
variable {X : Cx}
theorem op_neL_same (hu : X.A.units < cLine) : OpR X (compareOp .NotEq) (fun x y H Q => ∃ a b xs, x = .ref a ∧ y = .ref b ∧ SqL X.K H a xs ∧ SqL X.K H b xs ∧ xs.all flatV = true ∧ Q (.bl false) H) := by
  intro pins s σ H x y v u Q I rx ry h
  obtain ⟨a, b, xs, rfl, rfl, ha, hb, hf, q⟩ := h
  cases rx
  cases ry
  obtain ⟨its, r1, p1, _⟩ := I.list ha
  obtain ⟨its2, r2, p2, _⟩ := I.list hb
  have l1 := r1.length
  have l2 := r2.length
  refine SeqAt.RcNeAt.lists (e := fun _ => true) p1.isList p2.isList (by simp; omega) hu (same_items r1 r2 hf) X.prog X.w _ _ ?_
  rw [show (!((List.range its.toArray.size).all (fun _ => true))) = false by simp]
  exact ⟨.bl false, H, I, rfl, q⟩
end
end L2
set_option Elab.async false
set_option linter.all false
set_option maxRecDepth 100000
set_option maxHeartbeats 4000000
namespace RG
open PySem PySem.Spec PyProof.Rows
section
variable {prog : Program} {w : World} {A : Around} {E : Value → Shared → Prop} {s : Shared}
variable {I : Addr} {fp : List Addr} {n : Nat} {P : Nat → Value → Prop} {St : Nat → Heap → Prop} {T : String}
end
end RG
set_option Elab.async false
set_option linter.all false
set_option maxRecDepth 100000
set_option maxHeartbeats 4000000
namespace RG
open PySem PySem.Spec PyProof.Rows
section
variable {prog : Program} {w : World} {A : Around} {E : Value → Shared → Prop} {s : Shared}
end
end RG
namespace L2
open PySem PySem.Spec PyProof.Rows PySem.W RG
section
variable {X : Cx} {e : Expr} {te : TE} {pos pos2 pos3 p p2 p3 : Pos}
end
end L2
set_option Elab.async false
set_option linter.all false
set_option maxRecDepth 100000
set_option maxHeartbeats 4000000
namespace L2
open PySem PySem.Spec PyProof.Rows PySem.W RG
open AutoSeq1 (wpAny_loadPart')
section
variable {prog : Program} {w : World} {A : Around} {E : Value → Shared → Prop} {s : Shared}
end
section
variable {X : Cx} {e : Expr} {te : TE} {pos pos3 p p3 : Pos}
end
end L2
set_option Elab.async false
set_option linter.all false
set_option maxRecDepth 100000
set_option maxHeartbeats 4000000
namespace L2
open PySem PySem.Spec PyProof.Rows PySem.W
section
variable {X : Cx} {e : Expr} {te : TE} {pos pos3 p p3 : Pos}
end
end L2
set_option Elab.async false
set_option linter.all false
set_option maxRecDepth 100000
set_option maxHeartbeats 4000000
namespace L2
open PySem PySem.Spec PyProof.Rows PySem.W
section
variable {prog : Program} {w : World} {A : Around} {R : Result → Shared → Prop} {it best : Addr} {fp wr : List Addr} {n : Nat} {P : Nat → Value → Prop} {St : Nat → Heap → Prop}
end
section
variable {X : Cx}
end
end L2
set_option Elab.async false
set_option linter.all false
set_option maxRecDepth 100000
set_option maxHeartbeats 4000000
namespace L2
open PySem PySem.Spec PyProof.Rows
section
variable {X : Cx}
end
end L2
set_option Elab.async false
set_option linter.all false
set_option maxRecDepth 100000
set_option maxHeartbeats 4000000
namespace L2
open PySem PySem.Spec PyProof.Rows
end L2
set_option Elab.async false
set_option linter.all false
set_option maxRecDepth 100000
set_option maxHeartbeats 4000000
namespace L2
open PySem PySem.Spec PyProof.Rows PySem.W
section
variable {X : Cx} {pins : List (Addr × Obj)} {σ : List (Option V)} {H : Hp} {s : Shared}
end
section
variable {X : Cx} {tg : Expr}
end
end L2
set_option Elab.async false
set_option linter.all false
set_option maxRecDepth 100000
set_option maxHeartbeats 4000000
namespace L2
open PySem PySem.Spec PyProof.Rows
section
variable {X : Cx}
end
end L2
set_option Elab.async false
set_option linter.all false
set_option maxRecDepth 100000
set_option maxHeartbeats 4000000
namespace L2
open PySem PySem.Spec PyProof.Rows
section
variable {X : Cx}
end
end L2
set_option Elab.async false
set_option linter.all false
set_option maxRecDepth 100000
set_option maxHeartbeats 4000000
namespace L2
open PySem PySem.Spec PyProof.Rows
section
variable {P : Program} {w : World} {K : PySem.W.Frag} {mg : Str → Option Value} {base : Heap}
end
section
variable {X : Cx} {j k : Nat} {C : Addr} {x m : Str} {ps : List Str} {sp : Sp} {o e : Expr} {es : List Expr} {ta : TE} {t : TA} {p pos apos : Pos}
end
end L2
set_option Elab.async false
set_option linter.all false
set_option maxRecDepth 100000
set_option maxHeartbeats 4000000
namespace L2
open PySem PySem.Spec PyProof.Rows PySem.W RV
end L2
set_option Elab.async false
set_option linter.all false
set_option maxRecDepth 100000
set_option maxHeartbeats 4000000
namespace L2
open PySem PySem.Spec PyProof.Rows
section
variable {A : GA} {tk : Int} {ft : V} {rd md : Addr}
end
noncomputable abbrev Wx := Str × Nat × Rw
noncomputable abbrev Dd := Str × Int × Str × Nat
noncomputable abbrev Ft := Str × Str × Nat × Int
section
variable {CP CG : Addr} {H : Hp} {g : Addr} {A : GA} {N : Nt} {ns : List Int} {S : GS}
end
end L2
set_option Elab.async false
set_option linter.all false
set_option maxRecDepth 100000
set_option maxHeartbeats 4000000
namespace L2
open PySem PySem.Spec PyProof.Rows
end L2
set_option Elab.async false
set_option linter.all false
set_option maxRecDepth 100000
set_option maxHeartbeats 2000000
namespace L2
open PySem PySem.Spec PyProof.Rows
section
variable {X : Cx}
theorem rep_list (a : Array Nat) : ∀ (n : Nat) (acc : Array Nat), ((List.replicate n a).foldl (· ++ ·) acc).toList = acc.toList ++ (List.replicate n a.toList).flatten
  | 0, acc => by simp
  | n + 1, acc => by
    rw [List.replicate_succ, List.foldl_cons, rep_list a n (acc ++ a), List.replicate_succ, List.flatten_cons, Array.toList_append, List.append_assoc]
end
end L2
set_option Elab.async false
set_option linter.all false
set_option maxRecDepth 100000
set_option maxHeartbeats 2000000
namespace L2
open PySem PySem.Spec PyProof.Rows
section
variable {X : Cx}
theorem op_repX : OpR X (binaryOp .Mult) (fun x y H Q => ∃ (z : Str) (k : Int), x = .str z ∧ y = .int k ∧ 2 ≤ k ∧ k ≤ 1000 ∧ 1 ≤ z.length ∧ z.length ≤ 1000 ∧ Q (.str ⟨(List.replicate k.toNat z.cps.toList).flatten.toArray⟩) H) := by
  intro pins s σ H x y v u Q I rx ry h
  obtain ⟨z, k, rfl, rfl, h1, h2, hz1, hz, q⟩ := h
  obtain ⟨t, rfl⟩ := rx
  obtain ⟨t', rfl⟩ := ry
  have hm : z.length * k.toNat ≤ 1000 * 1000 := Nat.mul_le_mul hz (by omega)
  refine PySem.P.mul_str (by rw [decide_eq_false (by omega), decide_eq_false (by omega)]; rfl) (fun h0 _ => ?_) (fun _ _ => ?_) ?_
  · have : (2 ^ 63 - 1) / k ≥ 1000 := by
      rw [ge_iff_le, Int.le_ediv_iff_mul_le (by omega)]; omega
    omega
  · unfold Builtin.Str.tooLong
    have : sizeLine = 16777216 := sizeLine_eq
    simp; omega
  · rw [if_neg (by omega)]
    rw [if_neg (by simp; omega)]
    have hr := rep_list z.cps k.toNat #[]
    have hrl : (⟨(List.replicate k.toNat z.cps).foldl (· ++ ·) #[]⟩ : Str).length = z.length * k.toNat := by
      show ((List.replicate k.toNat z.cps).foldl (· ++ ·) #[]).size = _
      rw [← Array.length_toList, hr]
      simp [Str.length, Nat.mul_comm]
    refine ⟨by rw [hrl]; have := sizeLine_eq; omega, .str _, H, I.tok _, ⟨_, rfl⟩, ?_⟩
    have e : (List.replicate k.toNat z.cps).foldl (· ++ ·) #[] = (List.replicate k.toNat z.cps.toList).flatten.toArray := by
      apply Array.toList_inj.mp
      rw [hr]
      rfl
    rw [e]
    exact q
end
end L2
set_option Elab.async false
set_option linter.all false
set_option maxRecDepth 100000
set_option maxHeartbeats 2000000
namespace XC
open PySem
theorem plain_unchain : plainId "proto.unchain" = true := by decide +kernel
theorem entry_unchain : entryFor table "proto.unchain" = some Builtin.«proto.unchain» := entryFor_of_fast (by kernel_rfl)
section
variable {prog : Program} {w : World} {A : Around} {E : Value → Shared → Prop} {s : Shared}
noncomputable def Free2 (h : Heap) (a : Addr) : Prop := ∃ o vs, h.get? a = some o ∧ o.data = .fields vs ∧ vs[2]? = some .none
theorem unchain_ok {v : Value} {a : Addr} {Q : Value → Shared → Prop} (hf : Free2 s.heap a) (q : Q .none s) : wpAny (model prog w) A (runValue (.builtin "proto.unchain" ⟨[v, .ref a, .ref a, .bool false], []⟩)) Q E s := by
  obtain ⟨o, vs, h1, h2, h3⟩ := hf
  refine wpAny_runValue (codeAny_builtin entry_unchain ?_)
  rw [Around.under_plainId plain_unchain _]
  show wpAny _ _ (field (.ref a) 2 >>= _) _ _ s
  refine wpAny_bind (wpAny_field h1 h2 h3 ?_)
  exact wpAny_pure q
theorem raiseNew_in {α : Type} {e a : Addr} {oe : Obj} {vs : Array Value} {Q : α → Shared → Prop} (hh : A.handled = some (.ref a)) (hf : Free2 s.heap a) (ne : e ≠ a) (he : s.heap.get? e = some oe) (hd : oe.data = .fields vs) (hz : 2 < vs.size)
    (h : E (.ref e) { s with heap := s.heap.update e (Obj.mapFields (·.setIfInBounds 2 (.ref a))) }) : wpAny (model prog w) A (raiseNew (.ref e) : Sem α) Q E s := by
  unfold raiseNew
  refine wpAny_bind (wpAny_handled ?_)
  rw [hh]
  show wpAny _ _ (if ((Value.ref a != Value.ref e) = true) then _ else _) _ _ s
  rw [if_pos (by simpa using fun z => ne z.symm)]
  refine wpAny_bind (wpAny_holding (unchain_ok hf ?_))
  simp only [updateField]
  refine wpAny_bind (wpAny_bind (wpAny_load he ?_))
  rw [hd]
  show wpAny _ _ (if 2 < vs.size then _ else _) _ _ s
  rw [if_pos hz]
  exact wpAny_update he (wpAny_throw h)
end
section
variable {prog : Program} {w : World} {A : Around} {E : Value → Shared → Prop} {s : Shared}
theorem next_end_in {it l a : Addr} {i : Nat} {items} {Q : Option Value → Shared → Prop} (hh : A.handled = some (.ref a)) (hf : Free2 s.heap a) (na : it ≠ a)
    (hit : s.heap.IsListIter it l i) (hl : s.heap.IsList l items) (hx : items[i]? = none)
    (hQ : ∀ h', Heap.ExtBut it s.heap h' → Q none { s with heap := h' }) : wpAny (model prog w) A (pyNext (.ref it)) Q E s := by
  obtain ⟨o, ho, hc, hd⟩ := id hit
  obtain ⟨ol, hol, _, nl, hdl⟩ := hl
  obtain ⟨oa, va, a1, a2, a3⟩ := hf
  unfold pyNext
  refine wpAny_bind (wpAny_attempt (wpAny_callSpecial?_slot (name := Str.ofString "__next__") hit.typeIs slot_listiter_next
    (wpAny_call_entry slot_listiter_next hit.typeIs entry_listiter_next ?_ (args_listiter_next _))))
  show wpAny _ _ (field (.ref it) 0 >>= _) _ _ s
  refine wpAny_bind (wpAny_field ho hd (x := .ref l) rfl ?_)
  show wpAny _ _ (if (Value.ref l == Value.none) = true then _ else _) _ _ s
  rw [if_neg (show ¬ ((Value.ref l == Value.none) = true) from Bool.false_ne_true)]
  show wpAny _ _ (field (.ref it) 1 >>= _) _ _ s
  refine wpAny_bind (wpAny_field ho hd (x := .int i 0) rfl ?_)
  show wpAny _ _ (seqItems? (.ref l) >>= _) _ _ s
  refine wpAny_bind (wpAny_seqItems hol hdl ?_)
  simp only [Int.toNat_natCast, hx]
  refine wpAny_bind (wpAny_rule (wpAny_bind (wpAny_setField ho hd (by simp) ?_)))
  show wpAny _ _ (newExc (.type "StopIteration") [] >>= _) _ _ _
  refine wpAny_bind ?_
  simp only [newExc, newTuple]
  refine wpAny_bind (wpAny_newObj_type ?_ (by size_fits))
  refine wpAny_bind (m := firstArgMember _ _) (wpAny_of_eq (a := Value.none) (by first | rfl | (simp only [firstArgMember]; rfl)) ?_)
  refine wpAny_newObj_type ?_ (by size_fits)
  refine raiseNew_in (a := a) (show A.in1.handled = _ from hh) ?_ ?_ (Heap.get?_push_size _ rfl) rfl (by rw [Array.size_append]; show 2 < 6 + _; omega) ?_
  · refine ⟨oa, va, Heap.get?_push_of_some _ (Heap.get?_push_of_some _ ?_), a2, a3⟩
    rw [Heap.get?_update_other _ _ na]
    exact a1
  · intro z
    have : (s.heap.update it (Obj.mapFields (·.setIfInBounds 0 Value.none))).get? a = some oa := by rw [Heap.get?_update_other _ _ na]; exact a1
    exact absurd z.symm (Nat.ne_of_lt (Heap.lt_size (Heap.get?_push_of_some _ this)))
  · refine wpAny_bind (wpAny_isInstance (T := "StopIteration") (b := true) ⟨_, Heap.get?_update_self _ (Heap.get?_push_size _ rfl) (Obj.isFreed_of_fields (Obj.data_mapFields rfl _)), rfl⟩ isSubtype_stop ?_)
    refine wpAny_pure (hQ _ fun b o' hb e => ?_)
    have e0 : (s.heap.update it (Obj.mapFields (·.setIfInBounds 0 Value.none))).get? b = some o' := by rw [Heap.get?_update_other _ _ (Ne.symm hb)]; exact e
    have e1 := Heap.get?_push_of_some { cls := Value.type "tuple", data := Data.seq #[] } e0
    rw [Heap.get?_update_other _ _ (Nat.ne_of_gt (Heap.lt_size e1))]
    exact Heap.get?_push_of_some _ e1
end
end XC
namespace L2
open PySem PySem.Spec PyProof.Rows XC
theorem walks_in {prog : Program} {w : World} {A : Around} {a : Addr} (hh : A.handled = some (.ref a)) (I ax : Addr) (hne : ax ≠ I) (na : I ≠ a) (items : Array Value) :
    Walks prog w A I [I, ax, a] [I] items.size (fun i v => items[i]? = some v) (fun i h => h.IsListIter I ax i ∧ h.IsList ax items ∧ Free2 h a) where
  sub := fun b hb => by simp at hb; simp [hb]
  frame := fun _ _ _ st hk => ⟨st.1.at fun o e => hk I (by simp) o e, st.2.1.at fun o e => hk ax (by simp) o e, by obtain ⟨o, vs, h1, h2⟩ := st.2.2; exact ⟨o, vs, hk a (by simp) o h1, h2⟩⟩
  item := fun i s Q E hi st hQ => by
    refine wpAny_pyNext_list_item st.1 st.2.1 (x := items[i]) (by simp [hi]) fun h' hit' hs' => ?_
    refine hQ _ h' s.toks (by simp [hi]) ⟨hit', st.2.1.extBut hs'.extBut hne, ?_⟩ fun b o hb e => hs'.extBut b o (fun h => hb (by simp [h])) e
    obtain ⟨o, vs, h1, h2⟩ := st.2.2
    exact ⟨o, vs, hs'.extBut a o (Ne.symm na) h1, h2⟩
  done := fun s Q E st hQ => next_end_in hh st.2.2 na st.1 st.2.1 (by simp) fun h' he' => hQ h' s.toks fun b o hb e => he' b o (fun h => hb (by simp [h])) e
  self := fun _ _ _ _ st hQ => wpAny_pyIter_listiter st.1 hQ
theorem call_anyH {X : Cx} {K : PySem.W.Frag} {a : Addr} (hK : X.K = K) (hh : X.A.handled = some (.ref a)) : CallR X (.builtin "any") (fun xs H Q => ∃ (p : Addr) (bs : List Bool) (C : Addr) (dd : Option Addr), xs = [.ref p] ∧ SqL K H p (bs.map V.bl) ∧ H a = some (ExO a C dd) ∧ Q (.bl (bs.any id)) H) := by
  subst hK
  intro pins s σ H xs us Q I r h
  obtain ⟨p, bs, C, dd, rfl, hq, hx, q⟩ := h
  obtain ⟨u, rfl, ru⟩ := vals1 r
  cases ru
  obtain ⟨its, r', pl, hz⟩ := I.list hq
  obtain rfl := boolsAre_of r'
  obtain ⟨⟨oe, vs, o1, o2, o3, o4, o5⟩, _⟩ := I.hok a _ hx
  have hlt : p < s.heap.objs.size := by obtain ⟨_, _, e, _⟩ := pl; exact Heap.lt_size e
  have hla : a < s.heap.objs.size := Heap.lt_size o1
  refine call_any_walk (wpAny_pyIter_list pl.isList ?_)
  refine ⟨s.heap.objs.size, [s.heap.objs.size, p, a], [s.heap.objs.size], (bs.map Value.bool).toArray.size, _, _, fun i => (bs[i]?).getD false, rfl, walks_in (A := X.A.in1) hh _ p (Nat.ne_of_lt hlt) (Nat.ne_of_gt hla) (bs.map Value.bool).toArray,
    ⟨⟨_, Heap.get?_push_size _ rfl, rfl, rfl⟩, pl.isList.push _, ⟨oe, vs, Heap.get?_push_of_some _ o1, o4, o5⟩⟩, fun i v s' Q' E' hP hQ => ?_, fun h' tk hk => ?_⟩
  · have hP' : (bs.map Value.bool)[i]? = some v := by simpa using hP
    rw [List.getElem?_map] at hP'
    obtain ⟨b, e, rfl⟩ := Option.map_eq_some_iff.mp hP'
    simp only [e, Option.getD_some] at hQ
    exact wpAny_truthy_bool hQ
  · have e : ((List.range (bs.map Value.bool).toArray.size).any fun i => (bs[i]?).getD false) = bs.any id := by
      rw [List.size_toArray, List.length_map]; exact LSm.range_any bs
    rw [e]
    exact ⟨.bl _, H, I.kept (LSm.kept_iter hk), rfl, q⟩
theorem call_isinstEK {X : Cx} {K : PySem.W.Frag} (h : X.K = K) : CallR X (.builtin "isinstance") (fun xs H Q => ∃ a C dd c b, xs = [.ref a, c] ∧ H a = some (ExO a C dd) ∧ DictThere H dd ∧ XK1 K C ∧ ExC K H (.ref C) c b ∧ Q (.bl b) H) := h ▸ call_isinstE
theorem pe_fldXK {X : Cx} {K : PySem.W.Frag} (h : X.K = K) {e : Expr} {ta : TE} {f : Str} {pos : Pos} (he : PE X e ta) (hb : attributeBase e f X.env (eval e X.env) = eval e X.env) : PE X (.Attribute e f pos) (tFldX K ta f) := h ▸ pe_fldX he hb
end L2
set_option Elab.async false
set_option linter.all false
set_option maxRecDepth 100000
set_option maxHeartbeats 4000000
namespace L2
open PySem PySem.Spec PyProof.Rows
section
variable {X : Cx}
theorem from_ix {a len : Nat} (h : a ≤ len) : Builtin.Str.strSliceIndices (some (a : Int)) none 1 len = (List.range (len - a)).map (fun k => a + k) := by
  rw [← StrLaws.strSliceIndices_plain h (Nat.le_refl len)]
  have h2 : ¬ ((len : Int) < 0) := by omega
  have e2 : max (0 : Int) (min (len : Int) (len : Int)) = len := by omega
  simp only [Builtin.Str.strSliceIndices, sliceRange, h2, if_false, e2]
  simp
theorem sl_str : SlR X (fun x lo hi H Q => ∃ a y : Str, x = .str (a ++ y) ∧ lo = some (a.length : Int) ∧ hi = none ∧ 1 ≤ a.length ∧ (a ++ y).length ≤ sizeLine ∧ Q (.str y) H) := by
  intro pins s σ H x v vl vu lo hi sl Q I rx hs pl pu h
  obtain ⟨a, y, rfl, rfl, rfl, ha, hsz, q⟩ := h
  obtain ⟨t, rfl⟩ := rx
  cases pl with
  | int _ tl =>
  cases pu
  have l : (a ++ y).length = a.length + y.length := by
    show (a.cps ++ y.cps).size = a.cps.size + y.cps.size
    simp
  refine ⟨"str", _, PySem.F.slot_str_getitem.lookup, typeIs_str _ _ _, ?_⟩
  refine wpAny_getItem_str_slice (l := some ((a.length : Int), tl)) (u := none) (st := none) hs rfl ?_
  have hp : slicePicked (a ++ y) (some ((a.length : Int), tl)) none none = (List.range (a.length + y.length - a.length)).map (fun k => a.length + k) := by
    unfold slicePicked
    rw [l]
    exact from_ix (by omega)
  unfold sliceMade
  rw [hp]
  have hne : ¬ ((((none : Option (Int × Tok)).map (·.1)).getD 1 == 1 && ((List.range (a.length + y.length - a.length)).map (fun k => a.length + k)).length == (a ++ y).length) = true) := by
    rw [l]
    simp
    omega
  rw [if_neg hne]
  have hy : (⟨(((List.range (a.length + y.length - a.length)).map (fun k => a.length + k)).filterMap ((a ++ y).cps[·]?)).toArray⟩ : Str) = y := by
    have h1 := StrLaws.picks (a ++ y).cps.toList y.length a.length (by show _ ≤ (a.cps ++ y.cps).toList.length; simp [Str.length])
    have h2 : a.length + y.length - a.length = y.length := by omega
    rw [h2]
    have h3 : ((List.range y.length).map (fun k => a.length + k)).filterMap ((a ++ y).cps[·]?) = ((a ++ y).cps.toList.drop a.length).take y.length := by
      rw [← h1]
      simp
    rw [h3]
    have h4 : ((a ++ y).cps.toList.drop a.length).take y.length = y.cps.toList := by
      show (((a.cps ++ y.cps).toList).drop a.cps.size).take y.cps.size = _
      simp
      exact List.take_of_length_le (by simp)
    rw [h4]
  rw [hy]
  exact ⟨by show y.length ≤ sizeLine; omega, .str y, H, I.tok _, ⟨_, rfl⟩, q⟩
end
end L2
set_option Elab.async false
set_option linter.all false
set_option maxRecDepth 100000
set_option maxHeartbeats 16000000
namespace K04
open PySem L2 PyProof.Rows
noncomputable def top (i : Nat) : Stmt := PySem.Challenge.pw_bundlehouse_k04_no_row.main.body.getD i (.Pass ⟨0, 0, 0, 0⟩)
noncomputable abbrev s_NoRow___init__ : Stmt := inClass (top 3) 0
theorem sc_NoRow___init__ : FnScope ["self", "number"] ["self", "number"] (defScope s_NoRow___init__) := ⟨rfl, rfl, rfl, by decide +kernel, rfl, by decide +kernel, by decide +kernel⟩
noncomputable abbrev s_read_row : Stmt := top 20
theorem sc_read_row : FnScope ["text", "words", "kind", "rest"] ["text"] (defScope s_read_row) := ⟨rfl, rfl, rfl, by decide +kernel, rfl, by decide +kernel, by decide +kernel⟩
noncomputable abbrev s_read_bring : Stmt := top 21
theorem sc_read_bring : FnScope ["words", "pairs"] ["words"] (defScope s_read_bring) := ⟨rfl, rfl, rfl, by decide +kernel, rfl, by decide +kernel, by decide +kernel⟩
noncomputable abbrev s_read_pair : Stmt := top 22
theorem sc_read_pair : FnScope ["words"] ["words"] (defScope s_read_pair) := ⟨rfl, rfl, rfl, by decide +kernel, rfl, by decide +kernel, by decide +kernel⟩
noncomputable abbrev s_read_set : Stmt := top 23
theorem sc_read_set : FnScope ["words"] ["words"] (defScope s_read_set) := ⟨rfl, rfl, rfl, by decide +kernel, rfl, by decide +kernel, by decide +kernel⟩
noncomputable abbrev s_read_say : Stmt := top 24
theorem sc_read_say : FnScope ["words"] ["words"] (defScope s_read_say) := ⟨rfl, rfl, rfl, by decide +kernel, rfl, by decide +kernel, by decide +kernel⟩
noncomputable abbrev s_read_ask : Stmt := top 25
theorem sc_read_ask : FnScope ["words"] ["words"] (defScope s_read_ask) := ⟨rfl, rfl, rfl, by decide +kernel, rfl, by decide +kernel, by decide +kernel⟩
noncomputable abbrev s_has_when : Stmt := top 26
theorem sc_has_when : FnScope ["words"] ["words"] (defScope s_has_when) := ⟨rfl, rfl, rfl, by decide +kernel, rfl, by decide +kernel, by decide +kernel⟩
noncomputable abbrev s_read_sum : Stmt := top 27
theorem sc_read_sum : FnScope ["words", "terms", "k"] ["words"] (defScope s_read_sum) := ⟨rfl, rfl, rfl, by decide +kernel, rfl, by decide +kernel, by decide +kernel⟩
noncomputable abbrev s_read_sign : Stmt := top 28
theorem sc_read_sign : FnScope ["word"] ["word"] (defScope s_read_sign) := ⟨rfl, rfl, rfl, by decide +kernel, rfl, by decide +kernel, by decide +kernel⟩
noncomputable abbrev s_read_thing : Stmt := top 29
theorem sc_read_thing : FnScope ["word"] ["word"] (defScope s_read_thing) := ⟨rfl, rfl, rfl, by decide +kernel, rfl, by decide +kernel, by decide +kernel⟩
noncomputable abbrev s_read_only_name : Stmt := top 30
theorem sc_read_only_name : FnScope ["words"] ["words"] (defScope s_read_only_name) := ⟨rfl, rfl, rfl, by decide +kernel, rfl, by decide +kernel, by decide +kernel⟩
noncomputable abbrev s_read_name : Stmt := top 31
theorem sc_read_name : FnScope ["word"] ["word"] (defScope s_read_name) := ⟨rfl, rfl, rfl, by decide +kernel, rfl, by decide +kernel, by decide +kernel⟩
noncomputable abbrev s_is_name : Stmt := top 32
theorem sc_is_name : FnScope ["word"] ["word"] (defScope s_is_name) := ⟨rfl, rfl, rfl, by decide +kernel, rfl, by decide +kernel, by decide +kernel⟩
noncomputable abbrev s_is_number : Stmt := top 33
theorem sc_is_number : FnScope ["word"] ["word"] (defScope s_is_number) := ⟨rfl, rfl, rfl, by decide +kernel, rfl, by decide +kernel, by decide +kernel⟩
noncomputable abbrev s_law_cell_at : Stmt := top 35
theorem sc_law_cell_at : FnScope ["_law_script", "_law_k"] ["_law_script", "_law_k"] (defScope s_law_cell_at) := ⟨rfl, rfl, rfl, by decide +kernel, rfl, by decide +kernel, by decide +kernel⟩
noncomputable abbrev s_law_name : Stmt := top 36
theorem sc_law_name : FnScope ["_law_cell", "_law_signs", "_law_number_here", "_law_size", "_law_name_here", "_law_k"] ["_law_cell"] (defScope s_law_name) := ⟨rfl, rfl, rfl, by decide +kernel, rfl, by decide +kernel, by decide +kernel⟩
noncomputable abbrev s_law_sum : Stmt := top 37
theorem sc_law_sum : FnScope ["_law_script", "_law_at", "_law_many", "_law_words_here", "_law_k", "_law_cell"] ["_law_script", "_law_at", "_law_many"] (defScope s_law_sum) := ⟨rfl, rfl, rfl, by decide +kernel, rfl, by decide +kernel, by decide +kernel⟩
noncomputable abbrev s_law_words : Stmt := top 38
theorem sc_law_words : FnScope ["_law_script", "_law_kind", "_law_own", "_law_part", "_law_words_here", "_law_behind"] ["_law_script"] (defScope s_law_words) := ⟨rfl, rfl, rfl, by decide +kernel, rfl, by decide +kernel, by decide +kernel⟩
noncomputable abbrev s_law_odd : Stmt := top 39
theorem sc_law_odd : FnScope ["_law_one", "_law_other", "_law_cell", "_law_some"] ["_law_one", "_law_other", "_law_cell"] (defScope s_law_odd) := ⟨rfl, rfl, rfl, by decide +kernel, rfl, by decide +kernel, by decide +kernel⟩
noncomputable abbrev s_law_bad_word : Stmt := top 40
theorem sc_law_bad_word : FnScope ["_law_cell", "_law_some"] ["_law_cell"] (defScope s_law_bad_word) := ⟨rfl, rfl, rfl, by decide +kernel, rfl, by decide +kernel, by decide +kernel⟩
noncomputable abbrev s_law_spoiled : Stmt := top 41
theorem sc_law_spoiled : FnScope ["_law_words_here", "_law_way", "_law_cell", "_law_script", "_law_text", "_law_at"] ["_law_words_here", "_law_way", "_law_cell", "_law_script"] (defScope s_law_spoiled) := ⟨rfl, rfl, rfl, by decide +kernel, rfl, by decide +kernel, by decide +kernel⟩
noncomputable abbrev s_law_number : Stmt := top 42
theorem sc_law_number : FnScope ["_law_text", "e"] ["_law_text"] (defScope s_law_number) := ⟨rfl, rfl, rfl, by decide +kernel, rfl, by decide +kernel, by decide +kernel⟩
noncomputable abbrev s_law_alone : Stmt := top 43
theorem sc_law_alone : FnScope ["_law_text", "e", "_law_some"] ["_law_text"] (defScope s_law_alone) := ⟨rfl, rfl, rfl, by decide +kernel, rfl, by decide +kernel, by decide +kernel⟩
noncomputable abbrev s_law : Stmt := top 44
theorem sc_law : FnScope ["_law_script", "_law_words_here", "_law_text", "_law_found"] ["_law_script"] (defScope s_law) := ⟨rfl, rfl, rfl, by decide +kernel, rfl, by decide +kernel, by decide +kernel⟩
structure Adr where
  BundleError : Addr
  NoRow : Addr
  Twice : Addr
  NoPart : Addr
  NoName : Addr
  NotGiven : Addr
  Endless : Addr
  Asks : Addr
  TooMany : Addr
  NoPlace : Addr
  NoMap : Addr
structure XTxt (K : PySem.W.Frag) (mg : Str → Option Value) (A : Adr) : Prop where
  m_BundleError : mg "BundleError" = some (.ref A.BundleError)
  m_NoRow : mg "NoRow" = some (.ref A.NoRow)
  m_Twice : mg "Twice" = some (.ref A.Twice)
  m_NoPart : mg "NoPart" = some (.ref A.NoPart)
  m_NoName : mg "NoName" = some (.ref A.NoName)
  m_NotGiven : mg "NotGiven" = some (.ref A.NotGiven)
  m_Endless : mg "Endless" = some (.ref A.Endless)
  m_Asks : mg "Asks" = some (.ref A.Asks)
  m_TooMany : mg "TooMany" = some (.ref A.TooMany)
  m_NoPlace : mg "NoPlace" = some (.ref A.NoPlace)
  m_NoMap : mg "NoMap" = some (.ref A.NoMap)
  k_BundleError : XK1 K A.BundleError
  k_NoRow : XK1 K A.NoRow
  s_NoRow : PySem.W.mroIn K A.NoRow (.ref A.NoRow) = some true
  s_Base : PySem.W.mroIn K A.NoRow (.ref A.BundleError) = some true
  i_val : PySem.W.kitOne K (.ref A.NoRow) (.type "ValueError") = some true
  i_Twice : PySem.W.kitOne K (.ref A.NoRow) (.ref A.Twice) = some false
  i_NoPart : PySem.W.kitOne K (.ref A.NoRow) (.ref A.NoPart) = some false
  i_NoName : PySem.W.kitOne K (.ref A.NoRow) (.ref A.NoName) = some false
  i_NotGiven : PySem.W.kitOne K (.ref A.NoRow) (.ref A.NotGiven) = some false
  i_Endless : PySem.W.kitOne K (.ref A.NoRow) (.ref A.Endless) = some false
  i_Asks : PySem.W.kitOne K (.ref A.NoRow) (.ref A.Asks) = some false
  i_TooMany : PySem.W.kitOne K (.ref A.NoRow) (.ref A.TooMany) = some false
  i_NoPlace : PySem.W.kitOne K (.ref A.NoRow) (.ref A.NoPlace) = some false
  i_NoMap : PySem.W.kitOne K (.ref A.NoRow) (.ref A.NoMap) = some false
  x_NoRow : HasX K A.NoRow "NoRow.__init__" s_NoRow___init__
  f_NoRow : XF K A.NoRow "number"
  b_BundleError : XB K A.BundleError
structure Txt (K : PySem.W.Frag) (mg : Str → Option Value) : Prop where
  n_len : mg "len" = none
  n_range : mg "range" = none
  n_str : mg "str" = none
  n_int : mg "int" = none
  n_bool : mg "bool" = none
  n_tuple : mg "tuple" = none
  n_isinstance : mg "isinstance" = none
  n_all : mg "all" = none
  n_any : mg "any" = none
  n_ValueError : mg "ValueError" = none
  g_LETTERS : ∃ u, mg "LETTERS" = some u ∧ RelV (.str "abcdefghijklmnopqrstuvwxyz") u
  g_FIGURES : ∃ u, mg "FIGURES" = some u ∧ RelV (.str "0123456789") u
  g_MOST_SIGNS : ∃ u, mg "MOST_SIGNS" = some u ∧ RelV (.int 8) u
  g_MOST_FIGURES : ∃ u, mg "MOST_FIGURES" = some u ∧ RelV (.int 60) u
  g_MOST_TERMS : ∃ u, mg "MOST_TERMS" = some u ∧ RelV (.int 6) u
  g_MOST_PAIRS : ∃ u, mg "MOST_PAIRS" = some u ∧ RelV (.int 6) u
  d_read_row : HasDef K mg "read_row" s_read_row
  d_read_bring : HasDef K mg "read_bring" s_read_bring
  d_read_pair : HasDef K mg "read_pair" s_read_pair
  d_read_set : HasDef K mg "read_set" s_read_set
  d_read_say : HasDef K mg "read_say" s_read_say
  d_read_ask : HasDef K mg "read_ask" s_read_ask
  d_has_when : HasDef K mg "has_when" s_has_when
  d_read_sum : HasDef K mg "read_sum" s_read_sum
  d_read_sign : HasDef K mg "read_sign" s_read_sign
  d_read_thing : HasDef K mg "read_thing" s_read_thing
  d_read_only_name : HasDef K mg "read_only_name" s_read_only_name
  d_read_name : HasDef K mg "read_name" s_read_name
  d_is_name : HasDef K mg "is_name" s_is_name
  d_is_number : HasDef K mg "is_number" s_is_number
  d_law_cell_at : HasDef K mg "_law_cell_at" s_law_cell_at
  d_law_name : HasDef K mg "_law_name" s_law_name
  d_law_sum : HasDef K mg "_law_sum" s_law_sum
  d_law_words : HasDef K mg "_law_words" s_law_words
  d_law_odd : HasDef K mg "_law_odd" s_law_odd
  d_law_bad_word : HasDef K mg "_law_bad_word" s_law_bad_word
  d_law_spoiled : HasDef K mg "_law_spoiled" s_law_spoiled
  d_law_number : HasDef K mg "_law_number" s_law_number
  d_law_alone : HasDef K mg "_law_alone" s_law_alone
  xs : ∃ A : Adr, XTxt K mg A
theorem pe_globS {X : Cx} {x : Str} {v : V} {pos : Pos} (h : ∃ u, X.mg x = some u ∧ RelV v u) (hg : Gl X x) (hd : (x == ("__debug__" : Str)) = false := by decide) : PE X (.Name x pos) (tC v) := by
  obtain ⟨u, hm, r⟩ := h
  exact pe_glob hg hm r hd
noncomputable def spIsName : Sp := fun vs H Q _ => ∃ x : Str, vs = [.str x] ∧ x.length ≤ 100000 ∧ ∀ H' : Hp, Same H H' → Q (.bl (isNm x.cps.toList)) H'
noncomputable def spIsNumber : Sp := fun vs H Q _ => ∃ x : Str, vs = [.str x] ∧ x.length ≤ 100000 ∧ ∀ H' : Hp, Same H H' → Q (.bl (isNumL x.cps.toList)) H'
noncomputable def spReadName : Sp := fun vs H Q _ => ∃ x : Str, vs = [.str x] ∧ NameOk x ∧ ∀ H' : Hp, Same H H' → Q (.str x) H'
noncomputable def spReadThing : Sp := fun vs H Q _ => ∃ t : Th, vs = [.str (thS t)] ∧ ThOk t ∧ ∀ H' : Hp, Same H H' → Q (thV t) H'
noncomputable def spReadSign : Sp := fun vs H Q _ => ∃ s : Int, vs = [.str (sgS s)] ∧ (s = 1 ∨ s = -1) ∧ Q (.int s) H
noncomputable def spReadOnly : Sp := fun vs H Q _ => ∃ (l : Addr) (x : Str), vs = [.ref l] ∧ H l = some (.lst [.str x]) ∧ NameOk x ∧ ∀ H' : Hp, Same H H' → Q (.str x) H'
noncomputable def spReadPair : Sp := fun vs H Q _ => ∃ (l : Addr) (g o : Str), vs = [.ref l] ∧ H l = some (.lst [.str g, .str "as", .str o]) ∧ NameOk g ∧ NameOk o ∧ ∀ (p : Addr) (H' : Hp), Same H H' → H' p = some (.tup [.str g, .str o]) → Q (.ref p) H'
noncomputable def spHasWhen : Sp := fun vs H Q _ => ∃ (l : Addr) (ws : List Str), vs = [.ref l] ∧ H l = some (.lst (ws.map V.str)) ∧ ((∃ (us : List Str) (w : Str), ws = us ++ [("when" : Str), w] ∧ us ≠ [] ∧ Q (.bl true) H) ∨ (ws.length ≤ 2 ∧ Q (.bl false) H) ∨ (∃ (us : List Str) (a b : Str), ws = us ++ [a, b] ∧ us ≠ [] ∧ a ≠ "when" ∧ Q (.bl false) H))
noncomputable def spReadSum : Sp := fun vs H Q _ => ∃ (l : Addr) (ts : List (Int × Th)), vs = [.ref l] ∧ H l = some (.lst ((sumW ts).map V.str)) ∧ SumOk ts ∧ ∀ (t : Addr) (H' : Hp), Same H H' → TermsAt H' t ts → Q (.ref t) H'
noncomputable def RowR (H : Hp) (rw : Rw) (Q : VK) : Prop := ∀ (r : Addr) (H' : Hp), Same H H' → RowAt H' r rw → Q (.ref r) H'
noncomputable def spReadSet : Sp := fun vs H Q _ => ∃ (l : Addr) (o : Str) (ts : List (Int × Th)), vs = [.ref l] ∧ H l = some (.lst ((o :: "=" :: sumW ts).map V.str)) ∧ RwOk (.set o ts) ∧ RowR H (.set o ts) Q
noncomputable def spReadSay : Sp := fun vs H Q _ => ∃ (l : Addr) (ts : List (Int × Th)) (w : Option Str), vs = [.ref l] ∧ H l = some (.lst ((sumW ts ++ whenW w).map V.str)) ∧ RwOk (.say ts w) ∧ RowR H (.say ts w) Q
noncomputable def spReadAsk : Sp := fun vs H Q _ => ∃ (l : Addr) (p : Str) (w : Option Str), vs = [.ref l] ∧ H l = some (.lst ((p :: whenW w).map V.str)) ∧ RwOk (.ask p w) ∧ RowR H (.ask p w) Q
noncomputable def spReadBring : Sp := fun vs H Q _ => ∃ (l : Addr) (p : Str) (ps : List (Str × Str)), vs = [.ref l] ∧ H l = some (.lst ((p :: pairW ps).map V.str)) ∧ RwOk (.bring p ps) ∧ RowR H (.bring p ps) Q
noncomputable def spReadRow : Sp := fun vs H Q _ => ∃ rw : Rw, vs = [.str (Str.join " " (rowW rw))] ∧ RwOk rw ∧ RowR H rw Q
noncomputable def spCell (K : PySem.W.Frag) : Sp := fun vs H Q _ => ∃ (a : Addr) (ns : List Int) (k : Int), vs = [.ref a, .int k] ∧ SqL K H a (ns.map V.int) ∧ 0 ≤ k ∧ ∀ c : Int, Q (.int c) H
noncomputable def spName : Sp := fun vs H Q _ => ∃ c : Int, vs = [.int c] ∧ ∀ (x : Str) (H' : Hp), Same H H' → NameOk x → Q (.str x) H'
theorem cps_app (a b : Str) : (a ++ b).cps.toList = a.cps.toList ++ b.cps.toList := by
  show (a.cps ++ b.cps).toList = _
  simp
theorem app_assoc (a b c : Str) : a ++ b ++ c = a ++ (b ++ c) := str_ext (by simp only [cps_app, List.append_assoc])
noncomputable def Thing (y : Str) : Prop := isNm y.cps.toList = true ∨ isNumL y.cps.toList = true
noncomputable instance (y : Str) : Decidable (Thing y) := inferInstanceAs (Decidable (_ ∨ _))
theorem thing_of {t : Th} (h : ThOk t) : Thing (thS t) := by
  cases t with
  | nam x => exact .inl h
  | num n => exact .inr (num_isNum h)
noncomputable def lenB (k : Str) (n : Nat) : Bool :=
  if k = "bring" then decide (n % 3 = 2 ∧ n ≤ 20) else if k = "give" then decide (n = 4) else if k = "set" then decide (n % 2 = 0) else if k = "say" then decide (n % 2 = 0)
  else if k = "need" then decide (n % 2 = 0 ∧ n ≤ 12) else if k = "ask" then decide (n = 2 ∨ n = 4) else if k = "take" then decide (n = 2) else if k = "part" then decide (n = 2) else if k = "do" then decide (n = 2) else false
theorem lenB_off {k : Str} {n m : Nat} (h : lenB k n = true) (hm : m = n + 1 ∨ n = m + 1) : lenB k m = false := by
  unfold lenB at h ⊢
  by_cases e1 : k = "bring"
  · rw [if_pos e1] at h ⊢; have := of_decide_eq_true h; exact decide_eq_false (by omega)
  rw [if_neg e1] at h ⊢
  by_cases e2 : k = "give"
  · rw [if_pos e2] at h ⊢; have := of_decide_eq_true h; exact decide_eq_false (by omega)
  rw [if_neg e2] at h ⊢
  by_cases e3 : k = "set"
  · rw [if_pos e3] at h ⊢; have := of_decide_eq_true h; exact decide_eq_false (by omega)
  rw [if_neg e3] at h ⊢
  by_cases e4 : k = "say"
  · rw [if_pos e4] at h ⊢; have := of_decide_eq_true h; exact decide_eq_false (by omega)
  rw [if_neg e4] at h ⊢
  by_cases e5 : k = "need"
  · rw [if_pos e5] at h ⊢; have := of_decide_eq_true h; exact decide_eq_false (by omega)
  rw [if_neg e5] at h ⊢
  by_cases e6 : k = "ask"
  · rw [if_pos e6] at h ⊢; have := of_decide_eq_true h; exact decide_eq_false (by omega)
  rw [if_neg e6] at h ⊢
  by_cases e7 : k = "take"
  · rw [if_pos e7] at h ⊢; have := of_decide_eq_true h; exact decide_eq_false (by omega)
  rw [if_neg e7] at h ⊢
  by_cases e8 : k = "part"
  · rw [if_pos e8] at h ⊢; have := of_decide_eq_true h; exact decide_eq_false (by omega)
  rw [if_neg e8] at h ⊢
  by_cases e9 : k = "do"
  · rw [if_pos e9] at h ⊢; have := of_decide_eq_true h; exact decide_eq_false (by omega)
  rw [if_neg e9] at h
  exact Bool.noConfusion h
noncomputable def Mid (k : Str) (us : List Str) : Prop :=
  (k = "give" → us.head? = some "as") ∧ (k = "set" → us.head? = some "=") ∧ (k = "ask" → us = [] ∨ us.head? = some "when") ∧
  (k = "say" → us = [] ∨ (us.head? = some "when" ∧ us.length = 2) ∨ ∃ z y r, us = z :: y :: r ∧ (z = "+" ∨ z = "-") ∧ Thing y)
noncomputable def Shape (ws : List Str) : Prop := (∀ x ∈ ws, x ≠ "") ∧ ∃ k y us, ws = k :: y :: us ∧ lenB k (us.length + 2) = true ∧ Thing y ∧ Mid k us
theorem thing_ne {y : Str} (h : Thing y) : y ≠ "" := fun z => by
  rw [z] at h
  exact absurd h (by decide +kernel)
theorem pairW_ne : ∀ (ps : List (Str × Str)), (∀ q ∈ ps, NameOk q.1 ∧ NameOk q.2) → ∀ x ∈ pairW ps, x ≠ ""
  | [], _, x, hx => by cases hx
  | (a, b) :: r, h, x, hx => by
    have h1 := h (a, b) List.mem_cons_self
    have hx' : x ∈ a :: ("as" : Str) :: b :: pairW r := hx
    rcases List.mem_cons.mp hx' with z | z
    · rw [z]; exact thing_ne (.inl h1.1)
    rcases List.mem_cons.mp z with z | z
    · rw [z]; decide
    rcases List.mem_cons.mp z with z | z
    · rw [z]; exact thing_ne (.inl h1.2)
    exact pairW_ne r (fun q hq => h q (List.mem_cons_of_mem _ hq)) x z
theorem sgS_ne (z : Int) : sgS z ≠ "" := by
  unfold sgS
  split <;> decide
theorem tailW_ne : ∀ (ts : List (Int × Th)), (∀ p ∈ ts, ThOk p.2) → ∀ x ∈ tailW ts, x ≠ ""
  | [], _, x, hx => by cases hx
  | (a, b) :: r, h, x, hx => by
    have h1 := h (a, b) List.mem_cons_self
    have hx' : x ∈ sgS a :: thS b :: tailW r := hx
    rcases List.mem_cons.mp hx' with z | z
    · rw [z]; exact sgS_ne a
    rcases List.mem_cons.mp z with z | z
    · rw [z]; exact thing_ne (thing_of h1)
    exact tailW_ne r (fun q hq => h q (List.mem_cons_of_mem _ hq)) x z
theorem sumW_cons (p : Int × Th) (r : List (Int × Th)) : sumW (p :: r) = thS p.2 :: tailW r := rfl
theorem tailW_len : ∀ ts : List (Int × Th), (tailW ts).length = 2 * ts.length
  | [] => rfl
  | (a, b) :: r => by
    show (tailW r).length + 1 + 1 = 2 * (r.length + 1)
    rw [tailW_len r]
    omega
theorem sum_split {ts : List (Int × Th)} (h : SumOk ts) : ∃ p r, ts = p :: r ∧ ThOk p.2 ∧ (∀ q ∈ r, ThOk q.2) ∧ r.length ≤ 5 ∧ sumW ts = thS p.2 :: tailW r := by
  have h1 := h.lo
  have h2 := h.hi
  have h3 := h.th
  cases ts with
  | nil => exact absurd h1 (by decide)
  | cons p r => exact ⟨p, r, rfl, h3 p List.mem_cons_self, fun q hq => h3 q (List.mem_cons_of_mem _ hq), by simpa using h2, rfl⟩
theorem ne1 {us : List Str} {k y : Str} (hk : k ≠ "") (hy : y ≠ "") (h : ∀ x ∈ us, x ≠ "") : ∀ x ∈ k :: y :: us, x ≠ "" := fun x hx => by
  rcases List.mem_cons.mp hx with z | z
  · rw [z]; exact hk
  rcases List.mem_cons.mp z with z | z
  · rw [z]; exact hy
  exact h x z
theorem Mid.non {k : Str} {us : List Str} (h1 : k ≠ "give") (h2 : k ≠ "set") (h3 : k ≠ "ask") (h4 : k ≠ "say") : Mid k us := ⟨fun z => absurd z h1, fun z => absurd z h2, fun z => absurd z h3, fun z => absurd z h4⟩
theorem whenW_ne {w : Option Str} (h : OptOk w) : ∀ x ∈ whenW w, x ≠ "" := by
  cases w with
  | none => intro x hx; cases hx
  | some y =>
    intro x hx
    have hx' : x ∈ (["when", y] : List Str) := hx
    rcases List.mem_cons.mp hx' with z | z
    · rw [z]; decide
    · rw [List.mem_singleton.mp z]; exact thing_ne (.inl (h y rfl))
theorem lenB_bring (n : Nat) : lenB "bring" n = decide (n % 3 = 2 ∧ n ≤ 20) := rfl
theorem lenB_set (n : Nat) : lenB "set" n = decide (n % 2 = 0) := rfl
theorem lenB_say (n : Nat) : lenB "say" n = decide (n % 2 = 0) := rfl
theorem lenB_need (n : Nat) : lenB "need" n = decide (n % 2 = 0 ∧ n ≤ 12) := rfl
theorem row_shape {rw : Rw} (h : RwOk rw) : Shape (rowW rw) := by
  cases rw with
  | bring p ps =>
    obtain ⟨h1, h2, h3⟩ := h
    refine ⟨ne1 (by decide) (thing_ne (.inl h1)) (pairW_ne ps h3), "bring", p, pairW ps, rfl, ?_, .inl h1, Mid.non (by decide) (by decide) (by decide) (by decide)⟩
    rw [lenB_bring, pairW_len]
    exact decide_eq_true (by omega)
  | give o g =>
    obtain ⟨h1, h2⟩ := h
    refine ⟨ne1 (by decide) (thing_ne (.inl h1)) ?_, "give", o, ["as", g], rfl, rfl, .inl h1, fun _ => rfl, fun z => absurd z (by decide), fun z => absurd z (by decide), fun z => absurd z (by decide)⟩
    exact ne1 (by decide) (thing_ne (.inl h2)) fun x hx => by cases hx
  | set o ts =>
    obtain ⟨h1, h2⟩ := h
    obtain ⟨p, r, rfl, hp, hr, hl, e⟩ := sum_split h2
    refine ⟨?_, "set", o, "=" :: sumW (p :: r), rfl, ?_, .inl h1, fun z => absurd z (by decide), fun _ => rfl, fun z => absurd z (by decide), fun z => absurd z (by decide)⟩
    · exact ne1 (by decide) (thing_ne (.inl h1)) (ne1 (by decide) (thing_ne (thing_of hp)) (tailW_ne r hr))
    · rw [lenB_set, e]
      show decide (((tailW r).length + 1 + 1 + 2) % 2 = 0) = true
      rw [tailW_len]
      exact decide_eq_true (by omega)
  | take o => exact ⟨ne1 (by decide) (thing_ne (.inl h)) (fun x hx => by cases hx), "take", o, [], rfl, rfl, .inl h, Mid.non (by decide) (by decide) (by decide) (by decide)⟩
  | say ts w =>
    obtain ⟨h1, h2⟩ := h
    obtain ⟨p, r, rfl, hp, hr, hl, e⟩ := sum_split h1
    have e' : rowW (.say (p :: r) w) = ("say" : Str) :: thS p.2 :: (tailW r ++ whenW w) := rfl
    rw [e']
    refine ⟨ne1 (by decide) (thing_ne (thing_of hp)) (fun x hx => ?_), "say", thS p.2, tailW r ++ whenW w, rfl, ?_, thing_of hp, fun z => absurd z (by decide), fun z => absurd z (by decide), fun z => absurd z (by decide), fun _ => ?_⟩
    · rcases List.mem_append.mp hx with z | z
      · exact tailW_ne r hr x z
      · exact whenW_ne h2 x z
    · rw [lenB_say, List.length_append, tailW_len]
      cases w with
      | none => exact decide_eq_true (by show (2 * r.length + 0 + 2) % 2 = 0; omega)
      | some y => exact decide_eq_true (by show (2 * r.length + 2 + 2) % 2 = 0; omega)
    · cases r with
      | nil =>
        cases w with
        | none => exact .inl rfl
        | some y => exact .inr (.inl ⟨rfl, rfl⟩)
      | cons q r2 =>
        refine .inr (.inr ⟨sgS q.1, thS q.2, tailW r2 ++ whenW w, rfl, ?_, thing_of (hr q List.mem_cons_self)⟩)
        unfold sgS
        split
        · exact .inl rfl
        · exact .inr rfl
  | need ts =>
    obtain ⟨p, r, rfl, hp, hr, hl, e⟩ := sum_split h
    refine ⟨ne1 (by decide) (thing_ne (thing_of hp)) (tailW_ne r hr), "need", thS p.2, tailW r, rfl, ?_, thing_of hp, Mid.non (by decide) (by decide) (by decide) (by decide)⟩
    rw [lenB_need, tailW_len]
    exact decide_eq_true (by omega)
  | ask p w =>
    obtain ⟨h1, h2⟩ := h
    refine ⟨ne1 (by decide) (thing_ne (.inl h1)) (whenW_ne h2), "ask", p, whenW w, rfl, ?_, .inl h1, fun z => absurd z (by decide), fun z => absurd z (by decide), fun _ => ?_, fun z => absurd z (by decide)⟩
    · cases w with
      | none => rfl
      | some y => rfl
    · cases w with
      | none => exact .inl rfl
      | some y => exact .inr rfl
  | part p => exact ⟨ne1 (by decide) (thing_ne (.inl h)) (fun x hx => by cases hx), "part", p, [], rfl, rfl, .inl h, Mid.non (by decide) (by decide) (by decide) (by decide)⟩
  | doo p => exact ⟨ne1 (by decide) (thing_ne (.inl h)) (fun x hx => by cases hx), "do", p, [], rfl, rfl, .inl h, Mid.non (by decide) (by decide) (by decide) (by decide)⟩
theorem no_empty {ws : List Str} (h : ("" : Str) ∈ ws) : ¬ Shape ws := fun s => s.1 _ h rfl
theorem no_one (k : Str) : ¬ Shape [k] := fun ⟨_, k', y, us, e, _⟩ => by cases e
theorem no_thing {k y : Str} {us : List Str} (h : ¬ Thing y) : ¬ Shape (k :: y :: us) := fun ⟨_, k', y', us', e, _, ht, _⟩ => by
  cases e
  exact h ht
theorem no_len {k y : Str} {us : List Str} (h : lenB k (us.length + 2) = false) : ¬ Shape (k :: y :: us) := fun ⟨_, k', y', us', e, hl, _⟩ => by
  cases e
  rw [h] at hl
  exact Bool.noConfusion hl
theorem no_mid {k y : Str} {us : List Str} (h : ¬ Mid k us) : ¬ Shape (k :: y :: us) := fun ⟨_, k', y', us', e, _, _, hm⟩ => by
  cases e
  exact h hm
theorem no_less {ws : List Str} (h : Shape ws) : ¬ Shape (ws.take (ws.length - 1)) := by
  obtain ⟨_, k, y, us, rfl, hl, _⟩ := h
  cases us with
  | nil => exact no_one k
  | cons z r =>
    have e : (k :: y :: z :: r).take ((k :: y :: z :: r).length - 1) = k :: y :: (z :: r).take r.length := rfl
    rw [e]
    refine no_len ?_
    rw [List.length_take_of_le (by simp)]
    exact lenB_off hl (.inr (by simp))
theorem no_more {ws : List Str} (h : Shape ws) (x : Str) : ¬ Shape (ws ++ [x]) := by
  obtain ⟨_, k, y, us, rfl, hl, _⟩ := h
  show ¬ Shape (k :: y :: (us ++ [x]))
  refine no_len (lenB_off hl (.inl ?_))
  rw [List.length_append]
  rfl
theorem lenB_kind {k : Str} (n : Nat) (h : k ∈ (["Say", "sett", "brin", "hand", "TAKE", "par", ""] : List Str)) : lenB k n = false := by
  simp only [List.mem_cons, List.not_mem_nil, or_false] at h
  rcases h with rfl | rfl | rfl | rfl | rfl | rfl | rfl <;> rfl
theorem no_say {y z x : Str} {r : List Str} (h1 : z ≠ "when") (h2 : ¬ Thing x) : ¬ Shape ("say" :: y :: z :: x :: r) := no_mid fun m => by
  rcases m.2.2.2 rfl with e | ⟨e, _⟩ | ⟨z', y', r', e, _, ht⟩
  · cases e
  · exact h1 (Option.some.inj e)
  · cases e
    exact h2 ht
theorem no_sayS {y z x : Str} {r : List Str} (h1 : z ≠ "when") (h2 : z ≠ "+") (h3 : z ≠ "-") : ¬ Shape ("say" :: y :: z :: x :: r) := no_mid fun m => by
  rcases m.2.2.2 rfl with e | ⟨e, _⟩ | ⟨z', y', r', e, hz, _⟩
  · cases e
  · exact h1 (Option.some.inj e)
  · cases e
    exact hz.elim h2 h3
theorem no_sayW {y x a b : Str} {r : List Str} : ¬ Shape ("say" :: y :: "when" :: x :: a :: b :: r) := no_mid fun m => by
  rcases m.2.2.2 rfl with e | ⟨_, e⟩ | ⟨z', y', r', e, hz, _⟩
  · cases e
  · simp at e
  · cases e
    exact absurd hz (by decide)
noncomputable def Wd4 (x : Str) : Prop := 32 ∉ x.cps.toList ∧ x.length ≤ 900
structure Bad4 (ws : List Str) : Prop where
  ne : ws ≠ []
  few : ws.length ≤ 40
  wd : ∀ x ∈ ws, Wd4 x
  no : ¬ Shape ws
theorem wd_sum {ws : List Str} (h : ∀ x ∈ ws, Wd4 x) : (ws.map (·.length)).sum ≤ 900 * ws.length := by
  induction ws with
  | nil => exact Nat.le_refl _
  | cons a r ih =>
    have h1 := (h a List.mem_cons_self).2
    have h2 := ih fun x hx => h x (List.mem_cons_of_mem _ hx)
    simp only [List.map_cons, List.sum_cons, List.length_cons]
    omega
theorem wd_join {ws : List Str} (h : ∀ x ∈ ws, Wd4 x) (hf : ws.length ≤ 41) : (Str.join " " ws).length ≤ 40000 := by
  have h1 := StrLaws.join_length_le " " ws
  have h2 := wd_sum h
  have h4 : (" " : Str).length = 1 := by decide +kernel
  rw [h4] at h1
  omega
theorem Bad4.split {ws : List Str} (h : Bad4 ws) : PySem.Txt.split (Str.join " " ws) " " = ws := split_join h.ne fun a ha => (h.wd a ha).1
theorem wd_word {x : Str} (h : WordOk x) : Wd4 x := ⟨h.1, by have := h.2; omega⟩
theorem wd_name {x : Str} (h : NameOk x) : Wd4 x := wd_word (ThOk.word (t := .nam x) h)
section
variable {P : Program} {w : World} {K : PySem.W.Frag} {mg : Str → Option Value} {base : Heap}
theorem ok_is_name (T : Txt K mg) : Cl P w K mg base 1 "is_name" ["word"] spIsName := by
  refine Cl.of T.d_is_name sc_is_name (fun vs H Q E h => ?_) (fun _ _ _ _ _ _ us hl => by obtain ⟨a, rfl⟩ := len1 hl; rfl) (fun f cdv A outer s H vs Q E hr h => ?_)
  · obtain ⟨x, rfl, _⟩ := h
    rfl
  · obtain ⟨x, rfl, hx, q⟩ := h
    have hsz : x.length ≤ sizeLine := by have : sizeLine = 16777216 := sizeLine_eq; omega
    refine ⟨_, (pss_cons (ps_if (PW.pt (pw_or (pt_not (pt_chain op_le op_le pe_int (pe_callB call_len_str (by rfl) T.n_len PySem.boot_len (pa_cons (pv 0) pa_nil)) (pe_globS T.g_MOST_SIGNS (by rfl)))) (pw_or1 (pt_cmpR op_notin_str (pe_ix ix_str (pv 0) pe_int (fun _ _ => rfl)) (pe_globS T.g_LETTERS (by rfl)) (by with_unfolding_all rfl)))))
        (pss_one (ps_ret pe_bl)) pss_nil)
      (pss_one (ps_ret (pe_callB (call_all rfl) (by rfl) T.n_all boot_all (pa_cons (pe_comp (M := ["sign"]) (ρ := [none]) (defScope s_is_name) ["word"] ⟨rfl, by decide +kernel, by decide +kernel, by decide +kernel, rfl, by decide +kernel, by decide +kernel⟩ (pi_str (pv 0)) (fun _ _ _ _ _ _ => (pg_name (i := 0) (show (["sign"] : List Str).Nodup by decide +kernel) rfl (Or.inl rfl))) (fun _ _ _ _ _ _ => pts_nil) (fun _ _ _ _ _ _ => (pe_or (pe_cmpR op_in_str (pv 0) (pe_globS T.g_LETTERS (by rfl)) (by with_unfolding_all rfl)) (pe_one (pe_cmpR op_in_str (pv 0) (pe_globS T.g_FIGURES (by rfl)) (by with_unfolding_all rfl)))))) pa_nil))))), ?_⟩
    refine ⟨_, rfl, x, rfl, hsz, _, _, rfl, rfl, _, rfl, ?_⟩
    have hlen : x.length = x.cps.toList.length := by simp [Str.length]
    by_cases h1 : (1 : Int) ≤ x.length
    · refine iteDP h1 ⟨_, _, rfl, rfl, _, rfl, ?_⟩
      by_cases h8 : (x.length : Int) ≤ 8
      · show if (!decide ((x.length : Int) ≤ 8)) = true then _ else _
        refine iteNS h8 ?_
        cases e : x.cps.toList with
        | nil => rw [e] at hlen; simp at hlen; omega
        | cons c r =>
        have hr7 : r.length ≤ 7 := by rw [e] at hlen; simp only [List.length_cons] at hlen; omega
        refine ⟨_, rfl, _, _, _, rfl, rfl, hsz, (by rw [e]; exact atI_nat (j := 0) (v := c) rfl), _, _, rfl, rfl, _, rfl, ?_⟩
        rw [in_let]
        cases hc : isLet c with
        | false =>
          refine iteT ?_
          have := q H (Same.refl H)
          rw [e, show isNm (c :: r) = false by show (isLet c && r.all isSg && decide (r.length ≤ 7)) = false; rw [hc]; rfl] at this
          exact this
        | true =>
        refine iteF ?_
        refine ⟨_, rfl, x, rfl, fun D hD => ?_⟩
        refine comp_by x.cps.size (fun i σ H2 => ∃ v0 : Option V, σ = [v0] ∧ Same H H2 ∧ H2 D = some (.lst ((x.cps.toList.take i).map fun c => V.bl (isSg c)))) ⟨_, rfl, (Same.refl H).new hD, upd_same⟩ ?_ ?_
        · rintro i σ H2 hi ⟨v0, rfl, s2, hD2⟩
          refine ⟨hi, ?_⟩
          rintro v H3 ⟨rfl, d, hd, rfl⟩
          refine ntG ?_
          refine ⟨_, rfl, _, _, rfl, rfl, _, rfl, ?_⟩
          have hlt : (x.cps.toList.take i).length = i := by
            have : x.cps.toList.length = x.cps.size := by simp
            rw [List.length_take]; omega
          have step : ∀ b : Bool, b = isSg d → ∃ ys, H3 D = some (.lst ys) ∧ ys.length < sizeLine ∧ ∃ v0 : Option V, [some (V.str ⟨#[d]⟩)] = [v0] ∧ Same H (upd H3 D (.lst (ys ++ [.bl b]))) ∧ upd H3 D (.lst (ys ++ [.bl b])) D = some (.lst ((x.cps.toList.take (i + 1)).map fun c => V.bl (isSg c))) := fun b hb => by
            refine ⟨_, hD2, small1000 (by rw [List.length_map, hlt]; have : x.cps.size = x.length := rfl; omega), _, rfl, s2.put hD, ?_⟩
            rw [upd_same, take_succ_get hd, hb]
            simp
          rw [in_let]
          cases hl : isLet d with
          | true => exact iteT (step true (by unfold isSg; rw [hl]; rfl))
          | false =>
            refine iteF ⟨_, rfl, _, _, rfl, rfl, ?_⟩
            rw [in_fig]
            exact step (isFig d) (by unfold isSg; rw [hl]; rfl)
        · rintro σ H2 ⟨v0, rfl, s2, hD2⟩
          refine ⟨Nat.le_refl _, D, x.cps.toList.map isSg, rfl, ?_, ?_⟩
          · rw [List.take_of_length_le (by simp)] at hD2
            rw [List.map_map]
            exact SqL.of hD2
          · have := q H2 s2
            rw [e] at this ⊢
            rw [show ((c :: r).map isSg).all id = isNm (c :: r) by
              show _ = (isLet c && r.all isSg && decide (r.length ≤ 7))
              rw [hc, decide_eq_true hr7, List.map_cons, List.all_cons, List.all_map]
              simp [isSg, hc]]
            exact this
      · show if (!decide ((x.length : Int) ≤ 8)) = true then _ else _
        rw [decide_eq_false h8]
        refine iteT ?_
        have := q H (Same.refl H)
        rw [show isNm x.cps.toList = false by
          cases e : x.cps.toList with
          | nil => rfl
          | cons c r =>
            show (isLet c && r.all isSg && decide (r.length ≤ 7)) = false
            rw [decide_eq_false (by rw [e] at hlen; simp only [List.length_cons] at hlen; omega)]
            simp] at this
        exact this
    · refine iteDN h1 ⟨_, rfl, ?_⟩
      refine iteT ?_
      have := q H (Same.refl H)
      rw [show isNm x.cps.toList = false by
        cases e : x.cps.toList with
        | nil => rfl
        | cons c r => rw [e] at hlen; simp only [List.length_cons] at hlen; omega] at this
      exact this
theorem ok_is_number (T : Txt K mg) : Cl P w K mg base 1 "is_number" ["word"] spIsNumber := by
  refine Cl.of T.d_is_number sc_is_number (fun vs H Q E h => ?_) (fun _ _ _ _ _ _ us hl => by obtain ⟨a, rfl⟩ := len1 hl; rfl) (fun f cdv A outer s H vs Q E hr h => ?_)
  · obtain ⟨x, rfl, _⟩ := h
    rfl
  · obtain ⟨x, rfl, hx, q⟩ := h
    have hsz : x.length ≤ sizeLine := by have : sizeLine = 16777216 := sizeLine_eq; omega
    have hlen : x.length = x.cps.toList.length := by simp [Str.length]
    have no : isNumL x.cps.toList = false → Q (.bl false) H := fun e => by
      have := q H (Same.refl H)
      rw [e] at this
      exact this
    refine ⟨_, (pss_cons (ps_if (PW.pt (pw_or (pt_not (pt_chain op_le op_le pe_int (pe_callB call_len_str (by rfl) T.n_len PySem.boot_len (pa_cons (pv 0) pa_nil)) (pe_globS T.g_MOST_FIGURES (by rfl)))) (pw_or1 (PW.pt (pw_and (pt_cmpR op_eq (pe_ix ix_str (pv 0) pe_int (fun _ _ => rfl)) pe_str (nomark _)) (pw_and1 (pt_cmpR op_ne (pv 0) pe_str (nomark _))))))))
        (pss_one (ps_ret pe_bl)) pss_nil)
      (pss_one (ps_ret (pe_callB (call_all rfl) (by rfl) T.n_all boot_all (pa_cons (pe_comp (M := ["sign"]) (ρ := [none]) (defScope s_is_number) ["word"] ⟨rfl, by decide +kernel, by decide +kernel, by decide +kernel, rfl, by decide +kernel, by decide +kernel⟩ (pi_str (pv 0)) (fun _ _ _ _ _ _ => (pg_name (i := 0) (show (["sign"] : List Str).Nodup by decide +kernel) rfl (Or.inl rfl))) (fun _ _ _ _ _ _ => pts_nil) (fun _ _ _ _ _ _ => (pe_cmpR op_in_str (pv 0) (pe_globS T.g_FIGURES (by rfl)) (by with_unfolding_all rfl)))) pa_nil))))), ?_⟩
    refine ⟨_, rfl, x, rfl, hsz, _, _, rfl, rfl, _, rfl, ?_⟩
    by_cases h1 : (1 : Int) ≤ x.length
    · refine iteDP h1 ⟨_, _, rfl, rfl, _, rfl, ?_⟩
      by_cases h8 : (x.length : Int) ≤ 60
      · show if (!decide ((x.length : Int) ≤ 60)) = true then _ else _
        refine iteNS h8 ?_
        cases e : x.cps.toList with
        | nil => rw [e] at hlen; simp at hlen; omega
        | cons c r =>
        have zero : ("0" : Str) = ⟨#[48]⟩ := by decide +kernel
        have hx0 : x = ⟨#[48]⟩ ↔ c :: r = [48] := ⟨fun z => by rw [z] at e; exact e.symm, fun z => str_ext (by rw [e, z])⟩
        refine ⟨_, rfl, _, _, _, rfl, rfl, hsz, (by rw [e]; exact atI_nat (j := 0) (v := c) rfl), rfl, _, rfl, ?_⟩
        have body : ¬ (c = 48 ∧ ¬ c :: r = [48]) → ∀ D, H D = none → _ := fun hg D hD =>
          comp_by (J := Its x) (g := gName 0) (tt := tNoTest) (te := tOp (fun x y H Q => ∃ i j, x = V.str i ∧ y = V.str j ∧ Q (V.bl !(Builtin.Str.occurrences j i 0 j.length 1).isEmpty) H) (tVar 0) (tC (V.str "0123456789"))) (Q := fun H2 => ∃ (p : Addr) (bs : List Bool), [V.ref D] = [.ref p] ∧ SqL K H2 p (bs.map V.bl) ∧ Q (.bl (bs.all id)) H2) (σ := [none]) (H := H) x.cps.size
            (fun i σ H2 => ∃ v0 : Option V, σ = [v0] ∧ Same H H2 ∧ H2 D = some (.lst ((x.cps.toList.take i).map fun c => V.bl (isFig c)))) ⟨_, rfl, (Same.refl H).new hD, upd_same⟩ (by
              rintro i σ H2 hi ⟨v0, rfl, s2, hD2⟩
              refine ⟨hi, ?_⟩
              rintro v H3 ⟨rfl, d, hd, rfl⟩
              refine ntG ?_
              refine ⟨_, rfl, _, _, rfl, rfl, ?_⟩
              have hlt : (x.cps.toList.take i).length = i := by
                have : x.cps.toList.length = x.cps.size := by simp
                rw [List.length_take]; omega
              refine ⟨_, hD2, small1000 (by rw [List.length_map, hlt]; have : x.cps.size = x.length := rfl; omega), _, rfl, s2.put hD, ?_⟩
              rw [in_fig, upd_same, take_succ_get hd]
              simp) (by
              rintro σ H2 ⟨v0, rfl, s2, hD2⟩
              refine ⟨Nat.le_refl _, D, x.cps.toList.map isFig, rfl, ?_, ?_⟩
              · rw [List.take_of_length_le (by simp)] at hD2
                rw [List.map_map]
                exact SqL.of hD2
              · have := q H2 s2
                rw [e] at this ⊢
                rw [show ((c :: r).map isFig).all id = isNumL (c :: r) by
                  unfold isNumL
                  rw [decide_eq_true (by simp), decide_eq_true (by rw [e] at hlen; omega), List.all_map]
                  rw [show (decide ((c :: r).head? = some 48) && !decide (c :: r = [48])) = false by
                    rw [Bool.and_eq_false_iff]
                    by_cases hc : c = 48
                    · refine .inr ?_
                      have : c :: r = [48] := by
                        by_cases z : c :: r = [48]
                        · exact z
                        · exact absurd ⟨hc, z⟩ hg
                      rw [decide_eq_true this]; rfl
                    · exact .inl (decide_eq_false (by simpa using hc))]
                  rfl]
                exact this)
        have bad : c = 48 ∧ ¬ c :: r = [48] → isNumL x.cps.toList = false := fun ⟨hc, hn⟩ => by
          rw [e]
          unfold isNumL
          rw [show (decide ((c :: r).head? = some 48) && !decide (c :: r = [48])) = true by rw [decide_eq_true (by simpa using hc), decide_eq_false hn]; rfl]
          simp
        by_cases hc : c = 48
        · rw [zero, hc]
          refine iteSE ⟨_, rfl, rfl, _, rfl, ?_⟩
          by_cases hn : c :: r = [48]
          · rw [hx0.mpr hn]
            refine iteNS rfl ?_
            rw [← hx0.mpr hn]
            exact ⟨_, rfl, x, rfl, body fun z => z.2 hn⟩
          · rw [decide_eq_false fun z => hn (hx0.mp (V.str.inj z))]
            exact iteT (no (bad ⟨hc, hn⟩))
        · rw [zero]
          refine iteSN (fun z => hc (by simpa using z)) ?_
          exact ⟨_, rfl, x, rfl, body fun z => hc z.1⟩
      · show if (!decide ((x.length : Int) ≤ 60)) = true then _ else _
        rw [decide_eq_false h8]
        refine iteT (no ?_)
        unfold isNumL
        rw [decide_eq_false (p := x.cps.toList.length ≤ 60) (by rw [← hlen]; omega)]
        simp
    · refine iteDN h1 ⟨_, rfl, ?_⟩
      refine iteT (no ?_)
      unfold isNumL
      rw [decide_eq_false (p := 1 ≤ x.cps.toList.length) (by rw [← hlen]; omega)]
      simp
theorem ok_read_name (T : Txt K mg) : Cl P w K mg base 2 "read_name" ["word"] spReadName := by
  have C_is_name := ok_is_name (P := P) (w := w) (base := base) T
  refine Cl.of T.d_read_name sc_read_name (fun vs H Q E h => ?_) (fun _ _ _ _ _ _ us hl => by obtain ⟨a, rfl⟩ := len1 hl; rfl) (fun f cdv A outer s H vs Q E hr h => ?_)
  · obtain ⟨x, rfl, _⟩ := h
    rfl
  · obtain ⟨x, rfl, hn, q⟩ := h
    refine ⟨_, (pss_cons (ps_if (pt_not (pt_val (pe_fn C_is_name hr (by rfl) (pa_cons (pv 0) pa_nil))))
        (pss_one ps_never) pss_nil)
      (pss_one (ps_ret (pv 0)))), ?_⟩
    refine ⟨_, rfl, x, rfl, (by have := hn.len; omega), fun H1 s1 => ⟨_, rfl, ?_⟩⟩
    rw [show isNm x.cps.toList = true from hn]
    exact iteF ⟨_, rfl, q H1 s1⟩
theorem ok_read_thing (T : Txt K mg) : Cl P w K mg base 3 "read_thing" ["word"] spReadThing := by
  have C_is_number := ok_is_number (P := P) (w := w) (base := base) T
  have C_read_name := ok_read_name (P := P) (w := w) (base := base) T
  refine Cl.of T.d_read_thing sc_read_thing (fun vs H Q E h => ?_) (fun _ _ _ _ _ _ us hl => by obtain ⟨a, rfl⟩ := len1 hl; rfl) (fun f cdv A outer s H vs Q E hr h => ?_)
  · obtain ⟨x, rfl, _⟩ := h
    rfl
  · obtain ⟨t, rfl, hok, q⟩ := h
    refine ⟨_, (pss_cons (ps_if (pt_val (pe_fn C_is_number hr (by rfl) (pa_cons (pv 0) pa_nil)))
        (pss_one (ps_ret (pe_callTy call_int_text (by rfl) T.n_int boot_int (pa_cons (pv 0) pa_nil)))) pss_nil)
      (pss_one (ps_ret (pe_fn C_read_name hr (by rfl) (pa_cons (pv 0) pa_nil))))), ?_⟩
    refine ⟨_, rfl, _, rfl, (by have := hok.word.len; omega), fun H1 s1 => ⟨_, rfl, ?_⟩⟩
    cases t with
    | num n =>
      rw [num_isNum hok]
      exact iteT ⟨_, rfl, _, n, rfl, (num_reads hok).1, (num_reads hok).2, q H1 s1⟩
    | nam x =>
      rw [show isNumL (thS (.nam x)).cps.toList = false from name_notNum hok]
      exact iteF ⟨_, rfl, x, rfl, hok, fun H2 s2 => q H2 (s1.trans s2)⟩
theorem ok_read_sign (T : Txt K mg) : Cl P w K mg base 1 "read_sign" ["word"] spReadSign := by
  refine Cl.of T.d_read_sign sc_read_sign (fun vs H Q E h => ?_) (fun _ _ _ _ _ _ us hl => by obtain ⟨a, rfl⟩ := len1 hl; rfl) (fun f cdv A outer s H vs Q E hr h => ?_)
  · obtain ⟨x, rfl, _⟩ := h
    rfl
  · obtain ⟨z, rfl, hz, q⟩ := h
    refine ⟨_, (pss_cons (ps_if (pt_cmpR op_eq (pv 0) pe_str (nomark _))
        (pss_one (ps_ret pe_int)) pss_nil)
      (pss_cons (ps_if (pt_cmpR op_eq (pv 0) pe_str (nomark _))
        (pss_one (ps_ret (pe_un un_neg pe_int))) pss_nil)
      (pss_one ps_never))), ?_⟩
    rcases hz with rfl | rfl
    · exact ⟨_, rfl, rfl, _, rfl, iteSE q⟩
    · exact ⟨_, rfl, rfl, _, rfl, iteSN (x := "-") (by decide +kernel) ⟨_, rfl, rfl, _, rfl, iteSE ⟨_, rfl, q⟩⟩⟩
theorem ok_read_only_name (T : Txt K mg) : Cl P w K mg base 3 "read_only_name" ["words"] spReadOnly := by
  have C_read_name := ok_read_name (P := P) (w := w) (base := base) T
  refine Cl.of T.d_read_only_name sc_read_only_name (fun vs H Q E h => ?_) (fun _ _ _ _ _ _ us hl => by obtain ⟨a, rfl⟩ := len1 hl; rfl) (fun f cdv A outer s H vs Q E hr h => ?_)
  · obtain ⟨l, x, rfl, _⟩ := h
    rfl
  · obtain ⟨l, x, rfl, hl, hn, q⟩ := h
    refine ⟨_, (pss_cons (ps_if (pt_cmpR op_ne (pe_callB call_len_seq (by rfl) T.n_len PySem.boot_len (pa_cons (pv 0) pa_nil)) pe_int (nomark _))
        (pss_one ps_never) pss_nil)
      (pss_one (ps_ret (pe_fn C_read_name hr (by rfl) (pa_cons (pe_ix ix_list (pv 0) pe_int (fun _ _ => rfl)) pa_nil))))), ?_⟩
    exact ⟨_, rfl, l, _, rfl, .inl (SqL.of hl), rfl, _, rfl, iteNS rfl ⟨_, rfl, l, _, _, _, rfl, rfl, SqL.of hl, atI_nat (j := 0) rfl, x, rfl, hn, q⟩⟩
theorem ok_read_pair (T : Txt K mg) : Cl P w K mg base 3 "read_pair" ["words"] spReadPair := by
  have C_read_name := ok_read_name (P := P) (w := w) (base := base) T
  refine Cl.of T.d_read_pair sc_read_pair (fun vs H Q E h => ?_) (fun _ _ _ _ _ _ us hl => by obtain ⟨a, rfl⟩ := len1 hl; rfl) (fun f cdv A outer s H vs Q E hr h => ?_)
  · obtain ⟨l, g, o, rfl, _⟩ := h
    rfl
  · obtain ⟨l, g, o, rfl, hl, hg, ho, q⟩ := h
    refine ⟨_, (pss_cons (ps_if (PW.pt (pw_or (pt_cmpR op_ne (pe_callB call_len_seq (by rfl) T.n_len PySem.boot_len (pa_cons (pv 0) pa_nil)) pe_int (nomark _)) (pw_or1 (pt_cmpR op_ne (pe_ix ix_list (pv 0) pe_int (fun _ _ => rfl)) pe_str (nomark _)))))
        (pss_one ps_never) pss_nil)
      (pss_one (ps_ret (pe_tup (pa_cons (pe_fn C_read_name hr (by rfl) (pa_cons (pe_ix ix_list (pv 0) pe_int (fun _ _ => rfl)) pa_nil)) (pa_cons (pe_fn C_read_name hr (by rfl) (pa_cons (pe_ix ix_list (pv 0) pe_int (fun _ _ => rfl)) pa_nil)) pa_nil)))))), ?_⟩
    refine ⟨_, rfl, l, _, rfl, .inl (SqL.of hl), rfl, _, rfl, iteNS rfl ⟨_, rfl, l, _, _, _, rfl, rfl, SqL.of hl, atI_nat (j := 1) rfl, rfl, _, rfl, iteNS rfl ?_⟩⟩
    refine ⟨_, rfl, l, _, _, _, rfl, rfl, SqL.of hl, atI_nat (j := 0) rfl, g, rfl, hg, fun H1 s1 => ?_⟩
    refine ⟨_, rfl, l, _, _, _, rfl, rfl, SqL.of (s1 _ _ hl), atI_nat (j := 2) rfl, o, rfl, ho, fun H2 s2 => ⟨(by show 2 ≤ sizeLine; decide), fun p hp => ?_⟩⟩
    exact q p _ ((s1.trans s2).new hp) upd_same
theorem atI_m2 {α : Type} (us : List α) (a b : α) : atI (us ++ [a, b]) (-2) = some a := by
  have h : (us ++ [a, b]).length = us.length + 2 := by simp
  unfold atI ixN
  rw [h, if_neg (by omega), if_pos (by omega)]
  show (us ++ [a, b])[((-2 : Int) + ((us.length + 2 : Nat) : Int)).toNat]? = some a
  rw [show ((-2 : Int) + ((us.length + 2 : Nat) : Int)).toNat = us.length by omega]
  simp
theorem ok_has_when (T : Txt K mg) : Cl P w K mg base 1 "has_when" ["words"] spHasWhen := by
  refine Cl.of T.d_has_when sc_has_when (fun vs H Q E h => ?_) (fun _ _ _ _ _ _ us hl => by obtain ⟨a, rfl⟩ := len1 hl; rfl) (fun f cdv A outer s H vs Q E hr h => ?_)
  · obtain ⟨l, ws, rfl, _⟩ := h
    rfl
  · obtain ⟨l, ws, rfl, hl, q⟩ := h
    refine ⟨_, (pss_one (ps_ret (pe_and (pe_cmpR op_gt (pe_callB call_len_seq (by rfl) T.n_len PySem.boot_len (pa_cons (pv 0) pa_nil)) pe_int (nomark _)) (pe_one (pe_cmpR op_eq (pe_ix ix_list (pv 0) (pe_un un_neg pe_int) (fun _ _ => rfl)) pe_str (nomark _)))))), ?_⟩
    refine ⟨_, rfl, l, _, rfl, .inl (SqL.of hl), _, _, rfl, rfl, _, rfl, ?_⟩
    rcases q with ⟨us, z, rfl, hne, q⟩ | ⟨h2, q⟩ | ⟨us, a, b, rfl, hne, hab, q⟩
    · have h3 : 1 ≤ us.length := by cases us with | nil => exact absurd rfl hne | cons _ _ => simp
      rw [List.map_append] at hl
      refine iteDP (by simp; omega) ⟨_, rfl, _, rfl, l, _, _, _, rfl, rfl, SqL.of hl, atI_m2 .., rfl, ?_⟩
      rw [decide_eq_true rfl]
      exact q
    · exact iteDN (by simp; omega) q
    · have h3 : 1 ≤ us.length := by cases us with | nil => exact absurd rfl hne | cons _ _ => simp
      rw [List.map_append] at hl
      refine iteDP (by simp; omega) ⟨_, rfl, _, rfl, l, _, _, _, rfl, rfl, SqL.of hl, atI_m2 .., rfl, ?_⟩
      rw [decide_eq_false fun e => hab (V.str.inj e)]
      exact q
theorem tailW_get : ∀ (ts : List (Int × Th)) (i : Nat) (p : Int × Th), ts[i]? = some p → (tailW ts)[2 * i]? = some (sgS p.1) ∧ (tailW ts)[2 * i + 1]? = some (thS p.2)
  | [], i, p, h => by simp at h
  | (s, t) :: r, 0, p, h => by
    have e : (s, t) = p := by simpa using h
    subst e
    exact ⟨rfl, rfl⟩
  | (s, t) :: r, i + 1, p, h => by
    obtain ⟨h1, h2⟩ := tailW_get r i p (by simpa using h)
    show (sgS s :: thS t :: tailW r)[2 * (i + 1)]? = _ ∧ (sgS s :: thS t :: tailW r)[2 * (i + 1) + 1]? = _
    rw [show 2 * (i + 1) = 2 * i + 1 + 1 by omega]
    simp only [List.getElem?_cons_succ]
    exact ⟨h1, h2⟩
theorem sumW_get {ts : List (Int × Th)} {i : Nat} {p : Int × Th} (h : ts[i + 1]? = some p) : (sumW ts)[2 * i + 1]? = some (sgS p.1) ∧ (sumW ts)[2 * i + 2]? = some (thS p.2) := by
  cases ts with
  | nil => simp at h
  | cons q r =>
    obtain ⟨h1, h2⟩ := tailW_get r i p (by simpa using h)
    show (thS q.2 :: tailW r)[2 * i + 1]? = _ ∧ (thS q.2 :: tailW r)[2 * i + 2]? = _
    simp only [List.getElem?_cons_succ]
    exact ⟨h1, h2⟩
theorem for_range3 {lo c : Int} {n : Nat} {g : TG} {tb : TS} {D : Ends} {σ : L2.St} {H : Hp} (Pv : Nat → L2.St → Hp → Prop) (h0 : Pv 0 σ H)
    (hs : ∀ i σ H, i < n → Pv i σ H → g (.int (lo + i * c)) σ H fun σ2 H2 => tb { D with nx := Pv (i + 1), ct := Pv (i + 1), bk := D.nx } σ2 H2) (hd : ∀ σ H, Pv n σ H → D.nx σ H) :
    ∃ W : Nat → Nat → L2.St → Hp → Prop, (∃ m, W 0 m σ H) ∧ ∀ i m σ H, W i m σ H →
      ((Itr3 lo c n).stop i H ∧ D.nx σ H) ∨ ((Itr3 lo c n).go i H ∧ ∃ N : L2.St → Hp → Prop, (∀ σ' H', N σ' H' → ∃ m', m' < m ∧ W (i + 1) m' σ' H') ∧ ∀ x H', (Itr3 lo c n).yld i H x H' → g x σ H' fun σ2 H2 => tb { D with nx := N, ct := N, bk := D.nx } σ2 H2) := by
  refine ⟨fun i m σ H => m = n - i ∧ i ≤ n ∧ Pv i σ H, ⟨n, by simp, Nat.zero_le _, h0⟩, ?_⟩
  rintro i m σ H ⟨rfl, hi, p⟩
  by_cases hlt : i < n
  · refine .inr ⟨hlt, Pv (i + 1), fun σ' H' p' => ⟨n - (i + 1), by omega, rfl, hlt, p'⟩, fun x H' y => ?_⟩
    obtain ⟨e, y⟩ := y
    subst e y
    exact hs i σ _ hlt p
  · have e : i = n := by omega
    subst e
    exact .inl ⟨Nat.le_refl _, hd σ H p⟩
theorem rsize {n c : Nat} (hc : 0 < c) : (Builtin.Range.rangeSize 1 ((c * n + 1 : Nat) : Int) (c : Int)).toNat = n := by
  unfold Builtin.Range.rangeSize
  rw [if_pos (by omega)]
  by_cases hn : n = 0
  · subst hn
    rw [if_neg (by simp)]
    rfl
  · have h1 : 1 ≤ c * n := Nat.mul_pos hc (by omega)
    rw [if_pos (by omega)]
    have : (((c * n + 1 : Nat) : Int) - 1 - 1) / (c : Int) = ((n - 1 : Nat) : Int) := by
      have e : ((c * n + 1 : Nat) : Int) - 1 - 1 = ((c * (n - 1) + (c - 1) : Nat) : Int) := by
        have : c * n = c * (n - 1) + c := by
          rw [← Nat.mul_succ]
          congr 1
          omega
        omega
      rw [e, ← Int.natCast_ediv]
      congr 1
      rw [Nat.mul_add_div hc, Nat.div_eq_of_lt (by omega)]
      omega
    rw [this]
    omega
theorem ok_read_sum (T : Txt K mg) : Cl P w K mg base 4 "read_sum" ["words"] spReadSum := by
  have C_read_thing := ok_read_thing (P := P) (w := w) (base := base) T
  have C_read_sign := ok_read_sign (P := P) (w := w) (base := base) T
  refine Cl.of T.d_read_sum sc_read_sum (fun vs H Q E h => ?_) (fun _ _ _ _ _ _ us hl => by obtain ⟨a, rfl⟩ := len1 hl; rfl) (fun f cdv A outer s H vs Q E hr h => ?_)
  · obtain ⟨l, ts, rfl, _⟩ := h
    rfl
  · obtain ⟨l, ts, rfl, hl, hok, q⟩ := h
    have hlen := sumW_len hok.lo
    have hlo := hok.lo
    have hhi := hok.hi
    refine ⟨_, (pss_cons (ps_if (PW.pt (pw_or (pt_cmpR op_ne (pe_op op_mod (pe_callB call_len_seq (by rfl) T.n_len PySem.boot_len (pa_cons (pv 0) pa_nil)) pe_int) pe_int (nomark _)) (pw_or1 (pt_cmpR op_gt (pe_callB call_len_seq (by rfl) T.n_len PySem.boot_len (pa_cons (pv 0) pa_nil)) (pe_op op_sub (pe_op op_mul pe_int (pe_globS T.g_MOST_TERMS (by rfl))) pe_int) (nomark _)))))
        (pss_one ps_never) pss_nil)
      (pss_cons (ps_set (i := 1) sc_read_sum.nd rfl (Or.inl rfl) (pe_lst (pa_cons (pe_tup (pa_cons pe_int (pa_cons (pe_fn C_read_thing hr (by rfl) (pa_cons (pe_ix ix_list (pv 0) pe_int (fun _ _ => rfl)) pa_nil)) pa_nil))) pa_nil)))
      (pss_cons (ps_for PassesOwn.never rfl (pi_range3 (by rfl) T.n_range (pa_cons pe_int (pa_cons (pe_callB call_len_seq (by rfl) T.n_len PySem.boot_len (pa_cons (pv 0) pa_nil)) (pa_cons pe_int pa_nil)))) (pg_name (i := 2) sc_read_sum.nd rfl (Or.inl rfl))
        (pss_one (ps_expr (pe_bm PySem.F.plainAttrs_list PySem.F.slot_list_append PySem.F.type_list_append mt_append (pv 1) (pa_cons (pe_tup (pa_cons (pe_fn C_read_sign hr (by rfl) (pa_cons (pe_ix ix_list (pv 0) (pv 2) (fun _ _ => rfl)) pa_nil)) (pa_cons (pe_fn C_read_thing hr (by rfl) (pa_cons (pe_ix ix_list (pv 0) (pe_op op_add (pv 2) pe_int) (fun _ _ => rfl)) pa_nil)) pa_nil))) pa_nil)))))
      (pss_one (ps_ret (pe_callTy call_tuple_of (by rfl) T.n_tuple boot_tuple (pa_cons (pv 1) pa_nil))))))), ?_⟩
    refine ⟨_, rfl, l, _, rfl, .inl (SqL.of hl), _, _, rfl, rfl, (by show (0 : Int) < 2; decide), rfl, _, rfl, ?_⟩
    rw [List.length_map]
    refine iteNS (show V.int (((sumW ts).length : Int) % 2) = V.int 1 from congrArg V.int (by omega)) ?_
    refine ⟨_, rfl, l, _, rfl, .inl (SqL.of hl), _, _, rfl, rfl, .inl ⟨by decide, by decide⟩, _, _, rfl, rfl, _, _, rfl, rfl, _, rfl, ?_⟩
    rw [List.length_map]
    refine iteDN (by omega) ?_
    obtain ⟨p0, r0, ets⟩ : ∃ p r, ts = p :: r := by
      cases ts with
      | nil => simp at hlo
      | cons p r => exact ⟨p, r, rfl⟩
    have h0 : (sumW ts)[0]? = some (thS p0.2) := by rw [ets]; rfl
    have hp0 : p0.1 = 1 := hok.hd p0 (by rw [ets]; rfl)
    have hth0 : ThOk p0.2 := hok.th p0 (by rw [ets]; exact List.mem_cons_self)
    refine ⟨_, rfl, l, _, _, _, rfl, rfl, SqL.of hl, atI_nat (j := 0) (v := .str (thS p0.2)) (by rw [List.getElem?_map, h0]; rfl), p0.2, rfl, hth0, fun H1 s1 => ⟨(by show 2 ≤ sizeLine; decide), fun a ha => ⟨(by show 1 ≤ sizeLine; decide), fun d hd => ?_⟩⟩⟩
    have s2 := (s1.new (o := .tup [.int 1, thV p0.2]) ha).new (o := .lst [.ref a]) hd
    have hd0 : H d = none := (s1.new ha).free hd
    have e1 : ts.take 1 = [p0] := by rw [ets]; rfl
    refine ⟨_, rfl, l, _, rfl, .inl (SqL.of (s2 _ _ hl)), 1, _, 2, rfl, ⟨by decide, by decide, by rw [List.length_map]; omega, by rw [List.length_map]; omega, by decide, by decide⟩, ?_⟩
    have hn : (Builtin.Range.rangeSize 1 (((sumW ts).map V.str).length : Int) 2).toNat = ts.length - 1 := by
      rw [List.length_map, show (sumW ts).length = 2 * (ts.length - 1) + 1 by omega]
      exact rsize (c := 2) (by decide)
    rw [hn]
    refine for_range3 (fun i σ H2 => ∃ (vs : List V) (v2 : Option V), σ = [some (.ref l), some (.ref d), v2] ∧ Same H H2 ∧ H2 d = some (.lst vs) ∧ Terms H2 vs (ts.take (i + 1)))
      ⟨[.ref a], none, rfl, s2, upd_same, ?_⟩ ?_ ?_
    · rw [e1]
      refine .cons ⟨a, rfl, ?_, hth0⟩ .nil
      rw [hp0]
      exact upd_keep upd_same hd
    · rintro i σ H2 hi ⟨vs, v2, rfl, s3, hd3, ht⟩
      obtain ⟨p, hp⟩ : ∃ p, ts[i + 1]? = some p := ⟨ts[i + 1], by simp⟩
      have hpm := List.mem_of_getElem? hp
      obtain ⟨g1, g2⟩ := sumW_get hp
      have hvl : vs.length = i + 1 := by rw [Paired.length ht, List.length_take]; omega
      refine ⟨_, rfl, .inl ⟨rfl, _, SqL.of hd3⟩, _, rfl, _, rfl, l, _, _, _, rfl, rfl, SqL.of (s3 _ _ hl), ?_, p.1, rfl, hok.sg p hpm, ?_⟩
      · rw [show (1 : Int) + i * 2 = ((2 * i + 1 : Nat) : Int) by omega]
        exact atI_nat (by rw [List.getElem?_map, g1]; try rfl)
      refine ⟨_, rfl, _, rfl, _, _, rfl, rfl, l, _, _, _, rfl, rfl, SqL.of (s3 _ _ hl), ?_, p.2, rfl, hok.th p hpm, fun H4 s4 => ?_⟩
      · rw [show (1 : Int) + i * 2 + 1 = ((2 * i + 2 : Nat) : Int) by omega]
        exact atI_nat (by rw [List.getElem?_map, g2]; try rfl)
      refine ⟨(by show 2 ≤ sizeLine; decide), fun b hb => ⟨d, _, _, rfl, rfl, upd_keep (s4 _ _ hd3) hb, small1000 (by omega), ?_⟩⟩
      refine ⟨vs ++ [.ref b], _, rfl, ((s3.trans s4).new hb).put hd0, upd_same, ?_⟩
      rw [take_succ_get hp]
      refine Paired.snoc (((Terms.mono s4.tups ht).mono (Tups.new hb)).mono (Tups.lst (upd_keep (s4 _ _ hd3) hb))) ⟨b, rfl, ?_, hok.th p hpm⟩
      rw [upd_ne (ne_of_none (s4 _ _ hd3) hb).symm]
      exact upd_same
    · rintro σ H2 ⟨vs, v2, rfl, s3, hd3, ht⟩
      refine ⟨_, rfl, d, _, rfl, .inl ⟨SqL.of hd3, fun t gt => ?_⟩⟩
      refine q t _ (s3.new gt) ⟨⟨vs, upd_same, ?_⟩, hlo, hhi⟩
      rw [show ts.length - 1 + 1 = ts.length by omega, List.take_length] at ht
      exact ht.mono (Tups.new gt)
theorem cut_from (xs : List V) (k : Nat) (hk : k ≤ xs.length) : cutV xs (some (k : Int)) none = xs.drop k := by
  unfold cutV
  rw [HT.sIx_none, HT.sIx_nat, Nat.min_eq_left hk, List.take_of_length_le (by simp)]
theorem cut_mid (xs : List V) (i j : Nat) (hij : i ≤ j) (hj : j ≤ xs.length) : cutV xs (some (i : Int)) (some (j : Int)) = (xs.drop i).take (j - i) := by
  unfold cutV
  rw [HT.sIx_nat, HT.sIx_nat, Nat.min_eq_left hj, Nat.min_eq_left (Nat.le_trans hij hj)]
theorem cut_m2 (us : List V) (a b : V) : cutV (us ++ [a, b]) none (some (-2)) = us := by
  unfold cutV
  rw [HT.sIx_none]
  have e : HT.sIx (us ++ [a, b]).length (us ++ [a, b]).length (some (-2)) = us.length := by
    unfold HT.sIx
    simp only [List.length_append, List.length_cons, List.length_nil]
    split <;> omega
  rw [e]
  simp
theorem ok_read_set (T : Txt K mg) : Cl P w K mg base 5 "read_set" ["words"] spReadSet := by
  have C_read_name := ok_read_name (P := P) (w := w) (base := base) T
  have C_read_sum := ok_read_sum (P := P) (w := w) (base := base) T
  refine Cl.of T.d_read_set sc_read_set (fun vs H Q E h => ?_) (fun _ _ _ _ _ _ us hl => by obtain ⟨a, rfl⟩ := len1 hl; rfl) (fun f cdv A outer s H vs Q E hr h => ?_)
  · obtain ⟨l, o, ts, rfl, _⟩ := h
    rfl
  · obtain ⟨l, o, ts, rfl, hl, ⟨ho, hok⟩, q⟩ := h
    have hlen := sumW_len hok.lo
    have hlo := hok.lo
    refine ⟨_, (pss_cons (ps_if (PW.pt (pw_or (pt_cmpR op_lt (pe_callB call_len_seq (by rfl) T.n_len PySem.boot_len (pa_cons (pv 0) pa_nil)) pe_int (nomark _)) (pw_or1 (pt_cmpR op_ne (pe_ix ix_list (pv 0) pe_int (fun _ _ => rfl)) pe_str (nomark _)))))
        (pss_one ps_never) pss_nil)
      (pss_one (ps_ret (pe_tup (pa_cons pe_str (pa_cons (pe_fn C_read_name hr (by rfl) (pa_cons (pe_ix ix_list (pv 0) pe_int (fun _ _ => rfl)) pa_nil)) (pa_cons (pe_fn C_read_sum hr (by rfl) (pa_cons (pe_slice sl_list (pv 0) (po_some pe_int) po_none) pa_nil)) pa_nil))))))), ?_⟩
    refine ⟨_, rfl, l, _, rfl, .inl (SqL.of hl), _, _, rfl, rfl, _, rfl, ?_⟩
    refine iteDN (by simp only [List.length_map, List.length_cons]; omega) ?_
    refine ⟨_, rfl, l, _, _, _, rfl, rfl, SqL.of hl, atI_nat (j := 1) (v := .str "=") rfl, rfl, _, rfl, iteNS rfl ?_⟩
    refine ⟨_, rfl, l, _, _, _, rfl, rfl, SqL.of hl, atI_nat (j := 0) (v := .str o) rfl, o, rfl, ho, fun H1 s1 => ?_⟩
    refine ⟨_, rfl, _, rfl, l, _, rfl, SqL.of (s1 _ _ hl), fun d hd => ?_⟩
    refine ⟨d, ts, rfl, ?_, hok, fun t H2 s2 ht => ⟨(by show 3 ≤ sizeLine; decide), fun r hr => ?_⟩⟩
    · rw [upd_same]
      exact congrArg (fun z => some (HO.lst z)) (cut_from ((o :: "=" :: sumW ts).map V.str) 2 (by simp))
    · exact q r _ (((s1.new hd).trans s2).new hr) ⟨t, upd_same, ht.mono (Tups.new hr)⟩
theorem sumW_two {ts : List (Int × Th)} (h : 2 ≤ ts.length) : ∃ (us : List Str) (p : Int × Th), sumW ts = us ++ [sgS p.1, thS p.2] ∧ us ≠ [] := by
  obtain ⟨us, p, rfl⟩ : ∃ us p, ts = us ++ [p] := ⟨ts.dropLast, ts.getLast (by intro z; rw [z] at h; simp at h), (List.dropLast_concat_getLast _).symm⟩
  have hu : us ≠ [] := by rintro rfl; simp at h
  refine ⟨sumW us, p, sumW_snoc p.1 p.2 hu, ?_⟩
  cases us with
  | nil => exact absurd rfl hu
  | cons a b => intro z; cases z
theorem sgS_when (z : Int) : sgS z ≠ "when" := by
  unfold sgS
  split
  · decide +kernel
  · decide +kernel
theorem ok_read_say (T : Txt K mg) : Cl P w K mg base 5 "read_say" ["words"] spReadSay := by
  have C_has_when := ok_has_when (P := P) (w := w) (base := base) T
  have C_read_name := ok_read_name (P := P) (w := w) (base := base) T
  have C_read_sum := ok_read_sum (P := P) (w := w) (base := base) T
  refine Cl.of T.d_read_say sc_read_say (fun vs H Q E h => ?_) (fun _ _ _ _ _ _ us hl => by obtain ⟨a, rfl⟩ := len1 hl; rfl) (fun f cdv A outer s H vs Q E hr h => ?_)
  · obtain ⟨l, ts, z, rfl, _⟩ := h
    rfl
  · obtain ⟨l, ts, z, rfl, hl, ⟨hok, hz⟩, q⟩ := h
    have hlen := sumW_len hok.lo
    have hlo := hok.lo
    have hne : sumW ts ≠ [] := by intro e; rw [e] at hlen; simp at hlen; omega
    refine ⟨_, (pss_cons (ps_if (pt_val (pe_fn C_has_when hr (by rfl) (pa_cons (pv 0) pa_nil)))
        (pss_one (ps_ret (pe_tup (pa_cons pe_str (pa_cons (pe_fn C_read_sum hr (by rfl) (pa_cons (pe_slice sl_list (pv 0) po_none (po_some (pe_un un_neg pe_int))) pa_nil)) (pa_cons (pe_fn C_read_name hr (by rfl) (pa_cons (pe_ix ix_list (pv 0) (pe_un un_neg pe_int) (fun _ _ => rfl)) pa_nil)) pa_nil)))))) pss_nil)
      (pss_one (ps_ret (pe_tup (pa_cons pe_str (pa_cons (pe_fn C_read_sum hr (by rfl) (pa_cons (pv 0) pa_nil)) (pa_cons pe_non pa_nil))))))), ?_⟩
    cases z with
    | some x =>
      refine ⟨_, rfl, l, _, rfl, hl, .inl ⟨sumW ts, x, rfl, hne, ⟨_, rfl, iteT ?_⟩⟩⟩
      have hl' : H l = some (.lst ((sumW ts).map V.str ++ [V.str "when", V.str x])) := by rw [hl, List.map_append]; rfl
      refine ⟨_, rfl, _, rfl, _, rfl, l, _, rfl, SqL.of hl', fun d hd => ⟨d, ts, rfl, (by rw [upd_same]; exact congrArg (fun z => some (HO.lst z)) (cut_m2 ..)), hok, fun t H2 s2 ht => ?_⟩⟩
      have s3 := ((Same.refl H).new (o := .lst (cutV ((sumW ts).map V.str ++ [V.str "when", V.str x]) none (some (-2)))) hd).trans s2
      refine ⟨_, rfl, _, rfl, l, _, _, _, rfl, rfl, SqL.of (s3 _ _ hl'), (by rw [show (sumW ts).map V.str ++ [V.str "when", V.str x] = ((sumW ts).map V.str ++ [V.str "when"]) ++ [V.str x] by simp]; exact atI_last ..), x, rfl, hz x rfl, fun H4 s4 => ⟨(by show 3 ≤ sizeLine; decide), fun r hr => ?_⟩⟩
      exact q r _ ((s3.trans s4).new hr) ⟨t, upd_same, (ht.mono s4.tups).mono (Tups.new hr)⟩
    | none =>
      have hl' : H l = some (.lst ((sumW ts).map V.str)) := by rw [hl]; simp [whenW]
      have fin : ∃ (l' : Addr) (ts' : List (Int × Th)), ([V.ref l] : List V) = [.ref l'] ∧ H l' = some (.lst ((sumW ts').map V.str)) ∧ SumOk ts' ∧ ∀ (t : Addr) (H' : Hp), Same H H' → TermsAt H' t ts' → 3 ≤ sizeLine ∧ ∀ p, H' p = none → Q (.ref p) (upd H' p (.tup [.str "say", .ref t, .non])) :=
        ⟨l, ts, rfl, hl', hok, fun t H2 s2 ht => ⟨by decide, fun r hr => q r _ (s2.new hr) ⟨t, upd_same, ht.mono (Tups.new hr)⟩⟩⟩
      by_cases h1 : ts.length = 1
      · exact ⟨_, rfl, l, _, rfl, hl', .inr (.inl ⟨by omega, _, rfl, iteF ⟨_, rfl, fin⟩⟩)⟩
      · obtain ⟨us, p, e, hu⟩ := sumW_two (ts := ts) (by omega)
        exact ⟨_, rfl, l, _, rfl, hl', .inr (.inr ⟨us, _, _, e, hu, sgS_when _, _, rfl, iteF ⟨_, rfl, fin⟩⟩)⟩
theorem ok_read_ask (T : Txt K mg) : Cl P w K mg base 4 "read_ask" ["words"] spReadAsk := by
  have C_has_when := ok_has_when (P := P) (w := w) (base := base) T
  have C_read_name := ok_read_name (P := P) (w := w) (base := base) T
  have C_read_only_name := ok_read_only_name (P := P) (w := w) (base := base) T
  refine Cl.of T.d_read_ask sc_read_ask (fun vs H Q E h => ?_) (fun _ _ _ _ _ _ us hl => by obtain ⟨a, rfl⟩ := len1 hl; rfl) (fun f cdv A outer s H vs Q E hr h => ?_)
  · obtain ⟨l, p, z, rfl, _⟩ := h
    rfl
  · obtain ⟨l, p, z, rfl, hl, ⟨hp, hz⟩, q⟩ := h
    refine ⟨_, (pss_cons (ps_if (pt_val (pe_fn C_has_when hr (by rfl) (pa_cons (pv 0) pa_nil)))
        (pss_one (ps_ret (pe_tup (pa_cons pe_str (pa_cons (pe_fn C_read_only_name hr (by rfl) (pa_cons (pe_slice sl_list (pv 0) po_none (po_some (pe_un un_neg pe_int))) pa_nil)) (pa_cons (pe_fn C_read_name hr (by rfl) (pa_cons (pe_ix ix_list (pv 0) (pe_un un_neg pe_int) (fun _ _ => rfl)) pa_nil)) pa_nil)))))) pss_nil)
      (pss_one (ps_ret (pe_tup (pa_cons pe_str (pa_cons (pe_fn C_read_only_name hr (by rfl) (pa_cons (pv 0) pa_nil)) (pa_cons pe_non pa_nil))))))), ?_⟩
    cases z with
    | some x =>
      refine ⟨_, rfl, l, [p, "when", x], rfl, hl, .inl ⟨[p], x, rfl, by simp, ⟨_, rfl, iteT ?_⟩⟩⟩
      have hl' : H l = some (.lst ([V.str p] ++ [V.str "when", V.str x])) := hl
      refine ⟨_, rfl, _, rfl, _, rfl, l, _, rfl, SqL.of hl', fun d hd => ⟨d, p, rfl, (by rw [upd_same]; exact congrArg (fun z => some (HO.lst z)) (cut_m2 ..)), hp, fun H2 s2 => ?_⟩⟩
      have s3 := ((Same.refl H).new (o := .lst (cutV ([V.str p] ++ [V.str "when", V.str x]) none (some (-2)))) hd).trans s2
      refine ⟨_, rfl, _, rfl, l, _, _, _, rfl, rfl, SqL.of (s3 _ _ hl'), (atI_last [V.str p, V.str "when"] (V.str x)), x, rfl, hz x rfl, fun H4 s4 => ⟨(by show 3 ≤ sizeLine; decide), fun r hr => ?_⟩⟩
      exact q r _ ((s3.trans s4).new hr) upd_same
    | none =>
      refine ⟨_, rfl, l, [p], rfl, hl, .inr (.inl ⟨by simp, _, rfl, iteF ⟨_, rfl, l, p, rfl, hl, hp, fun H2 s2 => ⟨(by show 3 ≤ sizeLine; decide), fun r hr => ?_⟩⟩⟩)⟩
      exact q r _ (s2.new hr) upd_same
theorem pairW_cut : ∀ (ps : List (Str × Str)) (i : Nat) (d : Str × Str), ps[i]? = some d → ((pairW ps).drop (3 * i)).take 3 = [d.1, "as", d.2]
  | [], i, d, h => by simp at h
  | (g, o) :: r, 0, d, h => by
    have e : (g, o) = d := by simpa using h
    subst e
    rfl
  | (g, o) :: r, i + 1, d, h => by
    have ih := pairW_cut r i d (by simpa using h)
    show ((g :: "as" :: o :: pairW r).drop (3 * (i + 1))).take 3 = _
    rw [show 3 * (i + 1) = 3 * i + 1 + 1 + 1 by omega]
    simpa using ih
theorem ok_read_bring (T : Txt K mg) : Cl P w K mg base 4 "read_bring" ["words"] spReadBring := by
  have C_read_name := ok_read_name (P := P) (w := w) (base := base) T
  have C_read_pair := ok_read_pair (P := P) (w := w) (base := base) T
  refine Cl.of T.d_read_bring sc_read_bring (fun vs H Q E h => ?_) (fun _ _ _ _ _ _ us hl => by obtain ⟨a, rfl⟩ := len1 hl; rfl) (fun f cdv A outer s H vs Q E hr h => ?_)
  · obtain ⟨l, p, ps, rfl, _⟩ := h
    rfl
  · obtain ⟨l, p, ps, rfl, hl, ⟨hp, hps, hpn⟩, q⟩ := h
    have hlen : (((p :: pairW ps).map V.str).length : Int) = ((3 * ps.length + 1 : Nat) : Int) := by rw [List.length_map, List.length_cons, pairW_len]
    refine ⟨_, (pss_cons (ps_if (PW.pt (pw_or (pt_cmpR op_ne (pe_op op_mod (pe_callB call_len_seq (by rfl) T.n_len PySem.boot_len (pa_cons (pv 0) pa_nil)) pe_int) pe_int (nomark _)) (pw_or1 (pt_cmpR op_gt (pe_callB call_len_seq (by rfl) T.n_len PySem.boot_len (pa_cons (pv 0) pa_nil)) (pe_op op_add pe_int (pe_op op_mul pe_int (pe_globS T.g_MOST_PAIRS (by rfl)))) (nomark _)))))
        (pss_one ps_never) pss_nil)
      (pss_cons (ps_setC (j := 1) (M := ["k", "words"]) (ρ := [none, some 0]) (defScope s_read_bring) ["words", "pairs"] ⟨rfl, by decide +kernel, by decide +kernel, by decide +kernel, rfl, by decide +kernel, by decide +kernel⟩ sc_read_bring.nd rfl (Or.inl rfl) (pi_range3 (by rfl) T.n_range (pa_cons pe_int (pa_cons (pe_callB call_len_seq (by rfl) T.n_len PySem.boot_len (pa_cons (pv 0) pa_nil)) (pa_cons pe_int pa_nil)))) (fun _ _ _ _ _ _ => (pg_name (i := 0) (show (["k", "words"] : List Str).Nodup by decide +kernel) rfl (Or.inl rfl))) (fun _ _ _ _ _ _ => pts_nil) (fun _ _ _ _ _ _ => (pe_fn C_read_pair hr (by rfl) (pa_cons (pe_slice (sl_listK (K := K) rfl) (pv 1) (po_some (pv 0)) (po_some (pe_op op_add (pv 0) pe_int))) pa_nil))))
      (pss_one (ps_ret (pe_tup (pa_cons pe_str (pa_cons (pe_fn C_read_name hr (by rfl) (pa_cons (pe_ix ix_list (pv 0) pe_int (fun _ _ => rfl)) pa_nil)) (pa_cons (pe_callTy call_tuple_of (by rfl) T.n_tuple boot_tuple (pa_cons (pv 1) pa_nil)) pa_nil)))))))), ?_⟩
    refine ⟨_, rfl, l, _, rfl, .inl (SqL.of hl), _, _, rfl, rfl, (by show (0 : Int) < 3; decide), rfl, _, rfl, ?_⟩
    rw [hlen]
    refine iteNS (show V.int (((3 * ps.length + 1 : Nat) : Int) % 3) = V.int 1 from congrArg V.int (by omega)) ?_
    refine ⟨_, rfl, l, _, rfl, .inl (SqL.of hl), _, _, rfl, rfl, .inl ⟨by decide, by decide⟩, _, _, rfl, rfl, _, _, rfl, rfl, _, rfl, ?_⟩
    rw [hlen]
    refine iteDN (by omega) ?_
    refine ⟨_, rfl, l, _, rfl, .inl (SqL.of hl), 1, _, 3, rfl, ⟨by decide, by decide, by rw [hlen]; omega, by rw [hlen]; omega, by decide, by decide⟩, fun D hD => ?_⟩
    have hn : (Builtin.Range.rangeSize 1 ((3 * ps.length + 1 : Nat) : Int) 3).toNat = ps.length := rsize (c := 3) (by decide)
    rw [hlen, hn]
    refine comp_by ps.length (fun i σ H2 => ∃ (v0 : Option V) (vs : List V), σ = [v0, some (.ref l)] ∧ Same H H2 ∧ H2 D = some (.lst vs) ∧ Pairs H2 vs (ps.take i)) ⟨_, [], rfl, (Same.refl H).new hD, upd_same, .nil⟩ ?_ ?_
    · rintro i σ H2 hi ⟨v0, vs, rfl, s2, hD2, hP⟩
      refine ⟨hi, ?_⟩
      rintro v H3 ⟨rfl, rfl⟩
      refine ntG ?_
      obtain ⟨d, hd⟩ : ∃ d, ps[i]? = some d := ⟨ps[i], by simp⟩
      have hdm := hpn d (List.mem_of_getElem? hd)
      have hvl : vs.length = i := by rw [Paired.length hP, List.length_take]; omega
      refine ⟨_, rfl, _, rfl, _, rfl, _, rfl, _, _, rfl, rfl, _, rfl, l, _, rfl, SqL.of (s2 _ _ hl), fun a ha => ?_⟩
      refine ⟨a, d.1, d.2, rfl, ?_, hdm.1, hdm.2, fun b H4 s4 hb => ?_⟩
      · rw [upd_same, show (1 : Int) + i * 3 = ((3 * i + 1 : Nat) : Int) by omega, show ((3 * i + 1 : Nat) : Int) + 3 = ((3 * i + 4 : Nat) : Int) by omega, cut_mid _ _ _ (by omega) (by rw [List.length_map, List.length_cons, pairW_len]; omega)]
        refine congrArg (fun z => some (HO.lst z)) ?_
        rw [show 3 * i + 4 - (3 * i + 1) = 3 by omega, List.map_cons, List.drop_succ_cons, ← List.map_drop, ← List.map_take, pairW_cut ps i d hd]
        rfl
      · have hD3 := upd_keep (o := .lst (cutV ((p :: pairW ps).map V.str) (some (1 + i * 3)) (some (1 + i * 3 + 3)))) hD2 ha
        have hD4 := s4 _ _ hD3
        refine ⟨vs, hD4, small1000 (by omega), _, vs ++ [.ref b], rfl, ((s2.new ha).trans s4).put hD, upd_same, ?_⟩
        rw [take_succ_get hd]
        refine Paired.snoc (((hP.mono (Tups.new ha)).mono s4.tups).mono (Tups.lst hD4)) ⟨b, rfl, ?_, hdm.1, hdm.2⟩
        rw [upd_ne (ne_of hb hD4 (by intro z; cases z))]
        exact hb
    · rintro σ H2 ⟨v0, vs, rfl, s2, hD2, hP⟩
      refine ⟨Nat.le_refl _, ?_⟩
      rw [List.take_length] at hP
      refine ⟨_, rfl, l, _, _, _, rfl, rfl, SqL.of (s2 _ _ hl), atI_nat (j := 0) (v := .str p) rfl, p, rfl, hp, fun H4 s4 => ?_⟩
      refine ⟨_, rfl, D, _, rfl, .inl ⟨SqL.of (s4 _ _ hD2), fun t gt => ⟨(by show 3 ≤ sizeLine; decide), fun r gr => ?_⟩⟩⟩
      exact q r _ (((s2.trans s4).new gt).new gr) ⟨t, upd_same, ⟨vs, upd_keep upd_same gr, ((hP.mono s4.tups).mono (Tups.new gt)).mono (Tups.new gr)⟩, hps⟩
theorem ok_read_row (T : Txt K mg) : Cl P w K mg base 6 "read_row" ["text"] spReadRow := by
  have C_read_bring := ok_read_bring (P := P) (w := w) (base := base) T
  have C_read_pair := ok_read_pair (P := P) (w := w) (base := base) T
  have C_read_set := ok_read_set (P := P) (w := w) (base := base) T
  have C_read_say := ok_read_say (P := P) (w := w) (base := base) T
  have C_read_sum := ok_read_sum (P := P) (w := w) (base := base) T
  have C_read_ask := ok_read_ask (P := P) (w := w) (base := base) T
  have C_read_only_name := ok_read_only_name (P := P) (w := w) (base := base) T
  refine Cl.of T.d_read_row sc_read_row (fun vs H Q E h => ?_) (fun _ _ _ _ _ _ us hl => by obtain ⟨a, rfl⟩ := len1 hl; rfl) (fun f cdv A outer s H vs Q E hr h => ?_)
  · obtain ⟨rw, rfl, _⟩ := h
    rfl
  · obtain ⟨rw, rfl, hok, q⟩ := h
    have hw := hok.words
    refine ⟨_, (pss_cons (ps_set (i := 1) sc_read_row.nd rfl (Or.inl rfl) (pe_bm PySem.F.plainAttrs_str PySem.F.slot_str_split PySem.F.type_str_split mt_split (pv 0) (pa_cons pe_str pa_nil)))
      (pss_cons (ps_set (i := 2) sc_read_row.nd rfl (Or.inl rfl) (pe_ix ix_list (pv 1) pe_int (fun _ _ => rfl)))
      (pss_cons (ps_set (i := 3) sc_read_row.nd rfl (Or.inl rfl) (pe_slice sl_list (pv 1) (po_some pe_int) po_none))
      (pss_cons (ps_if (pt_cmpR op_eq (pv 2) pe_str (nomark _))
        (pss_one (ps_ret (pe_fn C_read_bring hr (by rfl) (pa_cons (pv 3) pa_nil)))) pss_nil)
      (pss_cons (ps_if (pt_cmpR op_eq (pv 2) pe_str (nomark _))
        (pss_one (ps_ret (pe_op op_catA (pe_tup (pa_cons pe_str pa_nil)) (pe_fn C_read_pair hr (by rfl) (pa_cons (pv 3) pa_nil))))) pss_nil)
      (pss_cons (ps_if (pt_cmpR op_eq (pv 2) pe_str (nomark _))
        (pss_one (ps_ret (pe_fn C_read_set hr (by rfl) (pa_cons (pv 3) pa_nil)))) pss_nil)
      (pss_cons (ps_if (pt_cmpR op_eq (pv 2) pe_str (nomark _))
        (pss_one (ps_ret (pe_fn C_read_say hr (by rfl) (pa_cons (pv 3) pa_nil)))) pss_nil)
      (pss_cons (ps_if (pt_cmpR op_eq (pv 2) pe_str (nomark _))
        (pss_one (ps_ret (pe_tup (pa_cons pe_str (pa_cons (pe_fn C_read_sum hr (by rfl) (pa_cons (pv 3) pa_nil)) pa_nil))))) pss_nil)
      (pss_cons (ps_if (pt_cmpR op_eq (pv 2) pe_str (nomark _))
        (pss_one (ps_ret (pe_fn C_read_ask hr (by rfl) (pa_cons (pv 3) pa_nil)))) pss_nil)
      (pss_cons (ps_if (pt_cmpR op_in_seq (pv 2) (pe_tup (pa_cons pe_str (pa_cons pe_str (pa_cons pe_str pa_nil)))) (by with_unfolding_all rfl))
        (pss_one (ps_ret (pe_tup (pa_cons (pv 2) (pa_cons (pe_fn C_read_only_name hr (by rfl) (pa_cons (pv 3) pa_nil)) pa_nil))))) pss_nil)
      (pss_one ps_never))))))))))), ?_⟩
    refine ⟨_, rfl, rfl, _, _, rfl, rfl, (by decide +kernel), (by have := join_len hw; omega), fun l hl => ?_⟩
    rw [split_words hw]
    cases rw with
    | bring p ps =>
      refine ⟨_, rfl, l, _, _, _, rfl, rfl, SqL.of upd_same, atI_nat (j := 0) (v := .str "bring") rfl, ?_⟩
      refine ⟨_, rfl, _, rfl, l, _, rfl, SqL.of upd_same, fun d hd => ?_⟩
      have s1 := ((Same.refl H).new (o := .lst ((rowW (.bring p ps)).map V.str)) hl).new (o := .lst (cutV ((rowW (.bring p ps)).map V.str) (some 1) none)) hd
      have hd1 : upd (upd H l (.lst ((rowW (.bring p ps)).map V.str))) d (.lst (cutV ((rowW (.bring p ps)).map V.str) (some 1) none)) d = some (.lst ((rowW (.bring p ps)).tail.map V.str)) := by
        rw [upd_same]
        exact congrArg (fun z => some (HO.lst z)) (cut_from _ 1 (by simp [rowW]))
      generalize upd (upd H l (.lst ((rowW (.bring p ps)).map V.str))) d (.lst (cutV ((rowW (.bring p ps)).map V.str) (some 1) none)) = H1 at s1 hd1 ⊢
      refine ⟨_, rfl, rfl, _, rfl, iteSE ?_⟩
      exact ⟨_, rfl, d, p, ps, rfl, hd1, hok, fun r H2 s2 hr => q r H2 (s1.trans s2) hr⟩
    | give o g =>
      refine ⟨_, rfl, l, _, _, _, rfl, rfl, SqL.of upd_same, atI_nat (j := 0) (v := .str "give") rfl, ?_⟩
      refine ⟨_, rfl, _, rfl, l, _, rfl, SqL.of upd_same, fun d hd => ?_⟩
      have s1 := ((Same.refl H).new (o := .lst ((rowW (.give o g)).map V.str)) hl).new (o := .lst (cutV ((rowW (.give o g)).map V.str) (some 1) none)) hd
      have hd1 : upd (upd H l (.lst ((rowW (.give o g)).map V.str))) d (.lst (cutV ((rowW (.give o g)).map V.str) (some 1) none)) d = some (.lst ((rowW (.give o g)).tail.map V.str)) := by
        rw [upd_same]
        exact congrArg (fun z => some (HO.lst z)) (cut_from _ 1 (by simp [rowW]))
      generalize upd (upd H l (.lst ((rowW (.give o g)).map V.str))) d (.lst (cutV ((rowW (.give o g)).map V.str) (some 1) none)) = H1 at s1 hd1 ⊢
      refine ⟨_, rfl, rfl, _, rfl, iteSN (by decide +kernel) ?_⟩
      refine ⟨_, rfl, rfl, _, rfl, iteSE ?_⟩
      refine ⟨(by show 1 ≤ sizeLine; decide), fun a ha => ⟨_, rfl, d, o, g, rfl, upd_keep hd1 ha, hok.1, hok.2, fun b H2 s2 hb => ?_⟩⟩
      exact ⟨a, b, _, _, rfl, rfl, SqT.of (s2 _ _ upd_same), SqT.of hb, (by show 1 + 2 ≤ sizeLine; decide), (fun z => by cases z), (fun _ z => by cases z), fun _ _ r hr => q r _ (((s1.new ha).trans s2).new hr) upd_same⟩
    | set o ts =>
      refine ⟨_, rfl, l, _, _, _, rfl, rfl, SqL.of upd_same, atI_nat (j := 0) (v := .str "set") rfl, ?_⟩
      refine ⟨_, rfl, _, rfl, l, _, rfl, SqL.of upd_same, fun d hd => ?_⟩
      have s1 := ((Same.refl H).new (o := .lst ((rowW (.set o ts)).map V.str)) hl).new (o := .lst (cutV ((rowW (.set o ts)).map V.str) (some 1) none)) hd
      have hd1 : upd (upd H l (.lst ((rowW (.set o ts)).map V.str))) d (.lst (cutV ((rowW (.set o ts)).map V.str) (some 1) none)) d = some (.lst ((rowW (.set o ts)).tail.map V.str)) := by
        rw [upd_same]
        exact congrArg (fun z => some (HO.lst z)) (cut_from _ 1 (by simp [rowW]))
      generalize upd (upd H l (.lst ((rowW (.set o ts)).map V.str))) d (.lst (cutV ((rowW (.set o ts)).map V.str) (some 1) none)) = H1 at s1 hd1 ⊢
      refine ⟨_, rfl, rfl, _, rfl, iteSN (by decide +kernel) ?_⟩
      refine ⟨_, rfl, rfl, _, rfl, iteSN (by decide +kernel) ?_⟩
      refine ⟨_, rfl, rfl, _, rfl, iteSE ?_⟩
      exact ⟨_, rfl, d, o, ts, rfl, hd1, hok, fun r H2 s2 hr => q r H2 (s1.trans s2) hr⟩
    | take o =>
      refine ⟨_, rfl, l, _, _, _, rfl, rfl, SqL.of upd_same, atI_nat (j := 0) (v := .str "take") rfl, ?_⟩
      refine ⟨_, rfl, _, rfl, l, _, rfl, SqL.of upd_same, fun d hd => ?_⟩
      have s1 := ((Same.refl H).new (o := .lst ((rowW (.take o)).map V.str)) hl).new (o := .lst (cutV ((rowW (.take o)).map V.str) (some 1) none)) hd
      have hd1 : upd (upd H l (.lst ((rowW (.take o)).map V.str))) d (.lst (cutV ((rowW (.take o)).map V.str) (some 1) none)) d = some (.lst ((rowW (.take o)).tail.map V.str)) := by
        rw [upd_same]
        exact congrArg (fun z => some (HO.lst z)) (cut_from _ 1 (by simp [rowW]))
      generalize upd (upd H l (.lst ((rowW (.take o)).map V.str))) d (.lst (cutV ((rowW (.take o)).map V.str) (some 1) none)) = H1 at s1 hd1 ⊢
      refine ⟨_, rfl, rfl, _, rfl, iteSN (by decide +kernel) ?_⟩
      refine ⟨_, rfl, rfl, _, rfl, iteSN (by decide +kernel) ?_⟩
      refine ⟨_, rfl, rfl, _, rfl, iteSN (by decide +kernel) ?_⟩
      refine ⟨_, rfl, rfl, _, rfl, iteSN (by decide +kernel) ?_⟩
      refine ⟨_, rfl, rfl, _, rfl, iteSN (by decide +kernel) ?_⟩
      refine ⟨_, rfl, rfl, _, rfl, iteSN (by decide +kernel) ?_⟩
      refine ⟨_, rfl, (by show 3 ≤ sizeLine; decide), fun a ha => ⟨a, _, rfl, .inr (SqT.of upd_same), rfl, rfl, _, rfl, ?_⟩⟩
      rw [show (if false = true then !inV (V.str "take") [V.str "take", V.str "part", V.str "do"] else inV (V.str "take") [V.str "take", V.str "part", V.str "do"]) = true by decide +kernel]
      refine iteT ⟨_, rfl, _, rfl, d, o, rfl, upd_keep hd1 ha, hok, fun H2 s2 => ⟨(by show 2 ≤ sizeLine; decide), fun r hr => ?_⟩⟩
      exact q r _ (((s1.new ha).trans s2).new hr) upd_same
    | say ts z =>
      refine ⟨_, rfl, l, _, _, _, rfl, rfl, SqL.of upd_same, atI_nat (j := 0) (v := .str "say") rfl, ?_⟩
      refine ⟨_, rfl, _, rfl, l, _, rfl, SqL.of upd_same, fun d hd => ?_⟩
      have s1 := ((Same.refl H).new (o := .lst ((rowW (.say ts z)).map V.str)) hl).new (o := .lst (cutV ((rowW (.say ts z)).map V.str) (some 1) none)) hd
      have hd1 : upd (upd H l (.lst ((rowW (.say ts z)).map V.str))) d (.lst (cutV ((rowW (.say ts z)).map V.str) (some 1) none)) d = some (.lst ((rowW (.say ts z)).tail.map V.str)) := by
        rw [upd_same]
        exact congrArg (fun z => some (HO.lst z)) (cut_from _ 1 (by simp [rowW]))
      generalize upd (upd H l (.lst ((rowW (.say ts z)).map V.str))) d (.lst (cutV ((rowW (.say ts z)).map V.str) (some 1) none)) = H1 at s1 hd1 ⊢
      refine ⟨_, rfl, rfl, _, rfl, iteSN (by decide +kernel) ?_⟩
      refine ⟨_, rfl, rfl, _, rfl, iteSN (by decide +kernel) ?_⟩
      refine ⟨_, rfl, rfl, _, rfl, iteSN (by decide +kernel) ?_⟩
      refine ⟨_, rfl, rfl, _, rfl, iteSE ?_⟩
      exact ⟨_, rfl, d, ts, z, rfl, hd1, hok, fun r H2 s2 hr => q r H2 (s1.trans s2) hr⟩
    | need ts =>
      refine ⟨_, rfl, l, _, _, _, rfl, rfl, SqL.of upd_same, atI_nat (j := 0) (v := .str "need") rfl, ?_⟩
      refine ⟨_, rfl, _, rfl, l, _, rfl, SqL.of upd_same, fun d hd => ?_⟩
      have s1 := ((Same.refl H).new (o := .lst ((rowW (.need ts)).map V.str)) hl).new (o := .lst (cutV ((rowW (.need ts)).map V.str) (some 1) none)) hd
      have hd1 : upd (upd H l (.lst ((rowW (.need ts)).map V.str))) d (.lst (cutV ((rowW (.need ts)).map V.str) (some 1) none)) d = some (.lst ((rowW (.need ts)).tail.map V.str)) := by
        rw [upd_same]
        exact congrArg (fun z => some (HO.lst z)) (cut_from _ 1 (by simp [rowW]))
      generalize upd (upd H l (.lst ((rowW (.need ts)).map V.str))) d (.lst (cutV ((rowW (.need ts)).map V.str) (some 1) none)) = H1 at s1 hd1 ⊢
      refine ⟨_, rfl, rfl, _, rfl, iteSN (by decide +kernel) ?_⟩
      refine ⟨_, rfl, rfl, _, rfl, iteSN (by decide +kernel) ?_⟩
      refine ⟨_, rfl, rfl, _, rfl, iteSN (by decide +kernel) ?_⟩
      refine ⟨_, rfl, rfl, _, rfl, iteSN (by decide +kernel) ?_⟩
      refine ⟨_, rfl, rfl, _, rfl, iteSE ?_⟩
      refine ⟨_, rfl, d, ts, rfl, hd1, hok, fun t H2 s2 ht => ⟨(by show 2 ≤ sizeLine; decide), fun r hr => ?_⟩⟩
      exact q r _ ((s1.trans s2).new hr) ⟨t, upd_same, ht.mono (Tups.new hr)⟩
    | ask p z =>
      refine ⟨_, rfl, l, _, _, _, rfl, rfl, SqL.of upd_same, atI_nat (j := 0) (v := .str "ask") rfl, ?_⟩
      refine ⟨_, rfl, _, rfl, l, _, rfl, SqL.of upd_same, fun d hd => ?_⟩
      have s1 := ((Same.refl H).new (o := .lst ((rowW (.ask p z)).map V.str)) hl).new (o := .lst (cutV ((rowW (.ask p z)).map V.str) (some 1) none)) hd
      have hd1 : upd (upd H l (.lst ((rowW (.ask p z)).map V.str))) d (.lst (cutV ((rowW (.ask p z)).map V.str) (some 1) none)) d = some (.lst ((rowW (.ask p z)).tail.map V.str)) := by
        rw [upd_same]
        exact congrArg (fun z => some (HO.lst z)) (cut_from _ 1 (by simp [rowW]))
      generalize upd (upd H l (.lst ((rowW (.ask p z)).map V.str))) d (.lst (cutV ((rowW (.ask p z)).map V.str) (some 1) none)) = H1 at s1 hd1 ⊢
      refine ⟨_, rfl, rfl, _, rfl, iteSN (by decide +kernel) ?_⟩
      refine ⟨_, rfl, rfl, _, rfl, iteSN (by decide +kernel) ?_⟩
      refine ⟨_, rfl, rfl, _, rfl, iteSN (by decide +kernel) ?_⟩
      refine ⟨_, rfl, rfl, _, rfl, iteSN (by decide +kernel) ?_⟩
      refine ⟨_, rfl, rfl, _, rfl, iteSN (by decide +kernel) ?_⟩
      refine ⟨_, rfl, rfl, _, rfl, iteSE ?_⟩
      exact ⟨_, rfl, d, p, z, rfl, hd1, hok, fun r H2 s2 hr => q r H2 (s1.trans s2) hr⟩
    | part o =>
      refine ⟨_, rfl, l, _, _, _, rfl, rfl, SqL.of upd_same, atI_nat (j := 0) (v := .str "part") rfl, ?_⟩
      refine ⟨_, rfl, _, rfl, l, _, rfl, SqL.of upd_same, fun d hd => ?_⟩
      have s1 := ((Same.refl H).new (o := .lst ((rowW (.part o)).map V.str)) hl).new (o := .lst (cutV ((rowW (.part o)).map V.str) (some 1) none)) hd
      have hd1 : upd (upd H l (.lst ((rowW (.part o)).map V.str))) d (.lst (cutV ((rowW (.part o)).map V.str) (some 1) none)) d = some (.lst ((rowW (.part o)).tail.map V.str)) := by
        rw [upd_same]
        exact congrArg (fun z => some (HO.lst z)) (cut_from _ 1 (by simp [rowW]))
      generalize upd (upd H l (.lst ((rowW (.part o)).map V.str))) d (.lst (cutV ((rowW (.part o)).map V.str) (some 1) none)) = H1 at s1 hd1 ⊢
      refine ⟨_, rfl, rfl, _, rfl, iteSN (by decide +kernel) ?_⟩
      refine ⟨_, rfl, rfl, _, rfl, iteSN (by decide +kernel) ?_⟩
      refine ⟨_, rfl, rfl, _, rfl, iteSN (by decide +kernel) ?_⟩
      refine ⟨_, rfl, rfl, _, rfl, iteSN (by decide +kernel) ?_⟩
      refine ⟨_, rfl, rfl, _, rfl, iteSN (by decide +kernel) ?_⟩
      refine ⟨_, rfl, rfl, _, rfl, iteSN (by decide +kernel) ?_⟩
      refine ⟨_, rfl, (by show 3 ≤ sizeLine; decide), fun a ha => ⟨a, _, rfl, .inr (SqT.of upd_same), rfl, rfl, _, rfl, ?_⟩⟩
      rw [show (if false = true then !inV (V.str "part") [V.str "take", V.str "part", V.str "do"] else inV (V.str "part") [V.str "take", V.str "part", V.str "do"]) = true by decide +kernel]
      refine iteT ⟨_, rfl, _, rfl, d, o, rfl, upd_keep hd1 ha, hok, fun H2 s2 => ⟨(by show 2 ≤ sizeLine; decide), fun r hr => ?_⟩⟩
      exact q r _ (((s1.new ha).trans s2).new hr) upd_same
    | doo o =>
      refine ⟨_, rfl, l, _, _, _, rfl, rfl, SqL.of upd_same, atI_nat (j := 0) (v := .str "do") rfl, ?_⟩
      refine ⟨_, rfl, _, rfl, l, _, rfl, SqL.of upd_same, fun d hd => ?_⟩
      have s1 := ((Same.refl H).new (o := .lst ((rowW (.doo o)).map V.str)) hl).new (o := .lst (cutV ((rowW (.doo o)).map V.str) (some 1) none)) hd
      have hd1 : upd (upd H l (.lst ((rowW (.doo o)).map V.str))) d (.lst (cutV ((rowW (.doo o)).map V.str) (some 1) none)) d = some (.lst ((rowW (.doo o)).tail.map V.str)) := by
        rw [upd_same]
        exact congrArg (fun z => some (HO.lst z)) (cut_from _ 1 (by simp [rowW]))
      generalize upd (upd H l (.lst ((rowW (.doo o)).map V.str))) d (.lst (cutV ((rowW (.doo o)).map V.str) (some 1) none)) = H1 at s1 hd1 ⊢
      refine ⟨_, rfl, rfl, _, rfl, iteSN (by decide +kernel) ?_⟩
      refine ⟨_, rfl, rfl, _, rfl, iteSN (by decide +kernel) ?_⟩
      refine ⟨_, rfl, rfl, _, rfl, iteSN (by decide +kernel) ?_⟩
      refine ⟨_, rfl, rfl, _, rfl, iteSN (by decide +kernel) ?_⟩
      refine ⟨_, rfl, rfl, _, rfl, iteSN (by decide +kernel) ?_⟩
      refine ⟨_, rfl, rfl, _, rfl, iteSN (by decide +kernel) ?_⟩
      refine ⟨_, rfl, (by show 3 ≤ sizeLine; decide), fun a ha => ⟨a, _, rfl, .inr (SqT.of upd_same), rfl, rfl, _, rfl, ?_⟩⟩
      rw [show (if false = true then !inV (V.str "do") [V.str "take", V.str "part", V.str "do"] else inV (V.str "do") [V.str "take", V.str "part", V.str "do"]) = true by decide +kernel]
      refine iteT ⟨_, rfl, _, rfl, d, o, rfl, upd_keep hd1 ha, hok, fun H2 s2 => ⟨(by show 2 ≤ sizeLine; decide), fun r hr => ?_⟩⟩
      exact q r _ (((s1.new ha).trans s2).new hr) upd_same
noncomputable def valR : List Nat → Nat
  | [] => 0
  | c :: r => valR r * 10 + (c - 48)
theorem valR_pos : ∀ r : List Nat, r ≠ [] → (∀ c ∈ r, 48 ≤ c ∧ c ≤ 57) → r.getLast? ≠ some 48 → 1 ≤ valR r
  | [], h, _, _ => absurd rfl h
  | [c], _, hf, h => by
    have h1 := hf c List.mem_cons_self
    have : c ≠ 48 := fun z => h (by rw [z]; rfl)
    show 1 ≤ 0 * 10 + (c - 48)
    omega
  | c :: d :: r, _, hf, h => by
    have := valR_pos (d :: r) (by simp) (fun x hx => hf x (List.mem_cons_of_mem _ hx)) (by rw [List.getLast?_cons_cons] at h; exact h)
    show 1 ≤ valR (d :: r) * 10 + (c - 48)
    omega
theorem digitC : ∀ d : Nat, d < 10 → (Nat.digitChar d).toNat = 48 + d := by decide
theorem digits_valR : ∀ r : List Nat, r ≠ [] → (∀ c ∈ r, 48 ≤ c ∧ c ≤ 57) → (1 < r.length → r.getLast? ≠ some 48) → (Nat.toDigits 10 (valR r)).map Char.toNat = r.reverse
  | [], h, _, _ => absurd rfl h
  | [c], _, hf, _ => by
    have h1 := hf c List.mem_cons_self
    have e : valR [c] = c - 48 := by show 0 * 10 + (c - 48) = _; omega
    rw [e, Nat.toDigits_of_lt_base (by omega)]
    show [(Nat.digitChar (c - 48)).toNat] = [c]
    rw [digitC _ (by omega)]
    congr 1
    omega
  | c :: d :: r, _, hf, h => by
    have h1 := hf c List.mem_cons_self
    have hl := h (by simp)
    rw [List.getLast?_cons_cons] at hl
    have hf' : ∀ x ∈ d :: r, 48 ≤ x ∧ x ≤ 57 := fun x hx => hf x (List.mem_cons_of_mem _ hx)
    have h2 := valR_pos (d :: r) (by simp) hf' hl
    have ih := digits_valR (d :: r) (by simp) hf' fun _ => hl
    have e : valR (c :: d :: r) = valR (d :: r) * 10 + (c - 48) := rfl
    rw [e, Nat.toDigits_of_base_le (by decide) (by omega), List.map_append, show (valR (d :: r) * 10 + (c - 48)) / 10 = valR (d :: r) by omega, show (valR (d :: r) * 10 + (c - 48)) % 10 = c - 48 by omega, ih]
    show (d :: r).reverse ++ [(Nat.digitChar (c - 48)).toNat] = _
    rw [digitC _ (by omega), show 48 + (c - 48) = c by omega, List.reverse_cons (a := c)]
theorem valR_lt : ∀ r : List Nat, (∀ c ∈ r, 48 ≤ c ∧ c ≤ 57) → valR r < 10 ^ r.length
  | [], _ => by decide
  | c :: r, h => by
    have h1 := valR_lt r fun x hx => h x (List.mem_cons_of_mem _ hx)
    have h2 := h c List.mem_cons_self
    show valR r * 10 + (c - 48) < 10 ^ (r.length + 1)
    rw [Nat.pow_succ]
    omega
theorem num_of {x : Str} (h : isNumL x.cps.toList = true) : ∃ n : Int, ThOk (.num n) ∧ thS (.num n) = x := by
  unfold isNumL at h
  simp only [Bool.and_eq_true, decide_eq_true_eq, List.all_eq_true, Bool.not_eq_true', Bool.and_eq_false_iff, decide_eq_false_iff_not] at h
  obtain ⟨⟨⟨h1, h60⟩, hz⟩, hf⟩ := h
  have hf' : ∀ c ∈ x.cps.toList.reverse, 48 ≤ c ∧ c ≤ 57 := fun c hc => by
    have := hf c (List.mem_reverse.mp hc)
    unfold isFig at this
    simpa using this
  have hlast : 1 < x.cps.toList.reverse.length → x.cps.toList.reverse.getLast? ≠ some 48 := fun hl e => by
    rw [List.getLast?_reverse] at e
    rw [List.length_reverse] at hl
    rcases hz with z | z
    · exact z e
    · have z' : x.cps.toList = [48] := by simpa using z
      rw [z'] at hl
      simp at hl
  have hd := digits_valR x.cps.toList.reverse (fun z => by have := congrArg List.length z; rw [List.length_reverse] at this; simp at this; rw [this] at h1; simp at h1) hf' hlast
  have hlt := valR_lt x.cps.toList.reverse hf'
  have hlt2 : valR x.cps.toList.reverse < 10 ^ 60 := Nat.lt_of_lt_of_le hlt (Nat.pow_le_pow_right (by decide) (by rw [List.length_reverse]; exact h60))
  rw [List.reverse_reverse] at hd
  generalize valR x.cps.toList.reverse = v at hd hlt2
  have h0 : (0 : Int) ≤ (v : Int) := by omega
  have hv : (v : Int) < 10 ^ 60 := by
    have : ((10 ^ 60 : Nat) : Int) = 10 ^ 60 := by norm_cast
    omega
  refine ⟨(v : Int), ⟨h0, hv⟩, str_ext ?_⟩
  have := (num_text h0 hv).1
  rw [show ((v : Int)).toNat = v by omega, hd] at this
  exact this
noncomputable def Ref (A : Adr) (H : Hp) (E : XK) : Prop := ∀ (H' : Hp) (dx : Addr), Same H H' → H' dx = some (.xd [("number", .int 0)]) → E (.ref A.NoRow) (some dx) H'
theorem Ref.on {A : Adr} {H H1 : Hp} {E : XK} (h : Ref A H E) (s : Same H H1) : Ref A H1 E := fun H' dx s' hd => h H' dx (s.trans s') hd
theorem Ref.rais {A : Adr} {H : Hp} {E : XK} (h : Ref A H E) : ∃ v, [V.int 0] = [v] ∧ ∀ dx, H dx = none → E (.ref A.NoRow) (some dx) (upd H dx (.xd [("number", v)])) := ⟨_, rfl, fun dx hd => h _ dx ((Same.refl H).new hd) upd_same⟩
theorem ok_initN {A : Adr} (hX : XTxt K mg A) : XCl P w K mg base 1 A.NoRow "number" ["self", "number"] := by
  refine XCl.of hX.x_NoRow sc_NoRow___init__ rfl (fun _ _ _ _ _ _ us hl => by obtain ⟨a, b, rfl⟩ := len2 hl; rfl) (fun f' cdv A0 outer s H vs Q E xi hr h => ?_)
  obtain ⟨e, v, rfl, he, q⟩ := h
  refine ⟨_, (pss_cons (ps_initB (by rfl) hX.m_BundleError hX.b_BundleError (pa_cons (pv 0) (pa_cons (pv 1) pa_nil)))
      (pss_one (ps_fldX (pv 0) (pv 1) rfl))), ?_⟩
  exact ⟨_, rfl, _, rfl, e, A.NoRow, f', v, rfl, he, xi, _, rfl, _, rfl, e, A.NoRow, rfl, he, hX.k_NoRow, hX.f_NoRow, fun dx hdx => q dx hdx⟩
noncomputable def Wok (ws : List Str) : Prop := ws.length ≤ 900 ∧ ∀ x ∈ ws, x.length ≤ 900
noncomputable def spNameE (A : Adr) : Sp := fun vs H Q E => ∃ x : Str, vs = [.str x] ∧ x.length ≤ 900 ∧ (NameOk x → ∀ H', Same H H' → Q (.str x) H') ∧ Ref A H E
theorem ok_nameE (T : Txt K mg) {A : Adr} (hX : XTxt K mg A) : L2.ClE P w K mg base 3 "read_name" ["word"] (spNameE A) := by
  have C_is_name := ok_is_name (P := P) (w := w) (base := base) T
  have X_NoRow := ok_initN (P := P) (w := w) (base := base) hX
  refine ClE.of T.d_read_name sc_read_name (fun vs H Q E h => ?_) (fun _ _ _ _ _ _ us hl => by obtain ⟨a, rfl⟩ := len1 hl; rfl) (fun f cdv A0 outer s H vs Q E hr h => ?_)
  · obtain ⟨x, rfl, _⟩ := h
    rfl
  · obtain ⟨x, rfl, hx, q, hE⟩ := h
    refine ⟨_, (pss_cons (ps_if (pt_not (pt_val (pe_fn C_is_name hr (by rfl) (pa_cons (pv 0) pa_nil))))
        (pss_one (ps_raise1 X_NoRow hr (by rfl) hX.m_NoRow hX.k_NoRow (pa_cons pe_int pa_nil))) pss_nil)
      (pss_one (ps_ret (pv 0)))), ?_⟩
    refine ⟨_, rfl, x, rfl, (by omega), fun H1 s1 => ⟨_, rfl, ?_⟩⟩
    cases e : isNm x.cps.toList with
    | true => exact iteF ⟨_, rfl, q e H1 s1⟩
    | false => exact iteT (hE.on s1).rais
noncomputable def spThingE (A : Adr) : Sp := fun vs H Q E => ∃ x : Str, vs = [.str x] ∧ x.length ≤ 900 ∧ (∀ t, ThOk t → thS t = x → ∀ H', Same H H' → Q (thV t) H') ∧ Ref A H E
theorem ok_thingE (T : Txt K mg) {A : Adr} (hX : XTxt K mg A) : L2.ClE P w K mg base 4 "read_thing" ["word"] (spThingE A) := by
  have C_is_number := ok_is_number (P := P) (w := w) (base := base) T
  have C_read_name := ok_nameE (P := P) (w := w) (base := base) T hX
  refine ClE.of T.d_read_thing sc_read_thing (fun vs H Q E h => ?_) (fun _ _ _ _ _ _ us hl => by obtain ⟨a, rfl⟩ := len1 hl; rfl) (fun f cdv A0 outer s H vs Q E hr h => ?_)
  · obtain ⟨x, rfl, _⟩ := h
    rfl
  · obtain ⟨x, rfl, hx, q, hE⟩ := h
    refine ⟨_, (pss_cons (ps_if (pt_val (pe_fn C_is_number hr (by rfl) (pa_cons (pv 0) pa_nil)))
        (pss_one (ps_ret (pe_callTy call_int_text (by rfl) T.n_int boot_int (pa_cons (pv 0) pa_nil)))) pss_nil)
      (pss_one (ps_ret (pe_fnE C_read_name passE hr (by rfl) (pa_cons (pv 0) pa_nil))))), ?_⟩
    refine ⟨_, rfl, _, rfl, (by omega), fun H1 s1 => ⟨_, rfl, ?_⟩⟩
    cases e : isNumL x.cps.toList with
    | true =>
      obtain ⟨n, hok, en⟩ := num_of e
      exact iteT ⟨_, rfl, _, n, rfl, (by rw [← en]; exact (num_reads hok).1), (by rw [← en]; exact (num_reads hok).2), q (.num n) hok en H1 s1⟩
    | false => exact iteF ⟨_, rfl, x, rfl, hx, fun hn H2 s2 => q (.nam x) hn rfl H2 (s1.trans s2), hE.on s1⟩
noncomputable def spSignE (A : Adr) : Sp := fun vs H Q E => ∃ x : Str, vs = [.str x] ∧ (∀ s : Int, (s = 1 ∨ s = -1) → sgS s = x → Q (.int s) H) ∧ Ref A H E
theorem ok_signE (T : Txt K mg) {A : Adr} (hX : XTxt K mg A) : L2.ClE P w K mg base 3 "read_sign" ["word"] (spSignE A) := by
  have X_NoRow := ok_initN (P := P) (w := w) (base := base) hX
  refine ClE.of T.d_read_sign sc_read_sign (fun vs H Q E h => ?_) (fun _ _ _ _ _ _ us hl => by obtain ⟨a, rfl⟩ := len1 hl; rfl) (fun f cdv A0 outer s H vs Q E hr h => ?_)
  · obtain ⟨x, rfl, _⟩ := h
    rfl
  · obtain ⟨x, rfl, q, hE⟩ := h
    refine ⟨_, (pss_cons (ps_if (pt_cmpR op_eq (pv 0) pe_str (nomark _))
        (pss_one (ps_ret pe_int)) pss_nil)
      (pss_cons (ps_if (pt_cmpR op_eq (pv 0) pe_str (nomark _))
        (pss_one (ps_ret (pe_un un_neg pe_int))) pss_nil)
      (pss_one (ps_raise1 X_NoRow hr (by rfl) hX.m_NoRow hX.k_NoRow (pa_cons pe_int pa_nil))))), ?_⟩
    by_cases e : x = "+"
    · subst e
      exact ⟨_, rfl, rfl, _, rfl, iteSE (q 1 (.inl rfl) rfl)⟩
    · refine ⟨_, rfl, rfl, _, rfl, iteSN e ?_⟩
      by_cases e2 : x = "-"
      · subst e2
        exact ⟨_, rfl, rfl, _, rfl, iteSE ⟨_, rfl, q (-1) (.inr rfl) rfl⟩⟩
      · exact ⟨_, rfl, rfl, _, rfl, iteSN e2 hE.rais⟩
noncomputable def spOnlyE (A : Adr) : Sp := fun vs H Q E => ∃ (l : Addr) (ws : List Str), vs = [.ref l] ∧ H l = some (.lst (ws.map V.str)) ∧ Wok ws ∧ (∀ x, ws = [x] → NameOk x → ∀ H', Same H H' → Q (.str x) H') ∧ Ref A H E
theorem ok_onlyE (T : Txt K mg) {A : Adr} (hX : XTxt K mg A) : L2.ClE P w K mg base 4 "read_only_name" ["words"] (spOnlyE A) := by
  have C_read_name := ok_nameE (P := P) (w := w) (base := base) T hX
  have X_NoRow := ok_initN (P := P) (w := w) (base := base) hX
  refine ClE.of T.d_read_only_name sc_read_only_name (fun vs H Q E h => ?_) (fun _ _ _ _ _ _ us hl => by obtain ⟨a, rfl⟩ := len1 hl; rfl) (fun f cdv A0 outer s H vs Q E hr h => ?_)
  · obtain ⟨l, x, rfl, _⟩ := h
    rfl
  · obtain ⟨l, ws, rfl, hl, hw, q, hE⟩ := h
    refine ⟨_, (pss_cons (ps_if (pt_cmpR op_ne (pe_callB call_len_seq (by rfl) T.n_len PySem.boot_len (pa_cons (pv 0) pa_nil)) pe_int (nomark _))
        (pss_one (ps_raise1 X_NoRow hr (by rfl) hX.m_NoRow hX.k_NoRow (pa_cons pe_int pa_nil))) pss_nil)
      (pss_one (ps_ret (pe_fnE C_read_name passE hr (by rfl) (pa_cons (pe_ix ix_list (pv 0) pe_int (fun _ _ => rfl)) pa_nil))))), ?_⟩
    refine ⟨_, rfl, l, _, rfl, .inl (SqL.of hl), rfl, _, rfl, ?_⟩
    rw [List.length_map]
    match ws, hl, hw, q with
    | [x], hl, hw, q => exact iteNS rfl ⟨_, rfl, l, _, _, _, rfl, rfl, SqL.of hl, atI_nat (j := 0) rfl, x, rfl, hw.2 x List.mem_cons_self, (fun hn H1 s1 => q x rfl hn H1 s1), hE⟩
    | [], hl, hw, q => exact iteT hE.rais
    | a :: b :: r, hl, hw, q =>
      show if (!decide (V.int ((r.length + 1 + 1 : Nat) : Int) = V.int 1)) = true then _ else _
      rw [decide_eq_false (fun z => by have := V.int.inj z; omega)]
      exact iteT hE.rais
noncomputable def spPairE (A : Adr) : Sp := fun vs H Q E => ∃ (l : Addr) (ws : List Str), vs = [.ref l] ∧ H l = some (.lst (ws.map V.str)) ∧ Wok ws ∧ (∀ g o, ws = [g, ("as" : Str), o] → NameOk g → NameOk o → ∀ (p : Addr) (H' : Hp), Same H H' → H' p = some (.tup [.str g, .str o]) → Q (.ref p) H') ∧ Ref A H E
theorem ok_pairE (T : Txt K mg) {A : Adr} (hX : XTxt K mg A) : L2.ClE P w K mg base 4 "read_pair" ["words"] (spPairE A) := by
  have C_read_name := ok_nameE (P := P) (w := w) (base := base) T hX
  have X_NoRow := ok_initN (P := P) (w := w) (base := base) hX
  refine ClE.of T.d_read_pair sc_read_pair (fun vs H Q E h => ?_) (fun _ _ _ _ _ _ us hl => by obtain ⟨a, rfl⟩ := len1 hl; rfl) (fun f cdv A0 outer s H vs Q E hr h => ?_)
  · obtain ⟨l, x, rfl, _⟩ := h
    rfl
  · obtain ⟨l, ws, rfl, hl, hw, q, hE⟩ := h
    refine ⟨_, (pss_cons (ps_if (PW.pt (pw_or (pt_cmpR op_ne (pe_callB call_len_seq (by rfl) T.n_len PySem.boot_len (pa_cons (pv 0) pa_nil)) pe_int (nomark _)) (pw_or1 (pt_cmpR op_ne (pe_ix ix_list (pv 0) pe_int (fun _ _ => rfl)) pe_str (nomark _)))))
        (pss_one (ps_raise1 X_NoRow hr (by rfl) hX.m_NoRow hX.k_NoRow (pa_cons pe_int pa_nil))) pss_nil)
      (pss_one (ps_ret (pe_tup (pa_cons (pe_fnE C_read_name passE hr (by rfl) (pa_cons (pe_ix ix_list (pv 0) pe_int (fun _ _ => rfl)) pa_nil)) (pa_cons (pe_fnE C_read_name passE hr (by rfl) (pa_cons (pe_ix ix_list (pv 0) pe_int (fun _ _ => rfl)) pa_nil)) pa_nil)))))), ?_⟩
    refine ⟨_, rfl, l, _, rfl, .inl (SqL.of hl), rfl, _, rfl, ?_⟩
    rw [List.length_map]
    by_cases h3 : ws.length = 3
    · obtain ⟨g, m, o, rfl⟩ : ∃ a b c, ws = [a, b, c] := by
        match ws, h3 with
        | [a, b, c], _ => exact ⟨a, b, c, rfl⟩
      refine iteNS rfl ⟨_, rfl, l, _, _, _, rfl, rfl, SqL.of hl, atI_nat (j := 1) rfl, rfl, _, rfl, ?_⟩
      by_cases e : m = "as"
      · subst e
        refine iteNS rfl ?_
        refine ⟨_, rfl, l, _, _, _, rfl, rfl, SqL.of hl, atI_nat (j := 0) rfl, g, rfl, hw.2 g (by simp), (fun hg H1 s1 => ?_), hE⟩
        refine ⟨_, rfl, l, _, _, _, rfl, rfl, SqL.of (s1 _ _ hl), atI_nat (j := 2) rfl, o, rfl, hw.2 o (by simp), (fun ho H2 s2 => ⟨(by show 2 ≤ sizeLine; decide), fun p hp => ?_⟩), hE.on s1⟩
        exact q g o rfl hg ho p _ ((s1.trans s2).new hp) upd_same
      · show if (!decide (V.str m = V.str "as")) = true then _ else _
        rw [decide_eq_false (fun z => e (V.str.inj z))]
        exact iteT hE.rais
    · show if (!decide (V.int (ws.length : Int) = V.int 3)) = true then _ else _
      rw [decide_eq_false (fun z => h3 (by have := V.int.inj z; omega))]
      exact iteT hE.rais
theorem Wok.mem {ws : List Str} (h : Wok ws) {i : Nat} {x : Str} (hx : ws[i]? = some x) : x.length ≤ 900 := h.2 x (List.mem_of_getElem? hx)
theorem strs_at {ws : List Str} {i : Nat} {x : Str} (h : ws[i]? = some x) : atI (ws.map V.str) (i : Int) = some (.str x) := atI_nat (by rw [List.getElem?_map, h]; rfl)
noncomputable def spSumE (A : Adr) : Sp := fun vs H Q E => ∃ (l : Addr) (ws : List Str), vs = [.ref l] ∧ H l = some (.lst (ws.map V.str)) ∧ Wok ws ∧ (∀ (ts : List (Int × Th)) (t : Addr) (H' : Hp), sumW ts = ws → SumOk ts → Same H H' → TermsAt H' t ts → Q (.ref t) H') ∧ Ref A H E
theorem ok_sumE (T : Txt K mg) {A : Adr} (hX : XTxt K mg A) : L2.ClE P w K mg base 5 "read_sum" ["words"] (spSumE A) := by
  have C_read_thing := ok_thingE (P := P) (w := w) (base := base) T hX
  have C_read_sign := ok_signE (P := P) (w := w) (base := base) T hX
  have X_NoRow := ok_initN (P := P) (w := w) (base := base) hX
  refine ClE.of T.d_read_sum sc_read_sum (fun vs H Q E h => ?_) (fun _ _ _ _ _ _ us hl => by obtain ⟨a, rfl⟩ := len1 hl; rfl) (fun f cdv A0 outer s H vs Q E hr h => ?_)
  · obtain ⟨l, ws, rfl, _⟩ := h
    rfl
  · obtain ⟨l, ws, rfl, hl, hw, q, hE⟩ := h
    refine ⟨_, (pss_cons (ps_if (PW.pt (pw_or (pt_cmpR op_ne (pe_op op_mod (pe_callB call_len_seq (by rfl) T.n_len PySem.boot_len (pa_cons (pv 0) pa_nil)) pe_int) pe_int (nomark _)) (pw_or1 (pt_cmpR op_gt (pe_callB call_len_seq (by rfl) T.n_len PySem.boot_len (pa_cons (pv 0) pa_nil)) (pe_op op_sub (pe_op op_mul pe_int (pe_globS T.g_MOST_TERMS (by rfl))) pe_int) (nomark _)))))
        (pss_one (ps_raise1 X_NoRow hr (by rfl) hX.m_NoRow hX.k_NoRow (pa_cons pe_int pa_nil))) pss_nil)
      (pss_cons (ps_set (i := 1) sc_read_sum.nd rfl (Or.inl rfl) (pe_lst (pa_cons (pe_tup (pa_cons pe_int (pa_cons (pe_fnE C_read_thing passE hr (by rfl) (pa_cons (pe_ix ix_list (pv 0) pe_int (fun _ _ => rfl)) pa_nil)) pa_nil))) pa_nil)))
      (pss_cons (ps_for passOwn rfl (pi_range3 (by rfl) T.n_range (pa_cons pe_int (pa_cons (pe_callB call_len_seq (by rfl) T.n_len PySem.boot_len (pa_cons (pv 0) pa_nil)) (pa_cons pe_int pa_nil)))) (pg_name (i := 2) sc_read_sum.nd rfl (Or.inl rfl))
        (pss_one (ps_expr (pe_bm PySem.F.plainAttrs_list PySem.F.slot_list_append PySem.F.type_list_append mt_append (pv 1) (pa_cons (pe_tup (pa_cons (pe_fnE C_read_sign passE hr (by rfl) (pa_cons (pe_ix ix_list (pv 0) (pv 2) (fun _ _ => rfl)) pa_nil)) (pa_cons (pe_fnE C_read_thing passE hr (by rfl) (pa_cons (pe_ix ix_list (pv 0) (pe_op op_add (pv 2) pe_int) (fun _ _ => rfl)) pa_nil)) pa_nil))) pa_nil)))))
      (pss_one (ps_ret (pe_callTy call_tuple_of (by rfl) T.n_tuple boot_tuple (pa_cons (pv 1) pa_nil))))))), ?_⟩
    refine ⟨_, rfl, l, _, rfl, .inl (SqL.of hl), _, _, rfl, rfl, (by show (0 : Int) < 2; decide), rfl, _, rfl, ?_⟩
    rw [List.length_map]
    by_cases hodd : ws.length % 2 = 1
    · refine iteNS (show V.int ((ws.length : Int) % 2) = V.int 1 from congrArg V.int (by omega)) ?_
      refine ⟨_, rfl, l, _, rfl, .inl (SqL.of hl), _, _, rfl, rfl, .inl ⟨by decide, by decide⟩, _, _, rfl, rfl, _, _, rfl, rfl, _, rfl, ?_⟩
      rw [List.length_map]
      by_cases hmany : ws.length ≤ 11
      · refine iteDN (by omega) ?_
        have h0 : ws[0]? = some (ws[0]'(by omega)) := List.getElem?_eq_getElem (by omega)
        refine ⟨_, rfl, l, _, _, _, rfl, rfl, SqL.of hl, strs_at h0, _, rfl, hw.mem h0, (fun t0 hok0 et0 H1 s1 => ⟨(by show 2 ≤ sizeLine; decide), fun a ha => ⟨(by show 1 ≤ sizeLine; decide), fun d hd => ?_⟩⟩), hE⟩
        have s2 := (s1.new (o := .tup [.int 1, thV t0]) ha).new (o := .lst [.ref a]) hd
        have hd0 : H d = none := (s1.new ha).free hd
        refine ⟨_, rfl, l, _, rfl, .inl (SqL.of (s2 _ _ hl)), 1, _, 2, rfl, ⟨by decide, by decide, by rw [List.length_map]; omega, by rw [List.length_map]; omega, by decide, by decide⟩, ?_⟩
        obtain ⟨n, hn⟩ : ∃ n, ws.length = 2 * n + 1 := ⟨ws.length / 2, by omega⟩
        have hrs : (Builtin.Range.rangeSize 1 ((ws.map V.str).length : Int) 2).toNat = n := by
          rw [List.length_map, hn]
          exact rsize (c := 2) (by decide)
        rw [hrs]
        refine for_range3 (fun i σ H2 => ∃ (vs : List V) (ts : List (Int × Th)) (v2 : Option V), σ = [some (.ref l), some (.ref d), v2] ∧ Same H H2 ∧ H2 d = some (.lst vs) ∧ Terms H2 vs ts ∧ sumW ts = ws.take (2 * i + 1) ∧ ts.length = i + 1 ∧ (∀ p ∈ ts, ThOk p.2) ∧ (∀ p ∈ ts, p.1 = 1 ∨ p.1 = -1) ∧ ∀ p, ts.head? = some p → p.1 = 1)
          ⟨[.ref a], [(1, t0)], none, rfl, s2, upd_same, .cons ⟨a, rfl, upd_keep upd_same hd, hok0⟩ .nil, ?_, rfl, ?_, ?_, ?_⟩ ?_ ?_
        · show [thS t0] = ws.take (2 * 0 + 1)
          rw [et0, take_succ_get h0]
          rfl
        · intro p hp; rw [List.mem_singleton.mp hp]; exact hok0
        · intro p hp; rw [List.mem_singleton.mp hp]; exact .inl rfl
        · intro p hp; rw [← Option.some.inj hp]
        · rintro i σ H2 hi ⟨vs, ts, v2, rfl, s3, hd3, ht, hsw, hsl, p1, p2, p3⟩
          have g1 : ws[2 * i + 1]? = some (ws[2 * i + 1]'(by omega)) := List.getElem?_eq_getElem (by omega)
          have g2 : ws[2 * i + 2]? = some (ws[2 * i + 2]'(by omega)) := List.getElem?_eq_getElem (by omega)
          have hvl : vs.length = i + 1 := by rw [Paired.length ht, hsl]
          have htne : ts ≠ [] := fun z => by rw [z] at hsl; simp at hsl
          refine ⟨_, rfl, .inl ⟨rfl, _, SqL.of hd3⟩, _, rfl, _, rfl, l, _, _, _, rfl, rfl, SqL.of (s3 _ _ hl), ?_, ws[2 * i + 1]'(by omega), rfl, (fun z hz ez => ?_), hE.on s3⟩
          · rw [show (1 : Int) + i * 2 = ((2 * i + 1 : Nat) : Int) by omega]
            exact strs_at g1
          refine ⟨_, rfl, _, rfl, _, _, rfl, rfl, l, _, _, _, rfl, rfl, SqL.of (s3 _ _ hl), ?_, ws[2 * i + 2]'(by omega), rfl, hw.mem g2, (fun th hth eth H4 s4 => ?_), hE.on s3⟩
          · rw [show (1 : Int) + i * 2 + 1 = ((2 * i + 2 : Nat) : Int) by omega]
            exact strs_at g2
          refine ⟨(by show 2 ≤ sizeLine; decide), fun b hb => ⟨d, _, _, rfl, rfl, upd_keep (s4 _ _ hd3) hb, small1000 (by omega), ?_⟩⟩
          refine ⟨vs ++ [.ref b], ts ++ [(z, th)], _, rfl, ((s3.trans s4).new hb).put hd0, upd_same, ?_, ?_, by rw [List.length_append, hsl]; rfl, ?_, ?_, ?_⟩
          · refine Paired.snoc (((Terms.mono s4.tups ht).mono (Tups.new hb)).mono (Tups.lst (upd_keep (s4 _ _ hd3) hb))) ⟨b, rfl, ?_, hth⟩
            rw [upd_ne (ne_of_none (s4 _ _ hd3) hb).symm]
            exact upd_same
          · rw [sumW_snoc z th htne, hsw, show 2 * (i + 1) + 1 = 2 * i + 1 + 1 + 1 by omega, take_succ_get g2, take_succ_get g1, ← ez, ← eth, List.append_assoc]
            rfl
          · intro p hp
            rcases List.mem_append.mp hp with u | u
            · exact p1 p u
            · rw [List.mem_singleton.mp u]; exact hth
          · intro p hp
            rcases List.mem_append.mp hp with u | u
            · exact p2 p u
            · rw [List.mem_singleton.mp u]; exact hz
          · intro p hp
            cases ts with
            | nil => exact absurd rfl htne
            | cons u us => exact p3 p hp
        · rintro σ H2 ⟨vs, ts, v2, rfl, s3, hd3, ht, hsw, hsl, p1, p2, p3⟩
          rw [show 2 * n + 1 = ws.length by omega, List.take_length] at hsw
          refine ⟨_, rfl, d, _, rfl, .inl ⟨SqL.of hd3, fun t gt => ?_⟩⟩
          exact q ts t _ hsw ⟨by omega, by omega, p1, p2, p3⟩ (s3.new gt) ⟨⟨vs, upd_same, ht.mono (Tups.new gt)⟩, by omega, by omega⟩
      · exact iteDP (by omega) hE.rais
    · show if (!decide (V.int ((ws.length : Int) % 2) = V.int 1)) = true then _ else _
      rw [decide_eq_false (fun z => hodd (by have := V.int.inj z; omega))]
      exact iteT hE.rais
noncomputable def spRowE (A : Adr) (kind : Str) : Sp := fun vs H Q E => ∃ (l : Addr) (ws : List Str), vs = [.ref l] ∧ H l = some (.lst (ws.map V.str)) ∧ Wok ws ∧ (∀ (rw : Rw) (r : Addr) (H' : Hp), rowW rw = kind :: ws → RwOk rw → Same H H' → RowAt H' r rw → Q (.ref r) H') ∧ Ref A H E
theorem Wok.drop {ws : List Str} (h : Wok ws) (k : Nat) : Wok (ws.drop k) := ⟨by rw [List.length_drop]; have := h.1; omega, fun x hx => h.2 x (List.mem_of_mem_drop hx)⟩
theorem ok_setE (T : Txt K mg) {A : Adr} (hX : XTxt K mg A) : L2.ClE P w K mg base 6 "read_set" ["words"] (spRowE A "set") := by
  have C_read_name := ok_nameE (P := P) (w := w) (base := base) T hX
  have C_read_sum := ok_sumE (P := P) (w := w) (base := base) T hX
  have X_NoRow := ok_initN (P := P) (w := w) (base := base) hX
  refine ClE.of T.d_read_set sc_read_set (fun vs H Q E h => ?_) (fun _ _ _ _ _ _ us hl => by obtain ⟨a, rfl⟩ := len1 hl; rfl) (fun f cdv A0 outer s H vs Q E hr h => ?_)
  · obtain ⟨l, ws, rfl, _⟩ := h
    rfl
  · obtain ⟨l, ws, rfl, hl, hw, q, hE⟩ := h
    refine ⟨_, (pss_cons (ps_if (PW.pt (pw_or (pt_cmpR op_lt (pe_callB call_len_seq (by rfl) T.n_len PySem.boot_len (pa_cons (pv 0) pa_nil)) pe_int (nomark _)) (pw_or1 (pt_cmpR op_ne (pe_ix ix_list (pv 0) pe_int (fun _ _ => rfl)) pe_str (nomark _)))))
        (pss_one (ps_raise1 X_NoRow hr (by rfl) hX.m_NoRow hX.k_NoRow (pa_cons pe_int pa_nil))) pss_nil)
      (pss_one (ps_ret (pe_tup (pa_cons pe_str (pa_cons (pe_fnE C_read_name passE hr (by rfl) (pa_cons (pe_ix ix_list (pv 0) pe_int (fun _ _ => rfl)) pa_nil)) (pa_cons (pe_fnE C_read_sum passE hr (by rfl) (pa_cons (pe_slice sl_list (pv 0) (po_some pe_int) po_none) pa_nil)) pa_nil))))))), ?_⟩
    refine ⟨_, rfl, l, _, rfl, .inl (SqL.of hl), _, _, rfl, rfl, _, rfl, ?_⟩
    rw [List.length_map]
    by_cases h3 : 3 ≤ ws.length
    · refine iteDN (by omega) ?_
      obtain ⟨o, m, us, rfl⟩ : ∃ o m us, ws = o :: m :: us := by
        match ws, h3 with
        | a :: b :: r, _ => exact ⟨a, b, r, rfl⟩
      refine ⟨_, rfl, l, _, _, _, rfl, rfl, SqL.of hl, atI_nat (j := 1) (v := .str m) rfl, rfl, _, rfl, ?_⟩
      by_cases e : m = "="
      · subst e
        refine iteNS rfl ?_
        refine ⟨_, rfl, l, _, _, _, rfl, rfl, SqL.of hl, atI_nat (j := 0) (v := .str o) rfl, o, rfl, hw.2 o (by simp), (fun ho H1 s1 => ?_), hE⟩
        refine ⟨_, rfl, _, rfl, l, _, rfl, SqL.of (s1 _ _ hl), fun d hd => ?_⟩
        have s2 := s1.new (o := .lst (cutV ((o :: "=" :: us).map V.str) (some 2) none)) hd
        refine ⟨d, us, rfl, ?_, hw.drop 2, (fun ts t H2 hts hok s3 ht => ⟨(by show 3 ≤ sizeLine; decide), fun r hr => ?_⟩), hE.on s2⟩
        · rw [upd_same]
          exact congrArg (fun z => some (HO.lst z)) (cut_from ((o :: "=" :: us).map V.str) 2 (by simp))
        · exact q (.set o ts) r _ (by show ("set" : Str) :: o :: ("=" : Str) :: sumW ts = _; rw [hts]) ⟨ho, hok⟩ ((s2.trans s3).new hr) ⟨t, upd_same, ht.mono (Tups.new hr)⟩
      · show if (!decide (V.str m = V.str "=")) = true then _ else _
        rw [decide_eq_false (fun z => e (V.str.inj z))]
        exact iteT hE.rais
    · exact iteDP (by omega) hE.rais
theorem when_cases (ws : List Str) : (∃ (us : List Str) (w : Str), ws = us ++ [("when" : Str), w] ∧ us ≠ []) ∨ ws.length ≤ 2 ∨ ∃ (us : List Str) (a b : Str), ws = us ++ [a, b] ∧ us ≠ [] ∧ a ≠ ("when" : Str) := by
  by_cases h : ws.length ≤ 2
  · exact .inr (.inl h)
  · obtain ⟨us, a, b, rfl⟩ : ∃ (us : List Str) (a b : Str), ws = us ++ [a, b] := by
      refine ⟨ws.take (ws.length - 2), ws[ws.length - 2]'(by omega), ws[ws.length - 1]'(by omega), ?_⟩
      have e1 := take_succ_get (List.getElem?_eq_getElem (l := ws) (i := ws.length - 2) (by omega))
      have e2 := take_succ_get (List.getElem?_eq_getElem (l := ws) (i := ws.length - 1) (by omega))
      rw [show ws.length - 2 + 1 = ws.length - 1 by omega] at e1
      rw [show ws.length - 1 + 1 = ws.length by omega, List.take_length, e1] at e2
      rw [List.append_assoc] at e2
      exact e2
    have hu : us ≠ [] := fun z => by rw [z] at h; simp at h
    by_cases e : a = "when"
    · exact .inl ⟨us, b, by rw [e], hu⟩
    · exact .inr (.inr ⟨us, a, b, rfl, hu, e⟩)
theorem Wok.front {us : List Str} {a b : Str} (h : Wok (us ++ [a, b])) : Wok us ∧ b.length ≤ 900 := ⟨⟨by have := h.1; rw [List.length_append] at this; omega, fun x hx => h.2 x (List.mem_append_left _ hx)⟩, h.2 b (by simp)⟩
theorem ok_sayE (T : Txt K mg) {A : Adr} (hX : XTxt K mg A) : L2.ClE P w K mg base 6 "read_say" ["words"] (spRowE A "say") := by
  have C_has_when := ok_has_when (P := P) (w := w) (base := base) T
  have C_read_name := ok_nameE (P := P) (w := w) (base := base) T hX
  have C_read_sum := ok_sumE (P := P) (w := w) (base := base) T hX
  refine ClE.of T.d_read_say sc_read_say (fun vs H Q E h => ?_) (fun _ _ _ _ _ _ us hl => by obtain ⟨a, rfl⟩ := len1 hl; rfl) (fun f cdv A0 outer s H vs Q E hr h => ?_)
  · obtain ⟨l, ws, rfl, _⟩ := h
    rfl
  · obtain ⟨l, ws, rfl, hl, hw, q, hE⟩ := h
    refine ⟨_, (pss_cons (ps_if (pt_val (pe_fn C_has_when hr (by rfl) (pa_cons (pv 0) pa_nil)))
        (pss_one (ps_ret (pe_tup (pa_cons pe_str (pa_cons (pe_fnE C_read_sum passE hr (by rfl) (pa_cons (pe_slice sl_list (pv 0) po_none (po_some (pe_un un_neg pe_int))) pa_nil)) (pa_cons (pe_fnE C_read_name passE hr (by rfl) (pa_cons (pe_ix ix_list (pv 0) (pe_un un_neg pe_int) (fun _ _ => rfl)) pa_nil)) pa_nil)))))) pss_nil)
      (pss_one (ps_ret (pe_tup (pa_cons pe_str (pa_cons (pe_fnE C_read_sum passE hr (by rfl) (pa_cons (pv 0) pa_nil)) (pa_cons pe_non pa_nil))))))), ?_⟩
    have bare : ∃ (l' : Addr) (ws' : List Str), ([V.ref l] : List V) = [.ref l'] ∧ H l' = some (.lst (ws'.map V.str)) ∧ Wok ws' ∧ (∀ (ts : List (Int × Th)) (t : Addr) (H' : Hp), sumW ts = ws' → SumOk ts → Same H H' → TermsAt H' t ts → 3 ≤ sizeLine ∧ ∀ p, H' p = none → Q (.ref p) (upd H' p (.tup [.str "say", .ref t, .non]))) ∧ Ref A H E :=
      ⟨l, ws, rfl, hl, hw, (fun ts t H2 hts hok s2 ht => ⟨by decide, fun r hr => q (.say ts none) r _ (by show ("say" : Str) :: (sumW ts ++ ([] : List Str)) = _; rw [List.append_nil, hts]) ⟨hok, fun x hx => by cases hx⟩ (s2.new hr) ⟨t, upd_same, ht.mono (Tups.new hr)⟩⟩), hE⟩
    rcases when_cases ws with ⟨us, x, rfl, hne⟩ | h2 | ⟨us, a, b, rfl, hne, hab⟩
    · refine ⟨_, rfl, l, _, rfl, hl, .inl ⟨us, x, rfl, hne, ⟨_, rfl, iteT ?_⟩⟩⟩
      have hl' : H l = some (.lst (us.map V.str ++ [V.str "when", V.str x])) := by rw [hl, List.map_append]; rfl
      refine ⟨_, rfl, _, rfl, _, rfl, l, _, rfl, SqL.of hl', fun d hd => ?_⟩
      have s1 := (Same.refl H).new (o := .lst (cutV (us.map V.str ++ [V.str "when", V.str x]) none (some (-2)))) hd
      refine ⟨d, us, rfl, (by rw [upd_same]; exact congrArg (fun z => some (HO.lst z)) (cut_m2 ..)), hw.front.1, (fun ts t H2 hts hok s2 ht => ?_), hE.on s1⟩
      have s3 := s1.trans s2
      refine ⟨_, rfl, _, rfl, l, _, _, _, rfl, rfl, SqL.of (s3 _ _ hl'), (by rw [show us.map V.str ++ [V.str "when", V.str x] = (us.map V.str ++ [V.str "when"]) ++ [V.str x] by simp]; exact atI_last ..), x, rfl, hw.front.2, (fun hx H4 s4 => ⟨(by show 3 ≤ sizeLine; decide), fun r hr => ?_⟩), hE.on s3⟩
      exact q (.say ts (some x)) r _ (by show ("say" : Str) :: (sumW ts ++ [("when" : Str), x]) = _; rw [hts]) ⟨hok, fun y hy => by rw [← Option.some.inj hy]; exact hx⟩ ((s3.trans s4).new hr) ⟨t, upd_same, (ht.mono s4.tups).mono (Tups.new hr)⟩
    · exact ⟨_, rfl, l, _, rfl, hl, .inr (.inl ⟨h2, _, rfl, iteF ⟨_, rfl, bare⟩⟩)⟩
    · exact ⟨_, rfl, l, _, rfl, hl, .inr (.inr ⟨us, a, b, rfl, hne, hab, _, rfl, iteF ⟨_, rfl, bare⟩⟩)⟩
theorem ok_askE (T : Txt K mg) {A : Adr} (hX : XTxt K mg A) : L2.ClE P w K mg base 5 "read_ask" ["words"] (spRowE A "ask") := by
  have C_has_when := ok_has_when (P := P) (w := w) (base := base) T
  have C_read_name := ok_nameE (P := P) (w := w) (base := base) T hX
  have C_read_only_name := ok_onlyE (P := P) (w := w) (base := base) T hX
  refine ClE.of T.d_read_ask sc_read_ask (fun vs H Q E h => ?_) (fun _ _ _ _ _ _ us hl => by obtain ⟨a, rfl⟩ := len1 hl; rfl) (fun f cdv A0 outer s H vs Q E hr h => ?_)
  · obtain ⟨l, ws, rfl, _⟩ := h
    rfl
  · obtain ⟨l, ws, rfl, hl, hw, q, hE⟩ := h
    refine ⟨_, (pss_cons (ps_if (pt_val (pe_fn C_has_when hr (by rfl) (pa_cons (pv 0) pa_nil)))
        (pss_one (ps_ret (pe_tup (pa_cons pe_str (pa_cons (pe_fnE C_read_only_name passE hr (by rfl) (pa_cons (pe_slice sl_list (pv 0) po_none (po_some (pe_un un_neg pe_int))) pa_nil)) (pa_cons (pe_fnE C_read_name passE hr (by rfl) (pa_cons (pe_ix ix_list (pv 0) (pe_un un_neg pe_int) (fun _ _ => rfl)) pa_nil)) pa_nil)))))) pss_nil)
      (pss_one (ps_ret (pe_tup (pa_cons pe_str (pa_cons (pe_fnE C_read_only_name passE hr (by rfl) (pa_cons (pv 0) pa_nil)) (pa_cons pe_non pa_nil))))))), ?_⟩
    have bare : ∃ (l' : Addr) (ws' : List Str), ([V.ref l] : List V) = [.ref l'] ∧ H l' = some (.lst (ws'.map V.str)) ∧ Wok ws' ∧ (∀ x, ws' = [x] → NameOk x → ∀ H', Same H H' → 3 ≤ sizeLine ∧ ∀ p, H' p = none → Q (.ref p) (upd H' p (.tup [.str "ask", .str x, .non]))) ∧ Ref A H E :=
      ⟨l, ws, rfl, hl, hw, (fun x ex hx H2 s2 => ⟨by decide, fun r hr => q (.ask x none) r _ (by rw [ex]; rfl) ⟨hx, fun y hy => by cases hy⟩ (s2.new hr) upd_same⟩), hE⟩
    rcases when_cases ws with ⟨us, x, rfl, hne⟩ | h2 | ⟨us, a, b, rfl, hne, hab⟩
    · refine ⟨_, rfl, l, _, rfl, hl, .inl ⟨us, x, rfl, hne, ⟨_, rfl, iteT ?_⟩⟩⟩
      have hl' : H l = some (.lst (us.map V.str ++ [V.str "when", V.str x])) := by rw [hl, List.map_append]; rfl
      refine ⟨_, rfl, _, rfl, _, rfl, l, _, rfl, SqL.of hl', fun d hd => ?_⟩
      have s1 := (Same.refl H).new (o := .lst (cutV (us.map V.str ++ [V.str "when", V.str x]) none (some (-2)))) hd
      refine ⟨d, us, rfl, (by rw [upd_same]; exact congrArg (fun z => some (HO.lst z)) (cut_m2 ..)), hw.front.1, (fun p ep hp H2 s2 => ?_), hE.on s1⟩
      have s3 := s1.trans s2
      refine ⟨_, rfl, _, rfl, l, _, _, _, rfl, rfl, SqL.of (s3 _ _ hl'), (by rw [show us.map V.str ++ [V.str "when", V.str x] = (us.map V.str ++ [V.str "when"]) ++ [V.str x] by simp]; exact atI_last ..), x, rfl, hw.front.2, (fun hx H4 s4 => ⟨(by show 3 ≤ sizeLine; decide), fun r hr => ?_⟩), hE.on s3⟩
      exact q (.ask p (some x)) r _ (by rw [ep]; rfl) ⟨hp, fun y hy => by rw [← Option.some.inj hy]; exact hx⟩ ((s3.trans s4).new hr) upd_same
    · exact ⟨_, rfl, l, _, rfl, hl, .inr (.inl ⟨h2, _, rfl, iteF ⟨_, rfl, bare⟩⟩)⟩
    · exact ⟨_, rfl, l, _, rfl, hl, .inr (.inr ⟨us, a, b, rfl, hne, hab, _, rfl, iteF ⟨_, rfl, bare⟩⟩)⟩
theorem ok_bringE (T : Txt K mg) {A : Adr} (hX : XTxt K mg A) : L2.ClE P w K mg base 5 "read_bring" ["words"] (spRowE A "bring") := by
  have C_read_name := ok_nameE (P := P) (w := w) (base := base) T hX
  have C_read_pair := ok_pairE (P := P) (w := w) (base := base) T hX
  have X_NoRow := ok_initN (P := P) (w := w) (base := base) hX
  refine ClE.of T.d_read_bring sc_read_bring (fun vs H Q E h => ?_) (fun _ _ _ _ _ _ us hl => by obtain ⟨a, rfl⟩ := len1 hl; rfl) (fun f cdv A0 outer s H vs Q E hr h => ?_)
  · obtain ⟨l, ws, rfl, _⟩ := h
    rfl
  · obtain ⟨l, ws, rfl, hl, hw, q, hE⟩ := h
    refine ⟨_, (pss_cons (ps_if (PW.pt (pw_or (pt_cmpR op_ne (pe_op op_mod (pe_callB call_len_seq (by rfl) T.n_len PySem.boot_len (pa_cons (pv 0) pa_nil)) pe_int) pe_int (nomark _)) (pw_or1 (pt_cmpR op_gt (pe_callB call_len_seq (by rfl) T.n_len PySem.boot_len (pa_cons (pv 0) pa_nil)) (pe_op op_add pe_int (pe_op op_mul pe_int (pe_globS T.g_MOST_PAIRS (by rfl)))) (nomark _)))))
        (pss_one (ps_raise1 X_NoRow hr (by rfl) hX.m_NoRow hX.k_NoRow (pa_cons pe_int pa_nil))) pss_nil)
      (pss_cons (ps_setCE (j := 1) (M := ["k", "words"]) (ρ := [none, some 0]) (defScope s_read_bring) ["words", "pairs"] ⟨rfl, by decide +kernel, by decide +kernel, by decide +kernel, rfl, by decide +kernel, by decide +kernel⟩ sc_read_bring.nd rfl (Or.inl rfl) (pi_range3 (by rfl) T.n_range (pa_cons pe_int (pa_cons (pe_callB call_len_seq (by rfl) T.n_len PySem.boot_len (pa_cons (pv 0) pa_nil)) (pa_cons pe_int pa_nil)))) (fun _ _ _ _ _ _ => (pg_name (i := 0) (show (["k", "words"] : List Str).Nodup by decide +kernel) rfl (Or.inl rfl))) (fun _ _ _ _ _ _ => pts_nil) (fun _ _ _ _ _ _ hp => (pe_fnE C_read_pair hp hr (by rfl) (pa_cons (pe_slice (sl_listK (K := K) rfl) (pv 1) (po_some (pv 0)) (po_some (pe_op op_add (pv 0) pe_int))) pa_nil))))
      (pss_one (ps_ret (pe_tup (pa_cons pe_str (pa_cons (pe_fnE C_read_name passE hr (by rfl) (pa_cons (pe_ix ix_list (pv 0) pe_int (fun _ _ => rfl)) pa_nil)) (pa_cons (pe_callTy call_tuple_of (by rfl) T.n_tuple boot_tuple (pa_cons (pv 1) pa_nil)) pa_nil)))))))), ?_⟩
    refine ⟨_, rfl, l, _, rfl, .inl (SqL.of hl), _, _, rfl, rfl, (by show (0 : Int) < 3; decide), rfl, _, rfl, ?_⟩
    rw [List.length_map]
    by_cases h1 : ws.length % 3 = 1
    · refine iteNS (show V.int ((ws.length : Int) % 3) = V.int 1 from congrArg V.int (by omega)) ?_
      refine ⟨_, rfl, l, _, rfl, .inl (SqL.of hl), _, _, rfl, rfl, .inl ⟨by decide, by decide⟩, _, _, rfl, rfl, _, _, rfl, rfl, _, rfl, ?_⟩
      rw [List.length_map]
      by_cases hmany : ws.length ≤ 19
      · refine iteDN (by omega) ?_
        obtain ⟨p, us, rfl⟩ : ∃ p us, ws = p :: us := by
          match ws, h1 with
          | a :: r, _ => exact ⟨a, r, rfl⟩
        rw [List.length_cons] at h1 hmany
        obtain ⟨n, hn⟩ : ∃ n, us.length = 3 * n := ⟨us.length / 3, by omega⟩
        have hlen : (((p :: us).map V.str).length : Int) = ((3 * n + 1 : Nat) : Int) := by rw [List.length_map, List.length_cons, hn]
        refine ⟨_, rfl, l, _, rfl, .inl (SqL.of hl), 1, _, 3, rfl, ⟨by decide, by decide, by rw [hlen]; omega, by rw [hlen]; omega, by decide, by decide⟩, fun D hD => ?_⟩
        have hrs : (Builtin.Range.rangeSize 1 ((3 * n + 1 : Nat) : Int) 3).toNat = n := rsize (c := 3) (by decide)
        rw [hlen, hrs]
        refine comp_by n (fun i σ H2 => ∃ (v0 : Option V) (vs : List V) (ps : List (Str × Str)), σ = [v0, some (.ref l)] ∧ Same H H2 ∧ H2 D = some (.lst vs) ∧ Pairs H2 vs ps ∧ pairW ps = us.take (3 * i) ∧ ps.length = i ∧ ∀ d ∈ ps, NameOk d.1 ∧ NameOk d.2) ⟨_, [], [], rfl, (Same.refl H).new hD, upd_same, .nil, rfl, rfl, fun d hd => by cases hd⟩ ?_ ?_
        · rintro i σ H2 hi ⟨v0, vs, ps, rfl, s2, hD2, hP, hpw, hpl, hpn⟩
          refine ⟨hi, ?_⟩
          rintro v H3 ⟨rfl, rfl⟩
          refine ntG ?_
          have hvl : vs.length = i := by rw [Paired.length hP, hpl]
          refine ⟨_, rfl, _, rfl, _, rfl, _, rfl, _, _, rfl, rfl, _, rfl, l, _, rfl, SqL.of (s2 _ _ hl), fun a ha => ?_⟩
          have s3 := s2.new (o := .lst (cutV ((p :: us).map V.str) (some (1 + i * 3)) (some (1 + i * 3 + 3)))) ha
          refine ⟨a, (us.drop (3 * i)).take 3, rfl, ?_, ⟨by rw [List.length_take]; omega, fun x hx => hw.2 x (List.mem_cons_of_mem _ (List.mem_of_mem_drop (List.mem_of_mem_take hx)))⟩, (fun g o ego hg ho b H4 s4 hb => ?_), hE.on s3⟩
          · rw [upd_same, show (1 : Int) + i * 3 = ((3 * i + 1 : Nat) : Int) by omega, show ((3 * i + 1 : Nat) : Int) + 3 = ((3 * i + 4 : Nat) : Int) by omega, cut_mid _ _ _ (by omega) (by rw [List.length_map, List.length_cons]; omega)]
            refine congrArg (fun z => some (HO.lst z)) ?_
            rw [show 3 * i + 4 - (3 * i + 1) = 3 by omega, List.map_cons, List.drop_succ_cons, ← List.map_drop, ← List.map_take]
          · have hD3 := upd_keep (o := .lst (cutV ((p :: us).map V.str) (some (1 + i * 3)) (some (1 + i * 3 + 3)))) hD2 ha
            have hD4 := s4 _ _ hD3
            refine ⟨vs, hD4, small1000 (by omega), _, vs ++ [.ref b], ps ++ [(g, o)], rfl, (s3.trans s4).put hD, upd_same, ?_, ?_, by rw [List.length_append, hpl]; rfl, fun d hd => ?_⟩
            · refine Paired.snoc (((hP.mono (Tups.new ha)).mono s4.tups).mono (Tups.lst hD4)) ⟨b, rfl, ?_, hg, ho⟩
              rw [upd_ne (ne_of hb hD4 (by intro z; cases z))]
              exact hb
            · rw [pairW_snoc, hpw, ← ego, show 3 * (i + 1) = 3 * i + 3 by omega, List.take_add]
            · rcases List.mem_append.mp hd with u | u
              · exact hpn d u
              · rw [List.mem_singleton.mp u]; exact ⟨hg, ho⟩
        · rintro σ H2 ⟨v0, vs, ps, rfl, s2, hD2, hP, hpw, hpl, hpn⟩
          refine ⟨Nat.le_refl _, ?_⟩
          rw [← hn, List.take_length] at hpw
          refine ⟨_, rfl, l, _, _, _, rfl, rfl, SqL.of (s2 _ _ hl), atI_nat (j := 0) (v := .str p) rfl, p, rfl, hw.2 p List.mem_cons_self, (fun hp H4 s4 => ?_), hE.on s2⟩
          refine ⟨_, rfl, D, _, rfl, .inl ⟨SqL.of (s4 _ _ hD2), fun t gt => ⟨(by show 3 ≤ sizeLine; decide), fun r gr => ?_⟩⟩⟩
          exact q (.bring p ps) r _ (by show ("bring" : Str) :: p :: pairW ps = _; rw [hpw]) ⟨hp, by omega, hpn⟩ (((s2.trans s4).new gt).new gr) ⟨t, upd_same, ⟨vs, upd_keep upd_same gr, ((hP.mono s4.tups).mono (Tups.new gt)).mono (Tups.new gr)⟩, by omega⟩
      · exact iteDP (by omega) hE.rais
    · show if (!decide (V.int ((ws.length : Int) % 3) = V.int 1)) = true then _ else _
      rw [decide_eq_false (fun z => h1 (by have := V.int.inj z; omega))]
      exact iteT hE.rais
theorem inV_strs (x : Str) : ∀ l : List Str, inV (.str x) (l.map V.str) = decide (x ∈ l)
  | [] => by simp [inV]
  | a :: r => by
    have ih := inV_strs x r
    unfold inV at ih ⊢
    rw [List.map_cons, List.any_cons, ih]
    by_cases e : a = x
    · subst e; simp [eqV]
    · have h2 : ¬ x = a := fun z => e z.symm
      simp [eqV, e, h2]
theorem split_ne3 (x : Str) : PySem.Txt.split x " " ≠ [] := fun z => by
  have h := StrLaws.join_split x " "
  rw [z] at h
  rw [← h] at z
  exact absurd z (by decide +kernel)
noncomputable def spAnyE (A : Adr) : Sp := fun vs H Q E => ∃ x : Str, vs = [.str x] ∧ x.length ≤ 100000 ∧ Wok (PySem.Txt.split x " ") ∧ (∀ (rw : Rw) (r : Addr) (H' : Hp), rowW rw = PySem.Txt.split x " " → RwOk rw → Same H H' → RowAt H' r rw → Q (.ref r) H') ∧ Ref A H E
theorem ok_anyE (T : Txt K mg) {A : Adr} (hX : XTxt K mg A) : L2.ClE P w K mg base 7 "read_row" ["text"] (spAnyE A) := by
  have C_read_bring := ok_bringE (P := P) (w := w) (base := base) T hX
  have C_read_pair := ok_pairE (P := P) (w := w) (base := base) T hX
  have C_read_set := ok_setE (P := P) (w := w) (base := base) T hX
  have C_read_say := ok_sayE (P := P) (w := w) (base := base) T hX
  have C_read_sum := ok_sumE (P := P) (w := w) (base := base) T hX
  have C_read_ask := ok_askE (P := P) (w := w) (base := base) T hX
  have C_read_only_name := ok_onlyE (P := P) (w := w) (base := base) T hX
  have X_NoRow := ok_initN (P := P) (w := w) (base := base) hX
  refine ClE.of T.d_read_row sc_read_row (fun vs H Q E h => ?_) (fun _ _ _ _ _ _ us hl => by obtain ⟨a, rfl⟩ := len1 hl; rfl) (fun f cdv A0 outer s H vs Q E hr h => ?_)
  · obtain ⟨x, rfl, _⟩ := h
    rfl
  · obtain ⟨x, rfl, hx, hw, q, hE⟩ := h
    have hne := split_ne3 x
    refine ⟨_, (pss_cons (ps_set (i := 1) sc_read_row.nd rfl (Or.inl rfl) (pe_bm PySem.F.plainAttrs_str PySem.F.slot_str_split PySem.F.type_str_split mt_split (pv 0) (pa_cons pe_str pa_nil)))
      (pss_cons (ps_set (i := 2) sc_read_row.nd rfl (Or.inl rfl) (pe_ix ix_list (pv 1) pe_int (fun _ _ => rfl)))
      (pss_cons (ps_set (i := 3) sc_read_row.nd rfl (Or.inl rfl) (pe_slice sl_list (pv 1) (po_some pe_int) po_none))
      (pss_cons (ps_if (pt_cmpR op_eq (pv 2) pe_str (nomark _))
        (pss_one (ps_ret (pe_fnE C_read_bring passE hr (by rfl) (pa_cons (pv 3) pa_nil)))) pss_nil)
      (pss_cons (ps_if (pt_cmpR op_eq (pv 2) pe_str (nomark _))
        (pss_one (ps_ret (pe_op op_catA (pe_tup (pa_cons pe_str pa_nil)) (pe_fnE C_read_pair passE hr (by rfl) (pa_cons (pv 3) pa_nil))))) pss_nil)
      (pss_cons (ps_if (pt_cmpR op_eq (pv 2) pe_str (nomark _))
        (pss_one (ps_ret (pe_fnE C_read_set passE hr (by rfl) (pa_cons (pv 3) pa_nil)))) pss_nil)
      (pss_cons (ps_if (pt_cmpR op_eq (pv 2) pe_str (nomark _))
        (pss_one (ps_ret (pe_fnE C_read_say passE hr (by rfl) (pa_cons (pv 3) pa_nil)))) pss_nil)
      (pss_cons (ps_if (pt_cmpR op_eq (pv 2) pe_str (nomark _))
        (pss_one (ps_ret (pe_tup (pa_cons pe_str (pa_cons (pe_fnE C_read_sum passE hr (by rfl) (pa_cons (pv 3) pa_nil)) pa_nil))))) pss_nil)
      (pss_cons (ps_if (pt_cmpR op_eq (pv 2) pe_str (nomark _))
        (pss_one (ps_ret (pe_fnE C_read_ask passE hr (by rfl) (pa_cons (pv 3) pa_nil)))) pss_nil)
      (pss_cons (ps_if (pt_cmpR op_in_seq (pv 2) (pe_tup (pa_cons pe_str (pa_cons pe_str (pa_cons pe_str pa_nil)))) (by with_unfolding_all rfl))
        (pss_one (ps_ret (pe_tup (pa_cons (pv 2) (pa_cons (pe_fnE C_read_only_name passE hr (by rfl) (pa_cons (pv 3) pa_nil)) pa_nil))))) pss_nil)
      (pss_one (ps_raise1 X_NoRow hr (by rfl) hX.m_NoRow hX.k_NoRow (pa_cons pe_int pa_nil))))))))))))), ?_⟩
    refine ⟨_, rfl, rfl, _, _, rfl, rfl, (by decide +kernel), hx, fun l hl => ?_⟩
    generalize PySem.Txt.split x " " = ws at hw q hne ⊢
    obtain ⟨k, us, rfl⟩ : ∃ k us, ws = k :: us := by
      cases ws with
      | nil => exact absurd rfl hne
      | cons a b => exact ⟨a, b, rfl⟩
    refine ⟨_, rfl, l, _, _, _, rfl, rfl, SqL.of upd_same, atI_nat (j := 0) (v := .str k) rfl, ?_⟩
    refine ⟨_, rfl, _, rfl, l, _, rfl, SqL.of upd_same, fun d hd => ?_⟩
    have s1 := ((Same.refl H).new (o := .lst ((k :: us).map V.str)) hl).new (o := .lst (cutV ((k :: us).map V.str) (some 1) none)) hd
    have hd1 : upd (upd H l (.lst ((k :: us).map V.str))) d (.lst (cutV ((k :: us).map V.str) (some 1) none)) d = some (.lst (us.map V.str)) := by
      rw [upd_same]
      exact congrArg (fun z => some (HO.lst z)) (cut_from _ 1 (by simp))
    generalize upd (upd H l (.lst ((k :: us).map V.str))) d (.lst (cutV ((k :: us).map V.str) (some 1) none)) = H1 at s1 hd1 ⊢
    have hwu : Wok us := hw.drop 1
    have hE1 := hE.on s1
    by_cases e1 : k = "bring"
    · subst e1
      exact ⟨_, rfl, rfl, _, rfl, iteSE ⟨_, rfl, d, us, rfl, hd1, hwu, (fun rw r H2 e ho s2 hr' => q rw r H2 e ho (s1.trans s2) hr'), hE1⟩⟩
    refine ⟨_, rfl, rfl, _, rfl, iteSN e1 ?_⟩
    by_cases e2 : k = "give"
    · subst e2
      refine ⟨_, rfl, rfl, _, rfl, iteSE ?_⟩
      refine ⟨(by show 1 ≤ sizeLine; decide), fun a ha => ⟨_, rfl, d, us, rfl, upd_keep hd1 ha, hwu, (fun g o ego hg ho b H2 s2 hb => ?_), hE.on (s1.new ha)⟩⟩
      exact ⟨a, b, _, _, rfl, rfl, SqT.of (s2 _ _ upd_same), SqT.of hb, (by show 1 + 2 ≤ sizeLine; decide), (fun z => by cases z), (fun _ z => by cases z), fun _ _ r hr' => q (.give g o) r _ (by rw [ego]; rfl) ⟨hg, ho⟩ (((s1.new ha).trans s2).new hr') upd_same⟩
    refine ⟨_, rfl, rfl, _, rfl, iteSN e2 ?_⟩
    by_cases e3 : k = "set"
    · subst e3
      exact ⟨_, rfl, rfl, _, rfl, iteSE ⟨_, rfl, d, us, rfl, hd1, hwu, (fun rw r H2 e ho s2 hr' => q rw r H2 e ho (s1.trans s2) hr'), hE1⟩⟩
    refine ⟨_, rfl, rfl, _, rfl, iteSN e3 ?_⟩
    by_cases e4 : k = "say"
    · subst e4
      exact ⟨_, rfl, rfl, _, rfl, iteSE ⟨_, rfl, d, us, rfl, hd1, hwu, (fun rw r H2 e ho s2 hr' => q rw r H2 e ho (s1.trans s2) hr'), hE1⟩⟩
    refine ⟨_, rfl, rfl, _, rfl, iteSN e4 ?_⟩
    by_cases e5 : k = "need"
    · subst e5
      refine ⟨_, rfl, rfl, _, rfl, iteSE ⟨_, rfl, d, us, rfl, hd1, hwu, (fun ts t H2 hts hok s2 ht => ⟨(by show 2 ≤ sizeLine; decide), fun r hr' => ?_⟩), hE1⟩⟩
      exact q (.need ts) r _ (by show ("need" : Str) :: sumW ts = _; rw [hts]) hok ((s1.trans s2).new hr') ⟨t, upd_same, ht.mono (Tups.new hr')⟩
    refine ⟨_, rfl, rfl, _, rfl, iteSN e5 ?_⟩
    by_cases e6 : k = "ask"
    · subst e6
      exact ⟨_, rfl, rfl, _, rfl, iteSE ⟨_, rfl, d, us, rfl, hd1, hwu, (fun rw r H2 e ho s2 hr' => q rw r H2 e ho (s1.trans s2) hr'), hE1⟩⟩
    refine ⟨_, rfl, rfl, _, rfl, iteSN e6 ?_⟩
    refine ⟨_, rfl, (by show 3 ≤ sizeLine; decide), fun a ha => ⟨a, _, rfl, .inr (SqT.of upd_same), rfl, rfl, _, rfl, ?_⟩⟩
    by_cases e7 : k = "take" ∨ k = "part" ∨ k = "do"
    · rw [show (if false = true then !inV (V.str k) [V.str "take", V.str "part", V.str "do"] else inV (V.str k) [V.str "take", V.str "part", V.str "do"]) = true by rcases e7 with e | e | e <;> subst e <;> decide +kernel]
      refine iteT ⟨_, rfl, _, rfl, d, us, rfl, upd_keep hd1 ha, hwu, (fun o eo ho H2 s2 => ⟨(by show 2 ≤ sizeLine; decide), fun r hr' => ?_⟩), hE.on (s1.new ha)⟩
      have s3 := ((s1.new ha).trans s2).new (o := .tup [.str k, .str o]) hr'
      rcases e7 with e | e | e
      · subst e
        exact q (.take o) r _ (by rw [eo]; rfl) ho s3 upd_same
      · subst e
        exact q (.part o) r _ (by rw [eo]; rfl) ho s3 upd_same
      · subst e
        exact q (.doo o) r _ (by rw [eo]; rfl) ho s3 upd_same
    · rw [show (if false = true then !inV (V.str k) [V.str "take", V.str "part", V.str "do"] else inV (V.str k) [V.str "take", V.str "part", V.str "do"]) = false by
        have n1 : k ≠ "take" := fun z => e7 (.inl z)
        have n2 : k ≠ "part" := fun z => e7 (.inr (.inl z))
        have n3 : k ≠ "do" := fun z => e7 (.inr (.inr z))
        rw [if_neg Bool.false_ne_true, show [V.str "take", V.str "part", V.str "do"] = ([("take" : Str), "part", "do"]).map V.str from rfl, inV_strs]
        exact decide_eq_false (by simp [n1, n2, n3])]
      exact iteF (hE.on (s1.new ha)).rais
theorem ok_cell (T : Txt K mg) : Cl P w K mg base 1 "_law_cell_at" ["_law_script", "_law_k"] (spCell K) := by
  refine Cl.of T.d_law_cell_at sc_law_cell_at (fun vs H Q E h => ?_) (fun _ _ _ _ _ _ us hl => by obtain ⟨a, b, rfl⟩ := len2 hl; rfl) (fun f cdv A outer s H vs Q E hr h => ?_)
  · obtain ⟨a, ns, k, rfl, _⟩ := h
    rfl
  · obtain ⟨a, ns, k, rfl, hS, h0, q⟩ := h
    refine ⟨_, (pss_cons (ps_if (pt_cmpR op_lt (pv 1) (pe_callB call_len_seq (by rfl) T.n_len PySem.boot_len (pa_cons (pv 0) pa_nil)) (nomark _))
        (pss_one (ps_ret (pe_ix ix_list (pv 0) (pv 1) (fun _ _ => rfl)))) pss_nil)
      (pss_one (ps_ret pe_int))), ?_⟩
    refine ⟨_, rfl, _, rfl, a, _, rfl, .inl hS, _, _, rfl, rfl, _, rfl, ?_⟩
    refine ite2 (fun hlt => ?_) (fun hlt => ?_)
    · have hlt' : k < (ns.length : Int) := by simpa using hlt
      refine ⟨_, rfl, _, rfl, a, _, _, _, rfl, rfl, hS, atI_map V.int ns 0 h0 hlt', ?_⟩
      exact q _
    · exact q 0
theorem signs_let : ∀ i : Nat, i < 26 → isLet (("abcdefghijklmnopqrstuvwxyz0123456789" : Str).cps.toList.getD i 0) = true := by decide +kernel
theorem signs_sg : ∀ i : Nat, i < 36 → isSg (("abcdefghijklmnopqrstuvwxyz0123456789" : Str).cps.toList.getD i 0) = true := by decide +kernel
theorem signs_len : ("abcdefghijklmnopqrstuvwxyz0123456789" : Str).cps.toList.length = 36 := by decide +kernel
theorem signs_len' : ("abcdefghijklmnopqrstuvwxyz0123456789" : Str).length ≤ sizeLine := by decide +kernel
theorem menu_ok : ∀ y ∈ (["when", "as", "set", "take", "say", "need", "ask", "part", "do", "bring", "give"] : List Str), NameOk y := by decide +kernel
theorem ok_name (T : Txt K mg) : Cl P w K mg base 1 "_law_name" ["_law_cell"] spName := by
  refine Cl.of T.d_law_name sc_law_name (fun vs H Q E h => ?_) (fun _ _ _ _ _ _ us hl => by obtain ⟨a, rfl⟩ := len1 hl; rfl) (fun f cdv A outer s H vs Q E hr h => ?_)
  · obtain ⟨c, rfl, _⟩ := h
    rfl
  · obtain ⟨c, rfl, q⟩ := h
    refine ⟨_, (pss_cons (ps_set (i := 1) sc_law_name.nd rfl (Or.inl rfl) pe_str)
      (pss_cons (ps_if (pt_cmpR op_eq (pe_op op_mod (pv 0) pe_int) pe_int (nomark _))
        (pss_one (ps_ret (pe_ix ix_list (pe_lst (pa_strs (.cons (.cons (.cons (.cons (.cons (.cons (.cons (.cons (.cons (.cons (.cons .nil))))))))))))) (pe_op op_mod (pe_op op_fdiv (pv 0) pe_int) pe_int) (fun _ _ => rfl)))) pss_nil)
      (pss_cons (ps_set (i := 2) sc_law_name.nd rfl (Or.inl rfl) (pe_op op_mod (pe_op op_fdiv (pv 0) pe_int) (pe_op op_mul (pe_op op_mul pe_int pe_int) (pe_op op_pow pe_int pe_int))))
      (pss_cons (ps_set (i := 3) sc_law_name.nd rfl (Or.inl rfl) (pe_op op_add pe_int (pe_op op_mod (pv 2) pe_int)))
      (pss_cons (ps_set (i := 2) sc_law_name.nd rfl (Or.inl rfl) (pe_op op_fdiv (pv 2) pe_int))
      (pss_cons (ps_set (i := 4) sc_law_name.nd rfl (Or.inl rfl) (pe_ix ix_str (pv 1) (pe_op op_mod (pv 2) pe_int) (fun _ _ => rfl)))
      (pss_cons (ps_set (i := 2) sc_law_name.nd rfl (Or.inl rfl) (pe_op op_fdiv (pv 2) pe_int))
      (pss_cons (ps_for PassesOwn.never rfl (pi_range1 (by rfl) T.n_range (pa_cons (pe_op op_sub (pv 3) pe_int) pa_nil)) (pg_name (i := 5) sc_law_name.nd rfl (Or.inl rfl))
        (pss_cons (ps_set (i := 4) sc_law_name.nd rfl (Or.inl rfl) (pe_op op_add_str (pv 4) (pe_ix ix_str (pv 1) (pe_op op_mod (pv 2) pe_int) (fun _ _ => rfl))))
        (pss_one (ps_set (i := 2) sc_law_name.nd rfl (Or.inl rfl) (pe_op op_fdiv (pv 2) pe_int)))))
      (pss_one (ps_ret (pv 4))))))))))), ?_⟩
    refine ⟨_, rfl, _, _, rfl, rfl, (by show (0 : Int) < 7; decide), rfl, _, rfl, ?_⟩
    refine ite2 (fun _ => ?_) (fun _ => ?_)
    · obtain ⟨y, hy, e⟩ := atI_menu (["when", "as", "set", "take", "say", "need", "ask", "part", "do", "bring", "give"] : List Str) (i := c / 7 % 11) (by omega) (by show c / 7 % 11 < 11; omega)
      refine ⟨(by show 11 ≤ sizeLine; decide), fun p hp => ⟨_, rfl, _, _, rfl, rfl, ⟨by decide, by decide⟩, _, _, rfl, rfl, (by show (0 : Int) < 11; decide), p, _, _, _, rfl, rfl, SqL.of upd_same, e, ?_⟩⟩
      exact q y _ ((Same.refl H).new hp) (menu_ok y hy)
    · refine ⟨_, rfl, _, _, rfl, rfl, ⟨by decide, by decide⟩, _, _, rfl, rfl, .inl ⟨by decide, by decide⟩, _, _, rfl, rfl, ⟨by decide, by decide, by decide⟩, _, _, rfl, rfl, .inl ⟨by decide, by decide⟩, _, _, rfl, rfl, (by show (0 : Int) < 8 * 26 * 36 ^ (7 : Int).toNat; decide), ?_⟩
      show gName 2 (V.int (c / 7 % (8 * 26 * 36 ^ (7 : Int).toNat))) _ _ _
      generalize c / 7 % (8 * 26 * 36 ^ (7 : Int).toNat) = n
      refine ⟨_, rfl, _, _, rfl, rfl, (by show (0 : Int) < 8; decide), _, _, rfl, rfl, ?_⟩
      refine ⟨_, rfl, _, _, rfl, rfl, ⟨by decide, by decide⟩, ?_⟩
      have h1 : 0 ≤ n / 8 % 26 := by omega
      have h2 : n / 8 % 26 < 26 := by omega
      refine ⟨_, rfl, _, rfl, _, _, rfl, rfl, (by show (0 : Int) < 26; decide), _, _, _, rfl, rfl, signs_len', atI_getD _ 0 h1 (by rw [signs_len]; omega), ?_⟩
      have l0 := signs_let (n / 8 % 26).toNat (by omega)
      show gName 4 (V.str ⟨#[("abcdefghijklmnopqrstuvwxyz0123456789" : Str).cps.toList.getD (n / 8 % 26).toNat 0]⟩) _ _ _
      generalize ("abcdefghijklmnopqrstuvwxyz0123456789" : Str).cps.toList.getD (n / 8 % 26).toNat 0 = c0 at l0 ⊢
      refine ⟨_, rfl, _, _, rfl, rfl, ⟨by decide, by decide⟩, ?_⟩
      refine ⟨_, rfl, _, _, rfl, rfl, _, rfl, (by omega), (by omega), for_range (fun i σ H2 => H2 = H ∧ ∃ (z : Int) (x : Str) (kv : Option V), σ = [some (.int c), some (.str "abcdefghijklmnopqrstuvwxyz0123456789"), some (.int z), some (.int (1 + n % 8)), some (.str x), kv] ∧ NameOk x ∧ x.length = i + 1)
        ⟨rfl, _, _, _, rfl, nameOk_one l0, rfl⟩ ?_ ?_⟩
      · rintro i σ H2 hi ⟨rfl, z, x, kv, rfl, hx, hl⟩
        have g1 : 0 ≤ z % 36 := by omega
        have g2 : z % 36 < 36 := by omega
        refine ⟨_, rfl, _, rfl, _, rfl, _, _, rfl, rfl, (by show (0 : Int) < 36; decide), _, _, _, rfl, rfl, signs_len', atI_getD _ 0 g1 (by rw [signs_len]; omega), _, _, rfl, rfl, (by show x.length + 1 ≤ sizeLine; rw [hl]; exact Nat.le_of_lt (small1000 (by omega))), ?_⟩
        have l1 := signs_sg (z % 36).toNat (by omega)
        refine ⟨_, rfl, _, _, rfl, rfl, ⟨by decide, by decide⟩, ?_⟩
        obtain ⟨g3, g4⟩ := nameOk_snoc hx l1 (by omega)
        exact ⟨rfl, _, _, _, rfl, g3, by rw [g4, hl]⟩
      · rintro σ H2 ⟨rfl, z, x, kv, rfl, hx, hl⟩
        exact ⟨_, rfl, q x _ (Same.refl _) hx⟩
noncomputable def strsOf : List Expr → Option (List Str)
  | [] => some []
  | .Constant (.str x) _ _ :: r => (strsOf r).map (x :: ·)
  | _ => none
theorem strs_of : ∀ {es : List Expr} {ys : List Str}, strsOf es = some ys → StrsE es ys
  | [], ys, h => by
    have : ys = [] := by simpa [strsOf] using h.symm
    rw [this]
    exact .nil
  | e :: r, ys, h => by
    unfold strsOf at h
    split at h
    · rename_i he
      cases he
    · rename_i x _ _ r' he
      cases he
      cases e2 : strsOf r with
      | none => rw [e2] at h; cases h
      | some zs =>
        rw [e2] at h
        have : ys = x :: zs := (Option.some.inj h).symm
        rw [this]
        exact .cons (strs_of e2)
    · cases h
theorem pe_strs {X : Cx} {es : List Expr} {pos : Pos} (ys : List Str) (h : strsOf es = some ys) : PE X (.List es pos) (tLst fun _ H Q => Q (ys.map V.str) H) := pe_lst (pa_strs (strs_of h))
noncomputable def elts : Expr → List Expr
  | .List es _ => es
  | .BinOp _ _ (.List es _) _ => es
  | _ => []
noncomputable def valAt : Stmt → Expr
  | .Assign _ e _ => e
  | _ => .Name "x" ⟨0, 0, 0, 0⟩
theorem to_g {X R : TS} {D : Ends} {r : VK} {b k : L2.St → Hp → Prop} {i : Nat} {v : V} {σ : L2.St} {H : Hp} (h : tSeq X R D (σ.set i (some v)) H) : gName i v σ H (Ends.nx ⟨tSeq X R D, r, b, k⟩) := h
theorem ifx_join {t : TT} {te : TE} {R : TS} {D : Ends} {σ : L2.St} {H : Hp} {b : Bool} (J : Hp → Prop) (ht : ∀ Q : Bool → Hp → Prop, Q b H → t σ H Q) (hA : b = true → ∀ Q : VK, (∀ x H', J H' → Q x H') → te σ H Q) (h0 : b = false → J H) (hR : ∀ H', J H' → R D σ H') : tSeq (tIfS t (tDrop te) tNext) R D σ H := by
  refine ht _ ?_
  cases b with
  | true => exact iteT (hA rfl _ fun x H' h => hR H' h)
  | false => exact iteF (hR H (h0 rfl))
theorem ifs_join {t : TT} {te : TE} {R : TS} {D : Ends} {i : Nat} {σ : L2.St} {H : Hp} {r : VK} {b k : L2.St → Hp → Prop} {v : V} (J : V → Hp → Prop) (ht : ∀ Q : Bool → Hp → Prop, (∀ a, Q a H) → t (σ.set i (some v)) H Q) (hA : ∀ Q : VK, (∀ x H', J x H' → Q x H') → te (σ.set i (some v)) H Q) (h0 : J v H) (hR : ∀ x H', J x H' → R D (σ.set i (some x)) H') : gName i v σ H (Ends.nx ⟨tSeq (tIfS t (tAsg te (gName i)) tNext) R D, r, b, k⟩) := by
  refine ht _ fun a => ?_
  cases a with
  | true =>
    refine iteT (hA _ fun x H' h => ?_)
    show R D ((σ.set i (some v)).set i (some x)) H'
    rw [List.set_set]
    exact hR x H' h
  | false => exact iteF (hR v H h0)
structure P4 (ts : List (Int × Th)) (n : Nat) : Prop where
  len : ts.length = n
  th : ∀ p ∈ ts, ThOk p.2
  sg : ∀ p ∈ ts, p.1 = 1 ∨ p.1 = -1
  hd : ∀ p, ts.head? = some p → p.1 = 1
theorem P4.nil : P4 [] 0 := ⟨rfl, fun _ h => (by cases h), fun _ h => (by cases h), fun _ h => (by cases h)⟩
theorem P4.snoc {ts : List (Int × Th)} {n : Nat} (h : P4 ts n) {z : Int} {t : Th} (ht : ThOk t) (hz : z = 1 ∨ z = -1) (h0 : n = 0 → z = 1) : P4 (ts ++ [(z, t)]) (n + 1) := by
  refine ⟨by rw [List.length_append, h.len]; rfl, fun p hp => ?_, fun p hp => ?_, fun p hp => ?_⟩
  · rcases List.mem_append.mp hp with u | u
    · exact h.th p u
    · rw [List.mem_singleton.mp u]; exact ht
  · rcases List.mem_append.mp hp with u | u
    · exact h.sg p u
    · rw [List.mem_singleton.mp u]; exact hz
  · cases ts with
    | nil => rw [← Option.some.inj hp]; exact h0 h.len.symm
    | cons a r => exact h.hd p hp
theorem P4.ok {ts : List (Int × Th)} {n : Nat} (h : P4 ts n) (h1 : 1 ≤ n) (h6 : n ≤ 6) : SumOk ts := ⟨by rw [h.len]; exact h1, by rw [h.len]; exact h6, h.th, h.sg, h.hd⟩
noncomputable def pre4 (ts : List (Int × Th)) (z : Int) : List Str := if ts.length = 0 then [] else sumW ts ++ [sgS z]
theorem pre4_snoc (ts : List (Int × Th)) (z : Int) (t : Th) : sumW (ts ++ [(z, t)]) = pre4 ts z ++ [thS t] := by
  unfold pre4
  cases ts with
  | nil => rfl
  | cons a r =>
    rw [if_neg (by simp), sumW_snoc z t (by simp), List.append_assoc]
    rfl
theorem sum_short {ts : List (Int × Th)} {n : Nat} (h : P4 ts n) : (sumW ts).length ≤ 2 * n := by
  cases ts with
  | nil => exact Nat.zero_le _
  | cons a r =>
    have := sumW_len (ts := a :: r) (by simp)
    rw [h.len] at this
    omega
noncomputable def spSum4 (K : PySem.W.Frag) : Sp := fun vs H Q _ => ∃ (a : Addr) (ns : List Int) (k m : Int), vs = [.ref a, .int k, .int m] ∧ SqL K H a (ns.map V.int) ∧ 0 ≤ k ∧ 1 ≤ m ∧ m ≤ 7 ∧
  ∀ (l : Addr) (ts : List (Int × Th)) (H' : Hp), Same H H' → H' l = some (.lst ((sumW ts).map V.str)) → P4 ts m.toNat → Q (.ref l) H'
theorem pm_at (c : Int) : ∃ z : Int, (z = 1 ∨ z = -1) ∧ atI [V.str "+", V.str "-"] (c % 2) = some (.str (sgS z)) := by
  by_cases h : c % 2 = 0
  · rw [h]; exact ⟨1, .inl rfl, rfl⟩
  · rw [show c % 2 = 1 by omega]; exact ⟨-1, .inr rfl, rfl⟩
theorem log60 {c : Int} (h0 : 0 ≤ c) (h1 : c < 10 ^ (60 : Int).toNat) : c.natAbs.log2 < 1920 := by
  by_cases z : c.natAbs = 0
  · rw [z]; decide
  · refine (Nat.log2_lt z).mpr (Nat.lt_of_lt_of_le (m := 10 ^ 60) ?_ (by decide))
    have : ((10 : Int) ^ (60 : Int).toNat) = ((10 ^ 60 : Nat) : Int) := by decide
    rw [this] at h1
    omega
theorem ok_sum4 (T : Txt K mg) : L2.Cl P w K mg base 2 "_law_sum" ["_law_script", "_law_at", "_law_many"] (spSum4 K) := by
  have C_law_cell_at := ok_cell (P := P) (w := w) (base := base) T
  have C_law_name := ok_name (P := P) (w := w) (base := base) T
  refine Cl.of T.d_law_sum sc_law_sum (fun vs H Q E h => ?_) (fun _ _ _ _ _ _ us hl => by obtain ⟨a, b, c, rfl⟩ := len3 hl; rfl) (fun f cdv A outer s H vs Q E hr h => ?_)
  · obtain ⟨a, ns, k, mm, rfl, _⟩ := h
    rfl
  · obtain ⟨a, ns, k, mm, rfl, hS, h0, hm1, hm6, q⟩ := h
    refine ⟨_, (pss_cons (ps_set (i := 3) sc_law_sum.nd rfl (Or.inl rfl) (pe_lst pa_nil))
      (pss_cons (ps_for PassesOwn.never rfl (pi_range1 (by rfl) T.n_range (pa_cons (pv 2) pa_nil)) (pg_name (i := 4) sc_law_sum.nd rfl (Or.inl rfl))
        (pss_cons (ps_set (i := 5) sc_law_sum.nd rfl (Or.inl rfl) (pe_fn C_law_cell_at hr (by rfl) (pa_cons (pv 0) (pa_cons (pe_op op_add (pv 1) (pv 4)) pa_nil))))
        (pss_cons (ps_if (pt_cmpR op_gt (pv 4) pe_int (nomark _))
          (pss_one (ps_expr (pe_bm PySem.F.plainAttrs_list PySem.F.slot_list_append PySem.F.type_list_append mt_append (pv 3) (pa_cons (pe_ix ix_list (pe_lst (pa_cons pe_str (pa_cons pe_str pa_nil))) (pe_op op_mod (pv 5) pe_int) (fun _ _ => rfl)) pa_nil)))) pss_nil)
        (pss_one (ps_if (pt_cmpR op_eq (pe_op op_mod (pe_op op_fdiv (pv 5) pe_int) pe_int) pe_int (nomark _))
          (pss_one (ps_expr (pe_bm PySem.F.plainAttrs_list PySem.F.slot_list_append PySem.F.type_list_append mt_append (pv 3) (pa_cons (pe_fn C_law_name hr (by rfl) (pa_cons (pe_op op_fdiv (pv 5) pe_int) pa_nil)) pa_nil)))) (pss_one (ps_expr (pe_bm PySem.F.plainAttrs_list PySem.F.slot_list_append PySem.F.type_list_append mt_append (pv 3) (pa_cons (pe_callTy call_str_int (by rfl) T.n_str boot_str (pa_cons (pe_op op_mod (pe_op op_fdiv (pv 5) pe_int) (pe_op op_pow pe_int pe_int)) pa_nil)) pa_nil)))))))))
      (pss_one (ps_ret (pv 3))))), ?_⟩
    refine ⟨(by show 0 ≤ sizeLine; decide), fun l hl => ?_⟩
    have s1 : Same H (upd H l (.lst [])) := (Same.refl H).new hl
    refine ⟨_, rfl, mm, rfl, (by omega), (by have : sizeLine = 16777216 := sizeLine_eq; omega), for_range (fun i σ H2 => ∃ (ts : List (Int × Th)) (v4 v5 : Option V), σ = [some (.ref a), some (.int k), some (.int mm), some (.ref l), v4, v5] ∧ Same H H2 ∧ H2 l = some (.lst ((sumW ts).map V.str)) ∧ P4 ts i)
      ⟨[], none, none, rfl, s1, upd_same, P4.nil⟩ ?_ ?_⟩
    · rintro i σ H2 hi ⟨ts, v4, v5, rfl, s2, hl2, hp⟩
      have hi7 : i < 7 := by omega
      have hsl := sum_short hp
      refine ⟨_, rfl, _, rfl, _, rfl, _, _, rfl, rfl, a, ns, _, rfl, s2.seq hS, (by omega), fun c => ?_⟩
      refine to_g ?_
      refine ifx_join (b := decide (0 < (0 : Int) + i)) (fun H3 => ∃ z : Int, (z = 1 ∨ z = -1) ∧ (i = 0 → z = 1) ∧ Same H H3 ∧ H3 l = some (.lst ((pre4 ts z).map V.str))) (fun Q' h' => ⟨_, rfl, _, _, rfl, rfl, _, rfl, h'⟩) (fun hb Q' hQ => ?_) (fun hb => ?_) ?_
      · have hi0 : 0 < i := by have := of_decide_eq_true hb; omega
        obtain ⟨z, hz, ez⟩ := pm_at c
        refine ⟨_, rfl, .inl ⟨rfl, _, SqL.of hl2⟩, (by show 2 ≤ sizeLine; decide), fun p gp => ⟨_, rfl, _, _, rfl, rfl, (by show (0 : Int) < 2; decide), p, _, _, _, rfl, rfl, SqL.of upd_same, ez, l, _, _, rfl, rfl, upd_keep hl2 gp, small1000 (by rw [List.length_map]; omega), hQ _ _ ⟨z, hz, fun e => absurd e (by omega), (s2.new gp).put hl, ?_⟩⟩⟩
        rw [upd_same]
        unfold pre4
        rw [if_neg (by rw [hp.len]; omega), List.map_append]
        rfl
      · have hi0 : i = 0 := by have := of_decide_eq_false hb; omega
        refine ⟨1, .inl rfl, fun _ => rfl, s2, ?_⟩
        unfold pre4
        rw [if_pos (by rw [hp.len]; exact hi0), hl2]
        have : ts = [] := List.length_eq_zero_iff.mp (by rw [hp.len]; exact hi0)
        rw [this]
        rfl
      · rintro H3 ⟨z, hz, hz0, s3, hl3⟩
        have hpl : (pre4 ts z).length ≤ 20 := by
          unfold pre4
          split
          · exact Nat.zero_le _
          · rw [List.length_append]; show _ + 1 ≤ 20; omega
        refine ⟨_, rfl, _, _, rfl, rfl, ⟨by decide, by decide⟩, _, _, rfl, rfl, (by show (0 : Int) < 2; decide), rfl, _, rfl, ite2 (fun _ => ?_) (fun _ => ?_)⟩
        · refine ⟨_, rfl, .inl ⟨rfl, _, SqL.of hl3⟩, _, rfl, _, _, rfl, rfl, ⟨by decide, by decide⟩, _, rfl, fun x H4 s4 hx => ⟨l, _, _, rfl, rfl, s4 _ _ hl3, small1000 (by rw [List.length_map]; omega), ?_⟩⟩
          refine ⟨ts ++ [(z, .nam x)], _, _, rfl, (s3.trans s4).put hl, ?_, hp.snoc (t := .nam x) hx hz hz0⟩
          rw [upd_same, pre4_snoc, List.map_append]
          rfl
        · have m0 : 0 ≤ c / 4 % 10 ^ (60 : Int).toNat := Int.emod_nonneg _ (by decide)
          have m1 : c / 4 % 10 ^ (60 : Int).toNat < 10 ^ (60 : Int).toNat := Int.emod_lt_of_pos _ (by decide)
          refine ⟨_, rfl, .inl ⟨rfl, _, SqL.of hl3⟩, _, rfl, _, _, rfl, rfl, ⟨by decide, by decide⟩, _, _, rfl, rfl, ⟨by decide, by decide, by decide⟩, _, _, rfl, rfl, (by show (0 : Int) < 10 ^ (60 : Int).toNat; decide), _, rfl, log60 m0 m1, l, _, _, rfl, rfl, hl3, small1000 (by rw [List.length_map]; omega), ?_⟩
          refine ⟨ts ++ [(z, .num (c / 4 % 10 ^ (60 : Int).toNat))], _, _, rfl, s3.put hl, ?_, hp.snoc (t := .num _) ⟨m0, m1⟩ hz hz0⟩
          rw [upd_same, pre4_snoc, List.map_append]
          rfl
    · rintro σ H2 ⟨ts, v4, v5, rfl, s2, hl2, hp⟩
      exact ⟨_, rfl, q l ts H2 s2 hl2 hp⟩
noncomputable def spWords4 (K : PySem.W.Frag) : Sp := fun vs H Q _ => ∃ (a : Addr) (ns : List Int), vs = [.ref a] ∧ SqL K H a (ns.map V.int) ∧
  ∀ (l : Addr) (rw : Rw) (H' : Hp), Same H H' → H' l = some (.lst ((rowW rw).map V.str)) → RwOk rw → Q (.ref l) H'
theorem ok_words4 (T : Txt K mg) : L2.Cl P w K mg base 3 "_law_words" ["_law_script"] (spWords4 K) := by
  have C_law_cell_at := ok_cell (P := P) (w := w) (base := base) T
  have C_law_name := ok_name (P := P) (w := w) (base := base) T
  have C_law_sum := ok_sum4 (P := P) (w := w) (base := base) T
  refine Cl.of T.d_law_words sc_law_words (fun vs H Q E h => ?_) (fun _ _ _ _ _ _ us hl => by obtain ⟨a, rfl⟩ := len1 hl; rfl) (fun f cdv A outer s H vs Q E hr h => ?_)
  · obtain ⟨a, ns, rfl, _⟩ := h
    rfl
  · obtain ⟨a, ns, rfl, hS, q⟩ := h
    refine ⟨_, (pss_cons (ps_set (i := 1) sc_law_words.nd rfl (Or.inl rfl) (pe_op op_mod (pe_fn C_law_cell_at hr (by rfl) (pa_cons (pv 0) (pa_cons pe_int pa_nil))) pe_int))
      (pss_cons (ps_set (i := 2) sc_law_words.nd rfl (Or.inl rfl) (pe_fn C_law_name hr (by rfl) (pa_cons (pe_fn C_law_cell_at hr (by rfl) (pa_cons (pv 0) (pa_cons pe_int pa_nil))) pa_nil)))
      (pss_cons (ps_set (i := 3) sc_law_words.nd rfl (Or.inl rfl) (pe_fn C_law_name hr (by rfl) (pa_cons (pe_fn C_law_cell_at hr (by rfl) (pa_cons (pv 0) (pa_cons pe_int pa_nil))) pa_nil)))
      (pss_cons (ps_set (i := 4) sc_law_words.nd rfl (Or.inl rfl) (pe_fn C_law_sum hr (by rfl) (pa_cons (pv 0) (pa_cons pe_int (pa_cons (pe_op op_add pe_int (pe_op op_mod (pe_fn C_law_cell_at hr (by rfl) (pa_cons (pv 0) (pa_cons pe_int pa_nil))) pe_int)) pa_nil)))))
      (pss_cons (ps_set (i := 5) sc_law_words.nd rfl (Or.inl rfl) (pe_lst pa_nil))
      (pss_cons (ps_if (pt_cmpR op_gt (pe_op op_mod (pe_fn C_law_cell_at hr (by rfl) (pa_cons (pv 0) (pa_cons pe_int pa_nil))) pe_int) pe_int (nomark _))
        (pss_one (ps_set (i := 5) sc_law_words.nd rfl (Or.inl rfl) (pe_lst (pa_cons pe_str (pa_cons (pe_fn C_law_name hr (by rfl) (pa_cons (pe_op op_fdiv (pe_fn C_law_cell_at hr (by rfl) (pa_cons (pv 0) (pa_cons pe_int pa_nil))) pe_int) pa_nil)) pa_nil))))) pss_nil)
      (pss_cons (ps_if (pt_cmpR op_eq (pv 1) pe_int (nomark _))
        (pss_one (ps_ret (pe_lst (pa_cons pe_str (pa_cons (pv 3) pa_nil))))) pss_nil)
      (pss_cons (ps_if (pt_cmpR op_eq (pv 1) pe_int (nomark _))
        (pss_one (ps_ret (pe_lst (pa_cons pe_str (pa_cons (pv 3) (pa_cons (pv 2) (pa_cons pe_str (pa_cons (pe_fn C_law_name hr (by rfl) (pa_cons (pe_fn C_law_cell_at hr (by rfl) (pa_cons (pv 0) (pa_cons pe_int pa_nil))) pa_nil)) pa_nil)))))))) pss_nil)
      (pss_cons (ps_if (pt_cmpR op_eq (pv 1) pe_int (nomark _))
        (pss_one (ps_ret (pe_lst (pa_cons pe_str (pa_cons (pv 2) (pa_cons pe_str (pa_cons (pv 3) pa_nil))))))) pss_nil)
      (pss_cons (ps_if (PW.pt (pw_or (pt_cmpR op_eq (pv 1) pe_int (nomark _)) (pw_or1 (pt_cmpR op_eq (pv 1) pe_int (nomark _)))))
        (pss_one (ps_ret (pe_op op_cat (pe_lst (pa_cons pe_str (pa_cons (pv 2) (pa_cons pe_str pa_nil)))) (pv 4)))) pss_nil)
      (pss_cons (ps_if (pt_cmpR op_eq (pv 1) pe_int (nomark _))
        (pss_one (ps_ret (pe_op op_cat (pe_op op_cat (pe_lst (pa_cons pe_str pa_nil)) (pv 4)) (pv 5)))) pss_nil)
      (pss_cons (ps_if (pt_cmpR op_eq (pv 1) pe_int (nomark _))
        (pss_one (ps_ret (pe_op op_cat (pe_lst (pa_cons pe_str pa_nil)) (pv 4)))) pss_nil)
      (pss_cons (ps_if (pt_cmpR op_eq (pv 1) pe_int (nomark _))
        (pss_one (ps_ret (pe_op op_cat (pe_lst (pa_cons pe_str (pa_cons (pv 3) pa_nil))) (pv 5)))) pss_nil)
      (pss_one (ps_ret (pe_ix ix_list (pe_lst (pa_cons (pe_lst (pa_cons pe_str (pa_cons (pv 3) pa_nil))) (pa_cons (pe_lst (pa_cons pe_str (pa_cons (pv 2) pa_nil))) pa_nil))) (pe_op op_mod (pv 1) pe_int) (fun _ _ => rfl))))))))))))))))), ?_⟩
    refine ⟨_, rfl, a, ns, _, rfl, hS, by decide, fun c0 => ⟨_, _, rfl, rfl, (by show (0 : Int) < 10; decide), ?_⟩⟩
    have k0 : 0 ≤ c0 % 10 := Int.emod_nonneg _ (by decide)
    have k1 : c0 % 10 < 10 := Int.emod_lt_of_pos _ (by decide)
    show gName 1 (.int (c0 % 10)) _ _ _
    generalize c0 % 10 = kd at k0 k1 ⊢
    refine ⟨_, rfl, a, ns, _, rfl, hS, by decide, fun c1 => ⟨_, rfl, fun own H1 s1 hown => ?_⟩⟩
    refine ⟨_, rfl, a, ns, _, rfl, s1.seq hS, by decide, fun c2 => ⟨_, rfl, fun part H2 s2' hpart => ?_⟩⟩
    have s2 := s1.trans s2'
    refine ⟨_, rfl, _, rfl, a, ns, _, rfl, s2.seq hS, by decide, fun c3 => ⟨_, _, rfl, rfl, (by show (0 : Int) < 6; decide), _, _, rfl, rfl, a, ns, _, _, rfl, s2.seq hS, by decide, by omega, by omega, fun l ts H3 s3' hl hts => ?_⟩⟩
    have s3 := s2.trans s3'
    have hsum : SumOk ts := hts.ok (by omega) (by omega)
    refine ⟨(by show 0 ≤ sizeLine; decide), fun b gb => ?_⟩
    have s4 := s3.new (o := .lst []) gb
    have hl4 : upd H3 b (.lst []) l = some (.lst ((sumW ts).map V.str)) := upd_keep hl gb
    have hb4 : upd H3 b (.lst []) b = some (.lst []) := upd_same
    generalize upd H3 b (.lst []) = H4 at s4 hl4 hb4 ⊢
    refine ifs_join (fun x H5 => ∃ (b5 : Addr) (w5 : Option Str), x = .ref b5 ∧ Same H H5 ∧ H5 l = some (.lst ((sumW ts).map V.str)) ∧ H5 b5 = some (.lst ((whenW w5).map V.str)) ∧ OptOk w5) (fun Q' h' => ⟨_, rfl, a, ns, _, rfl, s4.seq hS, by decide, fun c4 => ⟨_, _, rfl, rfl, (by show (0 : Int) < 3; decide), _, _, rfl, rfl, _, rfl, h' _⟩⟩) (fun Q' hQ => ?_) ⟨b, none, rfl, s4, hl4, hb4, fun x hx => by cases hx⟩ ?_
    · refine ⟨_, rfl, a, ns, _, rfl, s4.seq hS, by decide, fun c4 => ⟨_, _, rfl, rfl, ⟨by decide, by decide⟩, _, rfl, fun x H5 s5 hx => ⟨(by show 2 ≤ sizeLine; decide), fun b5 gb5 => hQ _ _ ⟨b5, some x, rfl, (s4.trans s5).new gb5, upd_keep (s5 _ _ hl4) gb5, upd_same, fun y hy => by cases hy; exact hx⟩⟩⟩⟩
    · rintro x H5 ⟨b5, w5, rfl, s5, hl5, hb5, hw5⟩
      have hsz : sizeLine = 16777216 := sizeLine_eq
      have hsl := sum_short hts
      have hsl6 : (sumW ts).length ≤ 14 := by omega
      have hwl : (whenW w5).length ≤ 2 := whenW_len w5
      refine ⟨_, rfl, rfl, _, rfl, ite2I (fun _ => ?_) fun n0 => ?_⟩
      · exact ⟨_, rfl, (by show 2 ≤ sizeLine; decide), fun p gp => q p (.bring part []) _ (s5.new gp) upd_same ⟨hpart, by decide, fun _ h => by cases h⟩⟩
      refine ⟨_, rfl, rfl, _, rfl, ite2I (fun _ => ?_) fun n1 => ?_⟩
      · refine ⟨_, rfl, _, rfl, _, rfl, a, ns, _, rfl, s5.seq hS, by decide, fun c => ⟨_, rfl, fun x H6 s6 hx => ⟨(by show 5 ≤ sizeLine; decide), fun p gp => q p (.bring part [(own, x)]) _ ((s5.trans s6).new gp) upd_same ⟨hpart, (by show 1 ≤ 6; decide), fun y hy => ?_⟩⟩⟩⟩
        rw [List.mem_singleton.mp hy]
        exact ⟨hown, hx⟩
      refine ⟨_, rfl, rfl, _, rfl, ite2I (fun _ => ?_) fun n2 => ?_⟩
      · exact ⟨_, rfl, _, rfl, (by show 4 ≤ sizeLine; decide), fun p gp => q p (.give own part) _ (s5.new gp) upd_same ⟨hown, hpart⟩⟩
      refine ⟨_, rfl, rfl, _, rfl, ite2I (fun _ => iteT ?_) fun n3 => ⟨_, rfl, rfl, _, rfl, ite2I (fun _ => ?_) fun n4 => ?_⟩⟩
      · exact ⟨_, rfl, (by show 3 ≤ sizeLine; decide), fun p gp => ⟨_, rfl, p, l, _, _, rfl, rfl, upd_same, upd_keep hl5 gp, (by rw [List.length_map]; show 3 + _ ≤ _; omega), fun r gr => q r (.set own ts) _ ((s5.new gp).new gr) upd_same ⟨hown, hsum⟩⟩⟩
      · exact ⟨_, rfl, (by show 3 ≤ sizeLine; decide), fun p gp => ⟨_, rfl, p, l, _, _, rfl, rfl, upd_same, upd_keep hl5 gp, (by rw [List.length_map]; show 3 + _ ≤ _; omega), fun r gr => q r (.set own ts) _ ((s5.new gp).new gr) upd_same ⟨hown, hsum⟩⟩⟩
      refine ⟨_, rfl, rfl, _, rfl, ite2I (fun _ => ?_) fun n5 => ?_⟩
      · refine ⟨(by show 1 ≤ sizeLine; decide), fun p gp => ⟨_, rfl, p, l, _, _, rfl, rfl, upd_same, upd_keep hl5 gp, (by rw [List.length_map]; show 1 + _ ≤ _; omega), fun r gr => ⟨_, rfl, r, b5, _, _, rfl, rfl, upd_same, upd_keep (upd_keep hb5 gp) gr, (by rw [List.length_append, List.length_map, List.length_map]; show 1 + _ + _ ≤ _; omega), fun t gt => q t (.say ts w5) _ (((s5.new gp).new gr).new gt) ?_ ⟨hsum, hw5⟩⟩⟩⟩
        rw [upd_same]
        show _ = some (HO.lst ((("say" : Str) :: (sumW ts ++ whenW w5)).map V.str))
        rw [List.map_cons, List.map_append]
        rfl
      refine ⟨_, rfl, rfl, _, rfl, ite2I (fun _ => ?_) fun n6 => ?_⟩
      · exact ⟨(by show 1 ≤ sizeLine; decide), fun p gp => ⟨_, rfl, p, l, _, _, rfl, rfl, upd_same, upd_keep hl5 gp, (by rw [List.length_map]; show 1 + _ ≤ _; omega), fun r gr => q r (.need ts) _ ((s5.new gp).new gr) upd_same hsum⟩⟩
      refine ⟨_, rfl, rfl, _, rfl, ite2I (fun _ => ?_) fun n7 => ?_⟩
      · exact ⟨_, rfl, (by show 2 ≤ sizeLine; decide), fun p gp => ⟨_, rfl, p, b5, _, _, rfl, rfl, upd_same, upd_keep hb5 gp, (by rw [List.length_map]; show 2 + _ ≤ _; omega), fun r gr => q r (.ask part w5) _ ((s5.new gp).new gr) upd_same ⟨hpart, hw5⟩⟩⟩
      refine ⟨_, rfl, (by show 2 ≤ sizeLine; decide), fun p gp => ⟨_, rfl, (by show 2 ≤ sizeLine; decide), fun p2 gp2 => ⟨(by show 2 ≤ sizeLine; decide), fun p3 gp3 => ?_⟩⟩⟩
      by_cases h : kd % 2 = 0
      · refine ⟨_, rfl, _, _, rfl, rfl, (by show (0 : Int) < 2; decide), p3, _, _, _, rfl, rfl, SqL.of upd_same, (by rw [h]; rfl), ?_⟩
        exact q p (.part part) _ (((s5.new gp).new gp2).new gp3) (upd_keep (upd_keep upd_same gp2) gp3) hpart
      · refine ⟨_, rfl, _, _, rfl, rfl, (by show (0 : Int) < 2; decide), p3, _, _, _, rfl, rfl, SqL.of upd_same, (by rw [show kd % 2 = 1 by omega]; rfl), ?_⟩
        exact q p2 (.doo own) _ (((s5.new gp).new gp2).new gp3) (upd_keep upd_same gp3) hown
theorem join_cps (a b : Str) (r : List Str) : (Str.join " " (a :: b :: r)).cps.toList = a.cps.toList ++ ((" " : Str).cps.toList ++ (Str.join " " (b :: r)).cps.toList) := by
  have := join_app " " (b :: r) (by simp) [a] (by simp)
  have e : Str.join " " (a :: b :: r) = Str.join " " [a] ++ " " ++ Str.join " " (b :: r) := this
  have e1 : Str.join " " [a] = a := rfl
  rw [e, e1, cps_app, cps_app, List.append_assoc]
theorem join_cps1 (a : Str) : (Str.join " " [a]).cps.toList = a.cps.toList := rfl
noncomputable def odd4 (u v : Str) : List (List Str) := [[""], [u], ["say"], ["say", u, "+"], ["say", "+", u], ["say", u, "*", v], ["need", u, v], ["say", u, "when", v, "when", u], ["set", u, ":", v], ["set", "=", u],
  ["set", u, "="], ["say", u, "-", "-", v], ["ask", u, "if", v], ["give", u, "to", v], ["bring", u, v, "as"], ["say", u ++ "+" ++ v], ["say", "-", u], ["set", u, "=", "-", v], ["need", "-", "7"], ["say", "7", "-", "-", "7"]]
theorem o3 (u : Str) : "say " ++ u ++ " +" = Str.join " " ["say", u, "+"] := str_ext (by simp only [cps_app, join_cps, join_cps1, List.append_assoc]; rfl)
theorem o4 (u : Str) : "say + " ++ u = Str.join " " ["say", "+", u] := str_ext (by simp only [cps_app, join_cps, join_cps1, List.append_assoc]; rfl)
theorem o5 (u v : Str) : "say " ++ u ++ " * " ++ v = Str.join " " ["say", u, "*", v] := str_ext (by simp only [cps_app, join_cps, join_cps1, List.append_assoc]; rfl)
theorem o6 (u v : Str) : "need " ++ u ++ " " ++ v = Str.join " " ["need", u, v] := str_ext (by simp only [cps_app, join_cps, join_cps1, List.append_assoc]; rfl)
theorem o7 (u v : Str) : "say " ++ u ++ " when " ++ v ++ " when " ++ u = Str.join " " ["say", u, "when", v, "when", u] := str_ext (by simp only [cps_app, join_cps, join_cps1, List.append_assoc]; rfl)
theorem o8 (u v : Str) : "set " ++ u ++ " : " ++ v = Str.join " " ["set", u, ":", v] := str_ext (by simp only [cps_app, join_cps, join_cps1, List.append_assoc]; rfl)
theorem o9 (u : Str) : "set = " ++ u = Str.join " " ["set", "=", u] := str_ext (by simp only [cps_app, join_cps, join_cps1, List.append_assoc]; rfl)
theorem o10 (u : Str) : "set " ++ u ++ " =" = Str.join " " ["set", u, "="] := str_ext (by simp only [cps_app, join_cps, join_cps1, List.append_assoc]; rfl)
theorem o11 (u v : Str) : "say " ++ u ++ " - - " ++ v = Str.join " " ["say", u, "-", "-", v] := str_ext (by simp only [cps_app, join_cps, join_cps1, List.append_assoc]; rfl)
theorem o12 (u v : Str) : "ask " ++ u ++ " if " ++ v = Str.join " " ["ask", u, "if", v] := str_ext (by simp only [cps_app, join_cps, join_cps1, List.append_assoc]; rfl)
theorem o13 (u v : Str) : "give " ++ u ++ " to " ++ v = Str.join " " ["give", u, "to", v] := str_ext (by simp only [cps_app, join_cps, join_cps1, List.append_assoc]; rfl)
theorem o14 (u v : Str) : "bring " ++ u ++ " " ++ v ++ " as" = Str.join " " ["bring", u, v, "as"] := str_ext (by simp only [cps_app, join_cps, join_cps1, List.append_assoc]; rfl)
theorem o15 (u v : Str) : "say " ++ u ++ "+" ++ v = Str.join " " ["say", u ++ "+" ++ v] := str_ext (by simp only [cps_app, join_cps, join_cps1, List.append_assoc]; rfl)
theorem o16 (u : Str) : "say - " ++ u = Str.join " " ["say", "-", u] := str_ext (by simp only [cps_app, join_cps, join_cps1, List.append_assoc]; rfl)
theorem o17 (u v : Str) : "set " ++ u ++ " = - " ++ v = Str.join " " ["set", u, "=", "-", v] := str_ext (by simp only [cps_app, join_cps, join_cps1, List.append_assoc]; rfl)
theorem o18 : ("need - 7" : Str) = Str.join " " ["need", "-", "7"] := by decide +kernel
theorem o19 : ("say 7 - - 7" : Str) = Str.join " " ["say", "7", "-", "-", "7"] := by decide +kernel
noncomputable def odd5 (u v : Str) : List Str := ["", u, "say", "say " ++ u ++ " +", "say + " ++ u, "say " ++ u ++ " * " ++ v, "need " ++ u ++ " " ++ v, "say " ++ u ++ " when " ++ v ++ " when " ++ u, "set " ++ u ++ " : " ++ v, "set = " ++ u,
  "set " ++ u ++ " =", "say " ++ u ++ " - - " ++ v, "ask " ++ u ++ " if " ++ v, "give " ++ u ++ " to " ++ v, "bring " ++ u ++ " " ++ v ++ " as", "say " ++ u ++ "+" ++ v, "say - " ++ u, "set " ++ u ++ " = - " ++ v, "need - 7", "say 7 - - 7"]
theorem odd_eq (u v : Str) : odd5 u v = (odd4 u v).map (Str.join " ") := by
  unfold odd5 odd4
  simp only [List.map_cons, List.map_nil]
  rw [o3, o4, o5, o6, o7, o8, o9, o10, o11, o12, o13, o14, o15, o16, o17, o18, o19]
  rfl
theorem plus_no {u v : Str} : ¬ Thing (u ++ "+" ++ v) := by
  have hm : 43 ∈ (u ++ "+" ++ v).cps.toList := by
    rw [cps_app, cps_app]
    have : ("+" : Str).cps.toList = [43] := by decide +kernel
    rw [this]
    simp
  rintro (h | h)
  · have := NameOk.signs (x := u ++ "+" ++ v) h 43 hm
    exact absurd this (by decide)
  · unfold isNumL at h
    simp only [Bool.and_eq_true, List.all_eq_true] at h
    exact absurd (h.2 43 hm) (by decide)
theorem wcons {a : Str} {r : List Str} (ha : Wd4 a) (h : ∀ x ∈ r, Wd4 x) : ∀ x ∈ a :: r, Wd4 x := fun x hx => by
  rcases List.mem_cons.mp hx with z | z
  · rw [z]; exact ha
  · exact h x z
theorem wnil : ∀ x ∈ ([] : List Str), Wd4 x := fun x hx => by cases hx
noncomputable instance (x : Str) : Decidable (Wd4 x) := inferInstanceAs (Decidable (_ ∧ _))
theorem wlit : Wd4 "say" ∧ Wd4 "+" ∧ Wd4 "*" ∧ Wd4 "need" ∧ Wd4 "when" ∧ Wd4 "set" ∧ Wd4 ":" ∧ Wd4 "=" ∧ Wd4 "-" ∧ Wd4 "ask" ∧ Wd4 "if" ∧ Wd4 "give" ∧ Wd4 "to" ∧ Wd4 "bring" ∧ Wd4 "as" ∧ Wd4 "7" ∧ Wd4 "" := by decide +kernel
theorem wd_plus {u v : Str} (hu : NameOk u) (hv : NameOk v) : Wd4 (u ++ "+" ++ v) := by
  have h1 := hu.word
  have h2 := hv.word
  refine ⟨?_, ?_⟩
  · rw [cps_app, cps_app]
    have : ("+" : Str).cps.toList = [43] := by decide +kernel
    rw [this]
    intro h
    rcases List.mem_append.mp h with z | z
    · rcases List.mem_append.mp z with z | z
      · exact h1.nb z
      · simp at z
    · exact h2.nb z
  · rw [Str.length_append, Str.length_append]
    have : ("+" : Str).length = 1 := by decide +kernel
    have := h1.len
    have := h2.len
    omega
theorem no_lenN {k y : Str} {us : List Str} {n : Nat} (hn : us.length + 2 = n) (h : lenB k n = false) : ¬ Shape (k :: y :: us) := no_len (by rw [hn]; exact h)
theorem odd_bad {u v : Str} (hu : NameOk u) (hv : NameOk v) : ∀ ws ∈ odd4 u v, Bad4 ws := by
  have wu := wd_name hu
  have wv := wd_name hv
  obtain ⟨l1, l2, l3, l4, l5, l6, l7, l8, l9, l10, l11, l12, l13, l14, l15, l16, l17⟩ := wlit
  have hgive : ¬ Mid "give" ["to", v] := fun m => absurd (Option.some.inj (show some ("to" : Str) = some ("as" : Str) from m.1 rfl)) (by decide)
  have hset : ¬ Mid "set" [":", v] := fun m => absurd (Option.some.inj (show some (":" : Str) = some ("=" : Str) from m.2.1 rfl)) (by decide)
  have hask : ¬ Mid "ask" ["if", v] := fun m => (m.2.2.1 rfl).elim (fun z => by cases z) (fun z => absurd (Option.some.inj (show some ("if" : Str) = some ("when" : Str) from z)) (by decide))
  intro ws hw
  unfold odd4 at hw
  simp only [List.mem_cons, List.not_mem_nil, or_false] at hw
  rcases hw with rfl | rfl | rfl | rfl | rfl | rfl | rfl | rfl | rfl | rfl | rfl | rfl | rfl | rfl | rfl | rfl | rfl | rfl | rfl | rfl
  · exact ⟨by simp, by simp, wcons l17 wnil, no_one _⟩
  · exact ⟨by simp, by simp, wcons wu wnil, no_one _⟩
  · exact ⟨by simp, by simp, wcons l1 wnil, no_one _⟩
  · exact ⟨by simp, by simp, wcons l1 (wcons wu (wcons l2 wnil)), no_lenN (n := 3) rfl (by decide +kernel)⟩
  · exact ⟨by simp, by simp, wcons l1 (wcons l2 (wcons wu wnil)), no_lenN (n := 3) rfl (by decide +kernel)⟩
  · exact ⟨by simp, by simp, wcons l1 (wcons wu (wcons l3 (wcons wv wnil))), no_sayS (by decide) (by decide) (by decide)⟩
  · exact ⟨by simp, by simp, wcons l4 (wcons wu (wcons wv wnil)), no_lenN (n := 3) rfl (by decide +kernel)⟩
  · exact ⟨by simp, by simp, wcons l1 (wcons wu (wcons l5 (wcons wv (wcons l5 (wcons wu wnil))))), no_sayW⟩
  · exact ⟨by simp, by simp, wcons l6 (wcons wu (wcons l7 (wcons wv wnil))), no_mid hset⟩
  · exact ⟨by simp, by simp, wcons l6 (wcons l8 (wcons wu wnil)), no_lenN (n := 3) rfl (by decide +kernel)⟩
  · exact ⟨by simp, by simp, wcons l6 (wcons wu (wcons l8 wnil)), no_lenN (n := 3) rfl (by decide +kernel)⟩
  · exact ⟨by simp, by simp, wcons l1 (wcons wu (wcons l9 (wcons l9 (wcons wv wnil)))), no_lenN (n := 5) rfl (by decide +kernel)⟩
  · exact ⟨by simp, by simp, wcons l10 (wcons wu (wcons l11 (wcons wv wnil))), no_mid hask⟩
  · exact ⟨by simp, by simp, wcons l12 (wcons wu (wcons l13 (wcons wv wnil))), no_mid hgive⟩
  · exact ⟨by simp, by simp, wcons l14 (wcons wu (wcons wv (wcons l15 wnil))), no_lenN (n := 4) rfl (by decide +kernel)⟩
  · exact ⟨by simp, by simp, wcons l1 (wcons (wd_plus hu hv) wnil), no_thing plus_no⟩
  · exact ⟨by simp, by simp, wcons l1 (wcons l9 (wcons wu wnil)), no_lenN (n := 3) rfl (by decide +kernel)⟩
  · exact ⟨by simp, by simp, wcons l6 (wcons wu (wcons l8 (wcons l9 (wcons wv wnil)))), no_lenN (n := 5) rfl (by decide +kernel)⟩
  · exact ⟨by simp, by simp, wcons l4 (wcons l9 (wcons l16 wnil)), no_lenN (n := 3) rfl (by decide +kernel)⟩
  · exact ⟨by simp, by simp, wcons l1 (wcons l16 (wcons l9 (wcons l9 (wcons l16 wnil)))), no_lenN (n := 5) rfl (by decide +kernel)⟩
noncomputable def spOdd : Sp := fun vs H Q _ => ∃ (u v : Str) (c : Int), vs = [.str u, .str v, .int c] ∧ NameOk u ∧ NameOk v ∧ ∀ (ws : List Str) (H' : Hp), Same H H' → Bad4 ws → Q (.str (Str.join " " ws)) H'
theorem ok_odd (T : Txt K mg) : L2.Cl P w K mg base 1 "_law_odd" ["_law_one", "_law_other", "_law_cell"] spOdd := by
  refine Cl.of T.d_law_odd sc_law_odd (fun vs H Q E h => ?_) (fun _ _ _ _ _ _ us hl => by obtain ⟨a, b, c, rfl⟩ := len3 hl; rfl) (fun f cdv A outer s H vs Q E hr h => ?_)
  · obtain ⟨u, v, c, rfl, _⟩ := h
    rfl
  · obtain ⟨u, v, c, rfl, hu, hv, q⟩ := h
    refine ⟨_, (pss_cons (ps_set (i := 3) sc_law_odd.nd rfl (Or.inl rfl) (pe_lst (pa_cons pe_str (pa_cons (pv 0) (pa_cons pe_str (pa_cons (pe_op op_add_str (pe_op op_add_str pe_str (pv 0)) pe_str) (pa_cons (pe_op op_add_str pe_str (pv 0)) (pa_cons (pe_op op_add_str (pe_op op_add_str (pe_op op_add_str pe_str (pv 0)) pe_str) (pv 1)) pa_nil))))))))
      (pss_cons (ps_expr (pe_bm PySem.F.plainAttrs_list PySem.F.slot_list_append PySem.F.type_list_append mt_append (pv 3) (pa_cons (pe_op op_add_str (pe_op op_add_str (pe_op op_add_str pe_str (pv 0)) pe_str) (pv 1)) pa_nil)))
      (pss_cons (ps_set (i := 3) sc_law_odd.nd rfl (Or.inl rfl) (pe_op op_cat (pv 3) (pe_lst (pa_cons (pe_op op_add_str (pe_op op_add_str (pe_op op_add_str (pe_op op_add_str (pe_op op_add_str pe_str (pv 0)) pe_str) (pv 1)) pe_str) (pv 0)) (pa_cons (pe_op op_add_str (pe_op op_add_str (pe_op op_add_str pe_str (pv 0)) pe_str) (pv 1)) pa_nil)))))
      (pss_cons (ps_expr (pe_bm PySem.F.plainAttrs_list PySem.F.slot_list_append PySem.F.type_list_append mt_append (pv 3) (pa_cons (pe_op op_add_str pe_str (pv 0)) pa_nil)))
      (pss_cons (ps_set (i := 3) sc_law_odd.nd rfl (Or.inl rfl) (pe_op op_cat (pv 3) (pe_lst (pa_cons (pe_op op_add_str (pe_op op_add_str pe_str (pv 0)) pe_str) (pa_cons (pe_op op_add_str (pe_op op_add_str (pe_op op_add_str pe_str (pv 0)) pe_str) (pv 1)) (pa_cons (pe_op op_add_str (pe_op op_add_str (pe_op op_add_str pe_str (pv 0)) pe_str) (pv 1)) pa_nil))))))
      (pss_cons (ps_set (i := 3) sc_law_odd.nd rfl (Or.inl rfl) (pe_op op_cat (pv 3) (pe_lst (pa_cons (pe_op op_add_str (pe_op op_add_str (pe_op op_add_str pe_str (pv 0)) pe_str) (pv 1)) (pa_cons (pe_op op_add_str (pe_op op_add_str (pe_op op_add_str (pe_op op_add_str pe_str (pv 0)) pe_str) (pv 1)) pe_str) (pa_cons (pe_op op_add_str (pe_op op_add_str (pe_op op_add_str pe_str (pv 0)) pe_str) (pv 1)) pa_nil))))))
      (pss_cons (ps_set (i := 3) sc_law_odd.nd rfl (Or.inl rfl) (pe_op op_cat (pv 3) (pe_lst (pa_cons (pe_op op_add_str pe_str (pv 0)) (pa_cons (pe_op op_add_str (pe_op op_add_str (pe_op op_add_str pe_str (pv 0)) pe_str) (pv 1)) (pa_cons pe_str (pa_cons pe_str pa_nil)))))))
      (pss_one (ps_ret (pe_ix ix_list (pv 3) (pe_op op_mod (pv 2) pe_int) (fun _ _ => rfl))))))))))), ?_⟩
    have lu : u.length ≤ 61 := hu.word.len
    have lv : v.length ≤ 61 := hv.word.len
    have hlit : ("say " : Str).length ≤ 8 ∧ (" +" : Str).length ≤ 8 ∧ ("say + " : Str).length ≤ 8 ∧ (" * " : Str).length ≤ 8 ∧ ("need " : Str).length ≤ 8 ∧ (" " : Str).length ≤ 8 ∧ (" when " : Str).length ≤ 8 ∧ ("set " : Str).length ≤ 8 ∧ (" : " : Str).length ≤ 8 ∧ ("set = " : Str).length ≤ 8 ∧ (" =" : Str).length ≤ 8 ∧ (" - - " : Str).length ≤ 8 ∧ ("ask " : Str).length ≤ 8 ∧ (" if " : Str).length ≤ 8 ∧ ("give " : Str).length ≤ 8 ∧ (" to " : Str).length ≤ 8 ∧ ("bring " : Str).length ≤ 8 ∧ (" as" : Str).length ≤ 8 ∧ ("+" : Str).length ≤ 8 ∧ ("say - " : Str).length ≤ 8 ∧ (" = - " : Str).length ≤ 8 := by decide +kernel
    obtain ⟨g0, g1, g2, g3, g4, g5, g6, g7, g8, g9, g10, g11, g12, g13, g14, g15, g16, g17, g18, g19, g20⟩ := hlit
    have hsz : sizeLine = 16777216 := sizeLine_eq
    refine ⟨_, rfl, _, rfl, _, _, rfl, rfl, (by first | omega | (simp only [Str.length_append]; omega)), _, _, rfl, rfl, (by first | omega | (simp only [Str.length_append]; omega)), _, rfl, _, _, rfl, rfl, (by first | omega | (simp only [Str.length_append]; omega)), _, rfl, _, _, rfl, rfl, (by first | omega | (simp only [Str.length_append]; omega)), _, _, rfl, rfl, (by first | omega | (simp only [Str.length_append]; omega)), _, rfl, _, _, rfl, rfl, (by first | omega | (simp only [Str.length_append]; omega)), (by show 6 ≤ sizeLine; decide), fun l gl => ?_⟩
    refine ⟨_, rfl, .inl ⟨rfl, _, SqL.of upd_same⟩, _, rfl, _, _, rfl, rfl, (by first | omega | (simp only [Str.length_append]; omega)), _, _, rfl, rfl, (by first | omega | (simp only [Str.length_append]; omega)), _, rfl, _, _, rfl, rfl, (by first | omega | (simp only [Str.length_append]; omega)), l, _, _, rfl, rfl, upd_same, (by show 6 < sizeLine; decide), ?_⟩
    have s1 : Same H (upd (upd H l (.lst ((odd5 u v).take 6 |>.map V.str))) l (.lst ((odd5 u v).take 7 |>.map V.str))) := ((Same.refl H).new gl).put gl
    have h1 : (upd (upd H l (.lst ((odd5 u v).take 6 |>.map V.str))) l (.lst ((odd5 u v).take 7 |>.map V.str))) l = some (.lst ((odd5 u v).take 7 |>.map V.str)) := upd_same
    change tSeq _ _ _ _ (upd (upd H l (.lst ((odd5 u v).take 6 |>.map V.str))) l (.lst ((odd5 u v).take 7 |>.map V.str)))
    generalize upd (upd H l (.lst ((odd5 u v).take 6 |>.map V.str))) l (.lst ((odd5 u v).take 7 |>.map V.str)) = H1 at s1 h1 ⊢
    refine ⟨_, rfl, _, rfl, _, _, rfl, rfl, (by first | omega | (simp only [Str.length_append]; omega)), _, _, rfl, rfl, (by first | omega | (simp only [Str.length_append]; omega)), _, rfl, _, _, rfl, rfl, (by first | omega | (simp only [Str.length_append]; omega)), _, _, rfl, rfl, (by first | omega | (simp only [Str.length_append]; omega)), _, rfl, _, _, rfl, rfl, (by first | omega | (simp only [Str.length_append]; omega)), _, rfl, _, _, rfl, rfl, (by first | omega | (simp only [Str.length_append]; omega)), _, _, rfl, rfl, (by first | omega | (simp only [Str.length_append]; omega)), _, rfl, _, _, rfl, rfl, (by first | omega | (simp only [Str.length_append]; omega)), (by show 2 ≤ sizeLine; decide), fun b gb => ⟨l, b, _, _, rfl, rfl, upd_keep h1 gb, upd_same, (by show 7 + 2 ≤ sizeLine; decide), fun r gr => ?_⟩⟩
    have gr0 : H r = none := (s1.new gb).free gr
    refine ⟨_, rfl, .inl ⟨rfl, _, SqL.of upd_same⟩, _, rfl, _, _, rfl, rfl, (by first | omega | (simp only [Str.length_append]; omega)), r, _, _, rfl, rfl, upd_same, (by show 9 < sizeLine; decide), ?_⟩
    have s2 : Same H (upd (upd (upd H1 b (.lst ((odd5 u v).drop 7 |>.take 2 |>.map V.str))) r (.lst ((odd5 u v).take 9 |>.map V.str))) r (.lst ((odd5 u v).take 10 |>.map V.str))) := ((s1.new gb).new gr).put gr0
    have h2 : (upd (upd (upd H1 b (.lst ((odd5 u v).drop 7 |>.take 2 |>.map V.str))) r (.lst ((odd5 u v).take 9 |>.map V.str))) r (.lst ((odd5 u v).take 10 |>.map V.str))) r = some (.lst ((odd5 u v).take 10 |>.map V.str)) := upd_same
    change tSeq _ _ _ _ (upd (upd (upd H1 b (.lst ((odd5 u v).drop 7 |>.take 2 |>.map V.str))) r (.lst ((odd5 u v).take 9 |>.map V.str))) r (.lst ((odd5 u v).take 10 |>.map V.str)))
    generalize upd (upd (upd H1 b (.lst ((odd5 u v).drop 7 |>.take 2 |>.map V.str))) r (.lst ((odd5 u v).take 9 |>.map V.str))) r (.lst ((odd5 u v).take 10 |>.map V.str)) = H2 at s2 h2 ⊢
    refine ⟨_, rfl, _, rfl, _, _, rfl, rfl, (by first | omega | (simp only [Str.length_append]; omega)), _, _, rfl, rfl, (by first | omega | (simp only [Str.length_append]; omega)), _, rfl, _, _, rfl, rfl, (by first | omega | (simp only [Str.length_append]; omega)), _, _, rfl, rfl, (by first | omega | (simp only [Str.length_append]; omega)), _, rfl, _, _, rfl, rfl, (by first | omega | (simp only [Str.length_append]; omega)), _, rfl, _, _, rfl, rfl, (by first | omega | (simp only [Str.length_append]; omega)), _, _, rfl, rfl, (by first | omega | (simp only [Str.length_append]; omega)), _, rfl, _, _, rfl, rfl, (by first | omega | (simp only [Str.length_append]; omega)), (by show 3 ≤ sizeLine; decide), fun b0 gb0 => ⟨r, b0, _, _, rfl, rfl, upd_keep h2 gb0, upd_same, (by show 10 + 3 ≤ sizeLine; decide), fun r0 gr0 => ?_⟩⟩
    have s30 : Same H (upd (upd H2 b0 (.lst ((odd5 u v).drop 10 |>.take 3 |>.map V.str))) r0 (.lst ((odd5 u v).take 13 |>.map V.str))) := (s2.new gb0).new gr0
    have h30 : (upd (upd H2 b0 (.lst ((odd5 u v).drop 10 |>.take 3 |>.map V.str))) r0 (.lst ((odd5 u v).take 13 |>.map V.str))) r0 = some (.lst ((odd5 u v).take 13 |>.map V.str)) := upd_same
    change tSeq _ _ _ _ (upd (upd H2 b0 (.lst ((odd5 u v).drop 10 |>.take 3 |>.map V.str))) r0 (.lst ((odd5 u v).take 13 |>.map V.str)))
    generalize upd (upd H2 b0 (.lst ((odd5 u v).drop 10 |>.take 3 |>.map V.str))) r0 (.lst ((odd5 u v).take 13 |>.map V.str)) = H30 at s30 h30 ⊢
    refine ⟨_, rfl, _, rfl, _, _, rfl, rfl, (by first | omega | (simp only [Str.length_append]; omega)), _, _, rfl, rfl, (by first | omega | (simp only [Str.length_append]; omega)), _, rfl, _, _, rfl, rfl, (by first | omega | (simp only [Str.length_append]; omega)), _, rfl, _, _, rfl, rfl, (by first | omega | (simp only [Str.length_append]; omega)), _, _, rfl, rfl, (by first | omega | (simp only [Str.length_append]; omega)), _, rfl, _, _, rfl, rfl, (by first | omega | (simp only [Str.length_append]; omega)), _, _, rfl, rfl, (by first | omega | (simp only [Str.length_append]; omega)), _, rfl, _, _, rfl, rfl, (by first | omega | (simp only [Str.length_append]; omega)), _, _, rfl, rfl, (by first | omega | (simp only [Str.length_append]; omega)), _, rfl, _, _, rfl, rfl, (by first | omega | (simp only [Str.length_append]; omega)), (by show 3 ≤ sizeLine; decide), fun b1 gb1 => ⟨r0, b1, _, _, rfl, rfl, upd_keep h30 gb1, upd_same, (by show 13 + 3 ≤ sizeLine; decide), fun r1 gr1 => ?_⟩⟩
    have s31 : Same H (upd (upd H30 b1 (.lst ((odd5 u v).drop 13 |>.take 3 |>.map V.str))) r1 (.lst ((odd5 u v).take 16 |>.map V.str))) := (s30.new gb1).new gr1
    have h31 : (upd (upd H30 b1 (.lst ((odd5 u v).drop 13 |>.take 3 |>.map V.str))) r1 (.lst ((odd5 u v).take 16 |>.map V.str))) r1 = some (.lst ((odd5 u v).take 16 |>.map V.str)) := upd_same
    change tSeq _ _ _ _ (upd (upd H30 b1 (.lst ((odd5 u v).drop 13 |>.take 3 |>.map V.str))) r1 (.lst ((odd5 u v).take 16 |>.map V.str)))
    generalize upd (upd H30 b1 (.lst ((odd5 u v).drop 13 |>.take 3 |>.map V.str))) r1 (.lst ((odd5 u v).take 16 |>.map V.str)) = H31 at s31 h31 ⊢
    refine ⟨_, rfl, _, rfl, _, _, rfl, rfl, (by first | omega | (simp only [Str.length_append]; omega)), _, rfl, _, _, rfl, rfl, (by first | omega | (simp only [Str.length_append]; omega)), _, _, rfl, rfl, (by first | omega | (simp only [Str.length_append]; omega)), _, rfl, _, _, rfl, rfl, (by first | omega | (simp only [Str.length_append]; omega)), (by show 4 ≤ sizeLine; decide), fun b2 gb2 => ⟨r1, b2, _, _, rfl, rfl, upd_keep h31 gb2, upd_same, (by show 16 + 4 ≤ sizeLine; decide), fun r2 gr2 => ?_⟩⟩
    have s32 : Same H (upd (upd H31 b2 (.lst ((odd5 u v).drop 16 |>.take 4 |>.map V.str))) r2 (.lst ((odd5 u v).take 20 |>.map V.str))) := (s31.new gb2).new gr2
    have h32 : (upd (upd H31 b2 (.lst ((odd5 u v).drop 16 |>.take 4 |>.map V.str))) r2 (.lst ((odd5 u v).take 20 |>.map V.str))) r2 = some (.lst ((odd5 u v).take 20 |>.map V.str)) := upd_same
    show gName 3 _ _ (upd (upd H31 b2 (.lst ((odd5 u v).drop 16 |>.take 4 |>.map V.str))) r2 (.lst ((odd5 u v).take 20 |>.map V.str))) _
    generalize upd (upd H31 b2 (.lst ((odd5 u v).drop 16 |>.take 4 |>.map V.str))) r2 (.lst ((odd5 u v).take 20 |>.map V.str)) = H32 at s32 h32 ⊢
    obtain ⟨y, hy, e⟩ := atI_menu (odd5 u v) (i := c % 20) (by omega) (by show c % 20 < 20; omega)
    rw [odd_eq] at hy
    obtain ⟨ws, hws, rfl⟩ := List.mem_map.mp hy
    exact ⟨_, rfl, _, rfl, _, _, rfl, rfl, (by show (0 : Int) < 20; decide), r2, _, _, _, rfl, rfl, SqL.of h32, e, q ws _ s32 (odd_bad hu hv ws hws)⟩
noncomputable def stAt (i : Nat) : Stmt := (defBody s_law_bad_word).getD i (.Pass ⟨0, 0, 0, 0⟩)
theorem hbody : defBody s_law_bad_word = stAt 0 :: (defBody s_law_bad_word).drop 1 := rfl
theorem shape0 : ∃ xp es p q, stAt 0 = .Assign [.Name "_law_some" xp] (.List es p) q ∧ es = elts (valAt (stAt 0)) := ⟨_, _, _, _, rfl, rfl⟩
noncomputable def bad15 : List Str := ["A", "a_b", "abcdefghi", "1a", "x-y", "01", "+1", "-1", "1_0", "1.0", "00", "a\n", "\t", "a'", "(a)"]
theorem k15 : strsOf (elts (valAt (stAt 0))) = some bad15 := by decide +kernel
noncomputable def bad19 : List Str := bad15 ++ ([("1" : Str) ++ (⟨(List.replicate (60 : Int).toNat ("0" : Str).cps.toList).flatten.toArray⟩ : Str), "7\n", "7\t", "\n7"] : List Str)
theorem bad_facts : ∀ y ∈ bad19, ¬ Thing y ∧ Wd4 y := by decide +kernel
noncomputable def spBadWord : Sp := fun vs H Q _ => ∃ c : Int, vs = [.int c] ∧ ∀ (x : Str) (H' : Hp), Same H H' → ¬ Thing x → Wd4 x → Q (.str x) H'
theorem ok_bad (T : Txt K mg) : L2.Cl P w K mg base 1 "_law_bad_word" ["_law_cell"] spBadWord := by
  refine Cl.of T.d_law_bad_word sc_law_bad_word (fun vs H Q E h => ?_) (fun _ _ _ _ _ _ us hl => by obtain ⟨a, rfl⟩ := len1 hl; rfl) (fun f cdv A outer s H vs Q E hr h => ?_)
  · obtain ⟨c, rfl, _⟩ := h
    rfl
  · obtain ⟨c, rfl, q⟩ := h
    obtain ⟨xp0, es0, p0, q0, e0, he0⟩ := shape0
    rw [hbody, e0]
    refine ⟨_, (pss_cons (ps_set (i := 1) sc_law_bad_word.nd rfl (Or.inl rfl) (pe_strs _ (by rw [he0]; exact k15)))
      (pss_cons (ps_set (i := 1) sc_law_bad_word.nd rfl (Or.inl rfl) (pe_op op_cat (pv 1) (pe_lst (pa_cons (pe_op op_add_str pe_str (pe_op op_repX pe_str pe_int)) (pa_cons pe_str (pa_cons pe_str (pa_cons pe_str pa_nil)))))))
      (pss_one (ps_ret (pe_ix ix_list (pv 1) (pe_op op_mod (pv 0) pe_int) (fun _ _ => rfl)))))), ?_⟩
    refine ⟨(by show 15 ≤ sizeLine; decide), fun l gl => ?_⟩
    refine ⟨_, rfl, _, _, rfl, rfl, by decide, by decide, by decide +kernel, by decide +kernel, _, _, rfl, rfl, by decide +kernel, (by show 4 ≤ sizeLine; decide), fun b gb => ⟨l, b, _, _, rfl, rfl, upd_keep upd_same gb, upd_same, (by show 15 + 4 ≤ sizeLine; decide), fun r gr => ?_⟩⟩
    obtain ⟨y, hy, e⟩ := atI_menu bad19 (i := c % 19) (by omega) (by show c % 19 < 19; omega)
    have hf := bad_facts y hy
    exact ⟨_, rfl, _, rfl, _, _, rfl, rfl, (by show (0 : Int) < 19; decide), r, _, _, _, rfl, rfl, SqL.of upd_same, e, q y _ ((((Same.refl H).new gl).new gb).new gr) hf.1 hf.2⟩
theorem cut_takeV {xs : List V} {k : Nat} (h : k ≤ xs.length) : cutV xs none (some ((k : Nat) : Int)) = xs.take k := by
  unfold cutV
  rw [HT.sIx_none, HT.sIx_nat, Nat.min_eq_left h]
  simp
theorem cut_m1 {xs : List V} (h : 1 ≤ xs.length) : cutV xs none (some (-1)) = xs.take (xs.length - 1) := by
  unfold cutV
  rw [HT.sIx_none]
  have e : HT.sIx xs.length xs.length (some (-1)) = xs.length - 1 := by
    unfold HT.sIx
    simp only []
    split <;> omega
  rw [e]
  simp
theorem wd_app {us vs : List Str} (h : ∀ x ∈ us, Wd4 x) (g : ∀ x ∈ vs, Wd4 x) : ∀ x ∈ us ++ vs, Wd4 x := fun x hx => by
  rcases List.mem_append.mp hx with z | z
  · exact h x z
  · exact g x z
theorem bad_ins {ws : List Str} (h : ∀ x ∈ ws, Wd4 x) (hl : ws.length ≤ 20) (i : Nat) : Bad4 (ws.take i ++ ([""] : List Str) ++ ws.drop i) := by
  refine ⟨by simp, ?_, wd_app (wd_app (fun x hx => h x (List.mem_of_mem_take hx)) (wcons wlit.2.2.2.2.2.2.2.2.2.2.2.2.2.2.2.2 wnil)) (fun x hx => h x (List.mem_of_mem_drop hx)), no_empty (by simp)⟩
  rw [List.length_append, List.length_append, List.length_take, List.length_drop]
  show _ + 1 + _ ≤ 40
  omega
theorem bad_less {ws : List Str} (h : ∀ x ∈ ws, Wd4 x) (h2 : 2 ≤ ws.length) (hl : ws.length ≤ 20) (hs : Shape ws) : Bad4 (ws.take (ws.length - 1)) := by
  refine ⟨fun e => ?_, by rw [List.length_take]; omega, fun x hx => h x (List.mem_of_mem_take hx), no_less hs⟩
  have := congrArg List.length e
  rw [List.length_take] at this
  simp at this
  omega
theorem bad_more {ws : List Str} (h : ∀ x ∈ ws, Wd4 x) (hl : ws.length ≤ 20) (hs : Shape ws) {x : Str} (hx : NameOk x) : Bad4 (ws ++ [x]) :=
  ⟨by simp, by rw [List.length_append]; show _ + 1 ≤ 40; omega, wd_app h (wcons (wd_name hx) wnil), no_more hs x⟩
theorem text_more {ws : List Str} (h : ws ≠ []) (x : Str) : Str.join " " ws ++ " " ++ x = Str.join " " (ws ++ [x]) := (join_app " " [x] (by simp) ws h).symm
theorem w4a (n b : Str) : "say " ++ n ++ " - " ++ b ++ " + x" = Str.join " " ["say", n, "-", b, "+", "x"] := str_ext (by simp only [cps_app, join_cps, join_cps1, List.append_assoc]; rfl)
theorem w4b (n b : Str) : "say " ++ n ++ " - " ++ b ++ "" = Str.join " " ["say", n, "-", b] := str_ext (by
  have e : ("" : Str).cps.toList = [] := rfl
  simp only [cps_app, join_cps, join_cps1, List.append_assoc, e, List.append_nil]; rfl)
theorem w5 (k : Str) {us : List Str} (h : us ≠ []) : Str.join " " (k :: us) = k ++ (" " ++ Str.join " " us) := by
  have := join_app " " us h [k] (by simp)
  have e : Str.join " " (k :: us) = Str.join " " [k] ++ " " ++ Str.join " " us := this
  rw [e, app_assoc]
  rfl
theorem w7 {us : List Str} (h : us ≠ []) : "need " ++ Str.join " " us = Str.join " " ("need" :: us) := by
  rw [w5 _ h, ← app_assoc]
  exact congrArg (· ++ Str.join " " us) (by decide +kernel)
noncomputable def brW : List Str := ["bring", "p", "a", "as", "b", "a", "as", "b", "a", "as", "b", "a", "as", "b", "a", "as", "b", "a", "as", "b", "a", "as", "b"]
theorem w8 : ("bring p" : Str) ++ (⟨(List.replicate (7 : Int).toNat (" a as b" : Str).cps.toList).flatten.toArray⟩ : Str) = Str.join " " brW := by decide +kernel
theorem bad8 : Bad4 brW := ⟨by decide, by decide, by unfold brW; decide +kernel, no_lenN (n := 23) rfl (by decide +kernel)⟩
theorem bad7 {ts : List (Int × Th)} (h : P4 ts 7) : Bad4 ("need" :: sumW ts) ∧ sumW ts ≠ [] := by
  have h1 := h.len
  have h2 := h.th
  cases ts with
  | nil => cases h1
  | cons p r =>
    have hr : r.length = 6 := by simpa using h1
    refine ⟨⟨by simp, ?_, ?_, no_lenN (n := 14) ?_ (by decide +kernel)⟩, by rw [sumW_cons]; simp⟩
    · rw [sumW_cons]
      show (tailW r).length + 1 + 1 ≤ 40
      rw [tailW_len]
      omega
    · exact wcons wlit.2.2.2.1 fun x hx => wd_word (sumW_ok h2 x hx)
    · show (tailW r).length + 2 = 14
      rw [tailW_len]
      omega
theorem str_pos {x : Str} (h : x ≠ "") : 1 ≤ x.length := by
  by_cases e : x.length = 0
  · exfalso
    apply h
    apply str_ext
    have e1 : ("" : Str).cps.toList = [] := rfl
    rw [e1]
    exact List.length_eq_zero_iff.mp (by rw [Array.length_toList]; exact e)
  · omega
noncomputable def spSpoiled (K : PySem.W.Frag) : Sp := fun vs H Q _ => ∃ (l a : Addr) (ns : List Int) (way c : Int) (rw : Rw), vs = [.ref l, .int way, .int c, .ref a] ∧ H l = some (.lst ((rowW rw).map V.str)) ∧ RwOk rw ∧ SqL K H a (ns.map V.int) ∧ 0 ≤ way ∧ way < 9 ∧
  ∀ (ws : List Str) (H' : Hp), Same H H' → Bad4 ws → Q (.str (Str.join " " ws)) H'
theorem ok_spoiled (T : Txt K mg) : L2.Cl P w K mg base 3 "_law_spoiled" ["_law_words_here", "_law_way", "_law_cell", "_law_script"] (spSpoiled K) := by
  have C_law_cell_at := ok_cell (P := P) (w := w) (base := base) T
  have C_law_name := ok_name (P := P) (w := w) (base := base) T
  have C_law_sum := ok_sum4 (P := P) (w := w) (base := base) T
  have C_law_odd := ok_odd (P := P) (w := w) (base := base) T
  have C_law_bad_word := ok_bad (P := P) (w := w) (base := base) T
  refine Cl.of T.d_law_spoiled sc_law_spoiled (fun vs H Q E h => ?_) (fun _ _ _ _ _ _ us hl => by obtain ⟨a, b, c, d, rfl⟩ := len4 hl; rfl) (fun f cdv A outer s H vs Q E hr h => ?_)
  · obtain ⟨l, a, ns, way, c, rw, rfl, _⟩ := h
    rfl
  · obtain ⟨l, a, ns, way, c, rw', rfl, hl, hok, hS, hw0, hw9, q⟩ := h
    have hsh := row_shape hok
    have hwo := hok.words
    have hwd : ∀ x ∈ rowW rw', Wd4 x := fun x hx => wd_word (hwo.ok x hx)
    have h2 := hwo.lo
    have h20 := hwo.hi
    generalize rowW rw' = ws at hl hsh hwd h2 h20
    have hsum := wd_sum hwd
    have hsz : sizeLine = 16777216 := sizeLine_eq
    have htl := wd_join hwd (by omega)
    have hne : ws ≠ [] := fun z => by rw [z] at h2; exact absurd h2 (by decide)
    have wS : ∀ {us : List Str}, Bad4 us → (us.map (·.length)).sum + us.length ≤ 1048576 := fun hb => by
      have := wd_sum hb.wd
      have := hb.few
      omega
    refine ⟨_, (pss_cons (ps_set (i := 4) sc_law_spoiled.nd rfl (Or.inl rfl) (pe_bm PySem.F.plainAttrs_str PySem.F.slot_str_join PySem.F.type_str_join mt_join pe_str (pa_cons (pv 0) pa_nil)))
      (pss_cons (ps_if (pt_cmpR op_eq (pv 1) pe_int (nomark _))
        (pss_cons (ps_set (i := 5) sc_law_spoiled.nd rfl (Or.inl rfl) (pe_op op_mod (pv 2) (pe_op op_add (pe_callB call_len_seq (by rfl) T.n_len PySem.boot_len (pa_cons (pv 0) pa_nil)) pe_int)))
        (pss_one (ps_ret (pe_bm PySem.F.plainAttrs_str PySem.F.slot_str_join PySem.F.type_str_join mt_join pe_str (pa_cons (pe_op op_cat (pe_op op_cat (pe_slice sl_list (pv 0) po_none (po_some (pv 5))) (pe_lst (pa_cons pe_str pa_nil))) (pe_slice sl_list (pv 0) (po_some (pv 5)) po_none)) pa_nil))))) pss_nil)
      (pss_cons (ps_if (pt_cmpR op_eq (pv 1) pe_int (nomark _))
        (pss_one (ps_ret (pe_bm PySem.F.plainAttrs_str PySem.F.slot_str_join PySem.F.type_str_join mt_join pe_str (pa_cons (pe_slice sl_list (pv 0) po_none (po_some (pe_un un_neg pe_int))) pa_nil)))) pss_nil)
      (pss_cons (ps_if (pt_cmpR op_eq (pv 1) pe_int (nomark _))
        (pss_one (ps_ret (pe_op op_add_str (pe_op op_add_str (pv 4) pe_str) (pe_fn C_law_name hr (by rfl) (pa_cons (pv 2) pa_nil))))) pss_nil)
      (pss_cons (ps_if (pt_cmpR op_eq (pv 1) pe_int (nomark _))
        (pss_one (ps_ret (pe_bm PySem.F.plainAttrs_str PySem.F.slot_str_join PySem.F.type_str_join mt_join pe_str (pa_cons (pe_op op_cat (pe_op op_cat (pe_slice sl_list (pv 0) po_none (po_some pe_int)) (pe_lst (pa_cons (pe_fn C_law_bad_word hr (by rfl) (pa_cons (pv 2) pa_nil)) pa_nil))) (pe_slice sl_list (pv 0) (po_some pe_int) po_none)) pa_nil)))) pss_nil)
      (pss_cons (ps_if (pt_cmpR op_eq (pv 1) pe_int (nomark _))
        (pss_one (ps_ret (pe_op op_add_str (pe_op op_add_str (pe_op op_add_str (pe_op op_add_str pe_str (pe_fn C_law_name hr (by rfl) (pa_cons (pe_fn C_law_cell_at hr (by rfl) (pa_cons (pv 3) (pa_cons pe_int pa_nil))) pa_nil))) pe_str) (pe_fn C_law_bad_word hr (by rfl) (pa_cons (pv 2) pa_nil))) (pe_ix ix_list (pe_lst (pa_cons pe_str (pa_cons pe_str pa_nil))) (pe_op op_mod (pe_op op_fdiv (pv 2) pe_int) pe_int) (fun _ _ => rfl))))) pss_nil)
      (pss_cons (ps_if (pt_cmpR op_eq (pv 1) pe_int (nomark _))
        (pss_one (ps_ret (pe_op op_add_str (pe_ix ix_list (pe_lst (pa_strs (.cons (.cons (.cons (.cons (.cons (.cons .nil)))))))) (pe_op op_mod (pv 2) pe_int) (fun _ _ => rfl)) (pe_slice sl_str (pv 4) (po_some (pe_callB call_len_str (by rfl) T.n_len PySem.boot_len (pa_cons (pe_ix ix_list (pv 0) pe_int (fun _ _ => rfl)) pa_nil))) po_none)))) pss_nil)
      (pss_cons (ps_if (pt_cmpR op_eq (pv 1) pe_int (nomark _))
        (pss_one (ps_ret (pe_fn C_law_odd hr (by rfl) (pa_cons (pe_fn C_law_name hr (by rfl) (pa_cons (pv 2) pa_nil)) (pa_cons (pe_fn C_law_name hr (by rfl) (pa_cons (pe_fn C_law_cell_at hr (by rfl) (pa_cons (pv 3) (pa_cons pe_int pa_nil))) pa_nil)) (pa_cons (pe_op op_fdiv (pv 2) pe_int) pa_nil)))))) pss_nil)
      (pss_cons (ps_if (pt_cmpR op_eq (pv 1) pe_int (nomark _))
        (pss_one (ps_ret (pe_op op_add_str pe_str (pe_bm PySem.F.plainAttrs_str PySem.F.slot_str_join PySem.F.type_str_join mt_join pe_str (pa_cons (pe_fn C_law_sum hr (by rfl) (pa_cons (pv 3) (pa_cons pe_int (pa_cons pe_int pa_nil)))) pa_nil))))) pss_nil)
      (pss_one (ps_ret (pe_op op_add_str pe_str (pe_op op_repX pe_str pe_int))))))))))))), ?_⟩
    refine ⟨rfl, _, rfl, _, l, ws, rfl, rfl, .inr (SqL.of hl), by decide +kernel, by omega, ?_⟩
    refine ⟨_, rfl, rfl, _, rfl, ite2I (fun _ => ?_) fun n0 => ?_⟩
    · refine ⟨_, rfl, _, rfl, l, _, rfl, .inl (SqL.of hl), _, _, rfl, rfl, _, _, rfl, rfl, ?_⟩
      rw [List.length_map]
      refine ⟨(by show (0 : Int) < (ws.length : Int) + 1; omega), ?_⟩
      have i0 : 0 ≤ c % ((ws.length : Int) + 1) := Int.emod_nonneg _ (by omega)
      have i1 : c % ((ws.length : Int) + 1) < (ws.length : Int) + 1 := Int.emod_lt_of_pos _ (by omega)
      show gName 5 (.int (c % ((ws.length : Int) + 1))) _ _ _
      obtain ⟨i, hi⟩ : ∃ i : Nat, c % ((ws.length : Int) + 1) = (i : Int) := ⟨(c % ((ws.length : Int) + 1)).toNat, by omega⟩
      rw [hi] at i1 ⊢
      have hil : i ≤ (ws.map V.str).length := by rw [List.length_map]; omega
      have hb := bad_ins hwd h20 i
      refine ⟨rfl, _, rfl, _, rfl, _, rfl, l, _, rfl, SqL.of hl, fun d gd => ⟨(by show 1 ≤ sizeLine; decide), fun b gb => ⟨d, b, _, _, rfl, rfl, upd_keep upd_same gb, upd_same, ?_, fun r gr => ?_⟩⟩⟩
      · rw [cut_takeV hil, List.length_take]; show _ + 1 ≤ _; omega
      refine ⟨_, rfl, _, rfl, _, rfl, l, _, rfl, SqL.of (upd_keep (upd_keep (upd_keep hl gd) gb) gr), fun d2 gd2 => ⟨r, d2, _, _, rfl, rfl, upd_keep upd_same gd2, upd_same, ?_, fun r2 gr2 => ?_⟩⟩
      · rw [cut_takeV hil, cut_from _ _ hil, List.length_append, List.length_take, List.length_drop, List.length_map]; show _ + 1 + _ ≤ _; omega
      refine ⟨_, r2, ws.take i ++ ([""] : List Str) ++ ws.drop i, rfl, rfl, .inr (SqL.of ?_), by decide +kernel, wS hb, q _ _ (((((Same.refl H).new gd).new gb).new gr).new gd2 |>.new gr2) hb⟩
      rw [upd_same, cut_takeV hil, cut_from _ _ hil, List.map_append, List.map_append, List.map_take, List.map_drop]
      rfl
    refine ⟨_, rfl, rfl, _, rfl, ite2I (fun _ => ?_) fun n1 => ?_⟩
    · have hb := bad_less hwd h2 h20 hsh
      refine ⟨rfl, _, rfl, _, rfl, _, rfl, l, _, rfl, SqL.of hl, fun d gd => ⟨_, d, ws.take (ws.length - 1), rfl, rfl, .inr (SqL.of ?_), by decide +kernel, wS hb, q _ _ ((Same.refl H).new gd) hb⟩⟩
      rw [upd_same, List.map_take, cut_m1 (by rw [List.length_map]; omega), List.length_map]
    refine ⟨_, rfl, rfl, _, rfl, ite2I (fun _ => ?_) fun n2 => ?_⟩
    · refine ⟨_, rfl, _, _, rfl, rfl, (by show (Str.join " " ws).length + 1 ≤ sizeLine; omega), _, rfl, _, rfl, fun x H1 s1 hx => ⟨_, _, rfl, rfl, ?_, ?_⟩⟩
      · have := hx.word.len
        rw [Str.length_append]
        show _ + 1 + _ ≤ _
        omega
      · rw [text_more hne]
        exact q _ H1 s1 (bad_more hwd h20 hsh hx)
    refine ⟨_, rfl, rfl, _, rfl, ite2I (fun _ => ?_) fun n3 => ?_⟩
    · obtain ⟨_, k, y, us, rfl, hlb, _⟩ := hsh
      have hul : us.length ≤ 18 := by simpa using h20
      refine ⟨rfl, _, rfl, _, rfl, l, _, rfl, SqL.of hl, fun d gd => ⟨_, rfl, _, rfl, fun x H1 s1 hx hxw => ⟨(by show 1 ≤ sizeLine; decide), fun b gb => ⟨d, b, _, _, rfl, rfl, upd_keep (s1 _ _ upd_same) gb, upd_same, ?_, fun r gr => ?_⟩⟩⟩⟩
      · rw [show cutV ((k :: y :: us).map V.str) none (some 1) = ((k :: y :: us).map V.str).take 1 from cut_takeV (k := 1) (by simp)]
        show 1 + 1 ≤ sizeLine
        decide
      have hb : Bad4 (k :: x :: us) := ⟨by simp, by simp; omega, wcons (hwd k List.mem_cons_self) (wcons hxw fun z hz => hwd z (List.mem_cons_of_mem _ (List.mem_cons_of_mem _ hz))), no_thing hx⟩
      have hl' : upd (upd H1 b (.lst [.str x])) r (.lst (cutV ((k :: y :: us).map V.str) none (some 1) ++ [.str x])) l = some (.lst ((k :: y :: us).map V.str)) := upd_keep (upd_keep (s1 _ _ (upd_keep hl gd)) gb) gr
      refine ⟨_, rfl, _, rfl, l, _, rfl, SqL.of hl', fun d2 gd2 => ⟨r, d2, _, _, rfl, rfl, upd_keep upd_same gd2, upd_same, ?_, fun r2 gr2 => ?_⟩⟩
      · rw [show cutV ((k :: y :: us).map V.str) none (some 1) = ((k :: y :: us).map V.str).take 1 from cut_takeV (k := 1) (by simp), show cutV ((k :: y :: us).map V.str) (some 2) none = ((k :: y :: us).map V.str).drop 2 from cut_from _ 2 (by simp)]
        show 2 + (us.map V.str).length ≤ sizeLine
        rw [List.length_map]
        omega
      refine ⟨_, r2, k :: x :: us, rfl, rfl, .inr (SqL.of ?_), by decide +kernel, wS hb, q _ _ (((((((Same.refl H).new gd).trans s1).new gb).new gr).new gd2).new gr2) hb⟩
      rw [upd_same, show cutV ((k :: y :: us).map V.str) none (some 1) = ((k :: y :: us).map V.str).take 1 from cut_takeV (k := 1) (by simp), show cutV ((k :: y :: us).map V.str) (some 2) none = ((k :: y :: us).map V.str).drop 2 from cut_from _ 2 (by simp)]
      rfl
    have hlit : ("say " : Str).length ≤ 8 ∧ (" - " : Str).length ≤ 8 ∧ (" + x" : Str).length ≤ 8 ∧ ("" : Str).length ≤ 8 ∧ ("need " : Str).length ≤ 8 ∧ (" " : Str).length ≤ 8 := by decide +kernel
    obtain ⟨g0, g1, g2, g3, g4, g5⟩ := hlit
    refine ⟨_, rfl, rfl, _, rfl, ite2I (fun _ => ?_) fun n4 => ?_⟩
    · refine ⟨_, rfl, a, ns, _, rfl, hS, by decide, fun c3 => ⟨_, rfl, fun x H1 s1 hx => ?_⟩⟩
      have hxl := hx.word.len
      refine ⟨_, _, rfl, rfl, (by first | omega | (simp only [Str.length_append]; omega)), _, _, rfl, rfl, (by first | omega | (simp only [Str.length_append]; omega)), _, rfl, _, rfl, fun b H2 s2 hb hbw => ?_⟩
      have hbl := hbw.2
      refine ⟨_, _, rfl, rfl, (by first | omega | (simp only [Str.length_append]; omega)), (by show 2 ≤ sizeLine; decide), fun p gp => ?_⟩
      have s3 := (s1.trans s2).new (o := .lst [.str " + x", .str ""]) gp
      obtain ⟨l1, l2, l3, l4, l5, l6, l7, l8, l9, l10, l11, l12, l13, l14, l15, l16, l17⟩ := wlit
      by_cases e : c / 19 % 2 = 0
      · refine ⟨_, rfl, _, _, rfl, rfl, ⟨by decide, by decide⟩, _, _, rfl, rfl, (by show (0 : Int) < 2; decide), p, _, _, _, rfl, rfl, SqL.of upd_same, (by rw [e]; rfl), _, _, rfl, rfl, (by first | omega | (simp only [Str.length_append]; omega)), ?_⟩
        rw [w4a]
        exact q _ _ s3 ⟨by simp, by simp, wcons l1 (wcons (wd_name hx) (wcons l9 (wcons hbw (wcons l2 (wcons (by decide +kernel) wnil))))), no_say (by decide) hb⟩
      · refine ⟨_, rfl, _, _, rfl, rfl, ⟨by decide, by decide⟩, _, _, rfl, rfl, (by show (0 : Int) < 2; decide), p, _, _, _, rfl, rfl, SqL.of upd_same, (by rw [show c / 19 % 2 = 1 by omega]; rfl), _, _, rfl, rfl, (by first | omega | (simp only [Str.length_append]; omega)), ?_⟩
        rw [w4b]
        exact q _ _ s3 ⟨by simp, by simp, wcons l1 (wcons (wd_name hx) (wcons l9 (wcons hbw wnil))), no_say (by decide) hb⟩
    refine ⟨_, rfl, rfl, _, rfl, ite2I (fun _ => ?_) fun n5 => ?_⟩
    · obtain ⟨hnn, k, y, us, rfl, hlb, _⟩ := hsh
      refine ⟨(by show 6 ≤ sizeLine; decide), fun p gp => ?_⟩
      obtain ⟨z, hz, e⟩ := atI_menu (["Say", "sett", "brin", "hand", "TAKE", "par"] : List Str) (i := c % 6) (by omega) (by show c % 6 < 6; omega)
      have hzw : Wd4 z := (show ∀ z ∈ (["Say", "sett", "brin", "hand", "TAKE", "par"] : List Str), Wd4 z by decide +kernel) z hz
      have hzl := hzw.2
      refine ⟨_, rfl, _, _, rfl, rfl, (by show (0 : Int) < 6; decide), p, _, _, _, rfl, rfl, SqL.of upd_same, e, ?_⟩
      refine ⟨_, rfl, _, rfl, l, _, _, _, rfl, rfl, SqL.of (upd_keep hl gp), atI_nat (j := 0) rfl, k, rfl, (by have := (hwd k List.mem_cons_self).2; omega), _, rfl, k, " " ++ Str.join " " (y :: us), ?_, rfl, rfl, str_pos (hnn k List.mem_cons_self), ?_, _, _, rfl, rfl, ?_, ?_⟩
      · rw [w5 k (by simp)]
      · rw [← w5 k (by simp)]; omega
      · have h9 := wd_join (ws := y :: us) (fun x hx => hwd x (List.mem_cons_of_mem _ hx)) (by have := h20; simp at this ⊢; omega)
        rw [Str.length_append]
        omega
      · rw [← w5 z (by simp)]
        refine q _ _ ((Same.refl H).new gp) ⟨by simp, by have := h20; simp at this ⊢; omega, wcons hzw fun x hx => hwd x (List.mem_cons_of_mem _ hx), no_len (lenB_kind _ ?_)⟩
        exact List.mem_append_left ([""] : List Str) hz
    refine ⟨_, rfl, rfl, _, rfl, ite2I (fun _ => ?_) fun n6 => ?_⟩
    · exact ⟨_, rfl, _, rfl, fun x H1 s1 hx => ⟨_, rfl, a, ns, _, rfl, s1.seq hS, by decide, fun c2 => ⟨_, rfl, fun y H2 s2 hy => ⟨_, rfl, _, _, rfl, rfl, ⟨by decide, by decide⟩, x, y, _, rfl, hx, hy, fun ws' H3 s3 hb => q ws' H3 ((s1.trans s2).trans s3) hb⟩⟩⟩⟩
    refine ⟨_, rfl, rfl, _, rfl, ite2I (fun _ => ?_) fun n7 => ?_⟩
    · refine ⟨rfl, _, rfl, a, ns, _, _, rfl, hS, by decide, by decide, by decide, fun t ts H1 s1 ht hts => ?_⟩
      obtain ⟨hb, hn⟩ := bad7 hts
      have hbw := wd_sum (fun x hx => hb.wd x (List.mem_cons_of_mem _ hx))
      have hbl := wd_join (fun x hx => hb.wd x (List.mem_cons_of_mem _ hx)) (by have := hb.few; simp at this; omega)
      have hbf := hb.few
      rw [List.length_cons] at hbf
      refine ⟨_, t, sumW ts, rfl, rfl, .inr (SqL.of ht), by decide +kernel, by omega, _, _, rfl, rfl, by omega, ?_⟩
      rw [w7 hn]
      exact q _ H1 s1 hb
    · refine ⟨_, _, rfl, rfl, by decide, by decide, by decide +kernel, by decide +kernel, _, _, rfl, rfl, by decide +kernel, ?_⟩
      rw [w8]
      exact q _ H (Same.refl H) bad8
noncomputable def Txt4 (x : Str) (rw : Rw) : Prop := x = Str.join " " (rowW rw) ∧ RwOk rw
noncomputable def spNum4 : Sp := fun vs H Q _ => ∃ x : Str, vs = [.str x] ∧ ((∃ rw, Txt4 x rw ∧ ∀ (d : Addr) (H' : Hp), Same H H' → H' d = some (.lst []) → Q (.ref d) H') ∨ (∃ ws, x = Str.join " " ws ∧ Bad4 ws ∧ ∀ (d : Addr) (H' : Hp), Same H H' → H' d = some (.lst [.int 0]) → Q (.ref d) H'))
theorem bad_args {ws : List Str} (h : Bad4 ws) : (Str.join " " ws).length ≤ 100000 ∧ Wok (PySem.Txt.split (Str.join " " ws) " ") ∧ ∀ rw, RwOk rw → rowW rw ≠ PySem.Txt.split (Str.join " " ws) " " := by
  have hsp := h.split
  refine ⟨by have := wd_join h.wd (by have := h.few; omega); omega, ?_, fun rw ho e => ?_⟩
  · rw [hsp]
    exact ⟨by have := h.few; omega, fun x hx => (h.wd x hx).2⟩
  · rw [hsp] at e
    exact h.no (e ▸ row_shape ho)
theorem ok_num4 (T : Txt K mg) {A : Adr} (hX : XTxt K mg A) : L2.Cl P w K mg base 8 "_law_number" ["_law_text"] spNum4 := by
  refine Cl.of T.d_law_number sc_law_number (fun vs H Q E h => ?_) (fun _ _ _ _ _ _ us hl => by obtain ⟨a, rfl⟩ := len1 hl; rfl) (fun f cdv A0 outer s H vs Q E hr h => ?_)
  · obtain ⟨x, rfl, _⟩ := h
    rfl
  · obtain ⟨x, rfl, h⟩ := h
    rcases h with ⟨rw, ⟨rfl, hok⟩, q⟩ | ⟨ws, rfl, hb, q⟩
    · have C_read_row := Cl.toE (ok_read_row (P := P) (w := w) (base := base) T)
      refine ⟨_, (pss_cons (ps_tryAs (i := 1) sc_law_number.nd rfl rfl (by rfl) hX.m_NoRow hX.k_NoRow (tb_expr C_read_row hr (by rfl) (pa_cons (pv 0) pa_nil))
        (fun a => (pss_one (ps_ret (pe_lst (pa_cons (pe_fldXK (K := K) rfl (pv 1) (by rfl)) pa_nil))))))
      (pss_one (ps_ret (pe_lst pa_nil)))), ?_⟩
      refine ⟨_, rfl, rw, rfl, hok, fun r H1 s1 hr1 => ?_⟩
      exact ⟨(by show 0 ≤ sizeLine; decide), fun l gl => q l _ (s1.new gl) upd_same⟩
    · have C_read_row := ok_anyE (P := P) (w := w) (base := base) T hX
      obtain ⟨b1, b2, b3⟩ := bad_args hb
      refine ⟨_, (pss_cons (ps_tryAs (i := 1) sc_law_number.nd rfl rfl (by rfl) hX.m_NoRow hX.k_NoRow (tb_expr C_read_row hr (by rfl) (pa_cons (pv 0) pa_nil))
        (fun a => (pss_one (ps_ret (pe_lst (pa_cons (pe_fldXK (K := K) rfl (pv 1) (by rfl)) pa_nil))))))
      (pss_one (ps_ret (pe_lst pa_nil)))), ?_⟩
      refine ⟨_, rfl, Str.join " " ws, rfl, b1, b2, (fun rw r H1 e ho s1 hr1 => absurd e (b3 rw ho)), fun H1 dx s1 hdx => ?_⟩
      refine ⟨A.NoRow, rfl, hX.s_NoRow, fun a na => ?_⟩
      exact ⟨_, rfl, a, A.NoRow, dx, _, _, rfl, upd_same, upd_keep hdx na, hX.k_NoRow, hX.f_NoRow, rfl, (by show 1 ≤ sizeLine; decide), fun l gl => q l _ ((s1.new na).new gl) upd_same⟩
noncomputable def spAlone : Sp := fun vs H Q _ => ∃ ws : List Str, vs = [.str (Str.join " " ws)] ∧ Bad4 ws ∧ ∀ H', Same H H' → Q (.bl true) H'
theorem ok_alone (T : Txt K mg) {A : Adr} (hX : XTxt K mg A) : L2.Cl P w K mg base 8 "_law_alone" ["_law_text"] spAlone := by
  have C_read_row := ok_anyE (P := P) (w := w) (base := base) T hX
  refine Cl.of T.d_law_alone sc_law_alone (fun vs H Q E h => ?_) (fun _ _ _ _ _ _ us hl => by obtain ⟨a, rfl⟩ := len1 hl; rfl) (fun f cdv A0 outer s H vs Q E hr h => ?_)
  · obtain ⟨x, rfl, _⟩ := h
    rfl
  · obtain ⟨ws, rfl, hb, q⟩ := h
    obtain ⟨b1, b2, b3⟩ := bad_args hb
    refine ⟨_, (pss_cons (ps_tryAs (i := 1) sc_law_alone.nd rfl rfl (by rfl) hX.m_BundleError hX.k_BundleError (tb_expr C_read_row hr (by rfl) (pa_cons (pv 0) pa_nil))
        (fun a => (pss_cons (ps_set (i := 2) sc_law_alone.nd rfl (Or.inl rfl) (pe_lst (pa_cons (pe_callB (call_isinstEK (K := K) rfl) (by rfl) T.n_isinstance PyProof.Rows.boot_isinstance (pa_cons (pv 1) (pa_cons (pe_glob (v := .ref A.Twice) (by rfl) hX.m_Twice rfl) pa_nil))) (pa_cons (pe_callB (call_isinstEK (K := K) rfl) (by rfl) T.n_isinstance PyProof.Rows.boot_isinstance (pa_cons (pv 1) (pa_cons (pe_glob (v := .ref A.NoPart) (by rfl) hX.m_NoPart rfl) pa_nil))) (pa_cons (pe_callB (call_isinstEK (K := K) rfl) (by rfl) T.n_isinstance PyProof.Rows.boot_isinstance (pa_cons (pv 1) (pa_cons (pe_glob (v := .ref A.NoName) (by rfl) hX.m_NoName rfl) pa_nil))) (pa_cons (pe_callB (call_isinstEK (K := K) rfl) (by rfl) T.n_isinstance PyProof.Rows.boot_isinstance (pa_cons (pv 1) (pa_cons (pe_glob (v := .ref A.NotGiven) (by rfl) hX.m_NotGiven rfl) pa_nil))) pa_nil))))))
        (pss_cons (ps_set (i := 2) sc_law_alone.nd rfl (Or.inl rfl) (pe_op op_cat (pv 2) (pe_lst (pa_cons (pe_callB (call_isinstEK (K := K) rfl) (by rfl) T.n_isinstance PyProof.Rows.boot_isinstance (pa_cons (pv 1) (pa_cons (pe_glob (v := .ref A.Endless) (by rfl) hX.m_Endless rfl) pa_nil))) (pa_cons (pe_callB (call_isinstEK (K := K) rfl) (by rfl) T.n_isinstance PyProof.Rows.boot_isinstance (pa_cons (pv 1) (pa_cons (pe_glob (v := .ref A.Asks) (by rfl) hX.m_Asks rfl) pa_nil))) (pa_cons (pe_callB (call_isinstEK (K := K) rfl) (by rfl) T.n_isinstance PyProof.Rows.boot_isinstance (pa_cons (pv 1) (pa_cons (pe_glob (v := .ref A.TooMany) (by rfl) hX.m_TooMany rfl) pa_nil))) pa_nil))))))
        (pss_one (ps_ret (pe_and (pe_callB (call_isinstEK (K := K) rfl) (by rfl) T.n_isinstance PyProof.Rows.boot_isinstance (pa_cons (pv 1) (pa_cons (pe_bltn (v := .ty "ValueError") (by rfl) T.n_ValueError boot_ValueError rfl) pa_nil))) (pe_one (pe_not (pe_callB (call_anyH (K := K) rfl rfl) (by rfl) T.n_any boot_any (pa_cons (pe_op op_cat (pv 2) (pe_lst (pa_cons (pe_callB (call_isinstEK (K := K) rfl) (by rfl) T.n_isinstance PyProof.Rows.boot_isinstance (pa_cons (pv 1) (pa_cons (pe_glob (v := .ref A.NoPlace) (by rfl) hX.m_NoPlace rfl) pa_nil))) (pa_cons (pe_callB (call_isinstEK (K := K) rfl) (by rfl) T.n_isinstance PyProof.Rows.boot_isinstance (pa_cons (pv 1) (pa_cons (pe_glob (v := .ref A.NoMap) (by rfl) hX.m_NoMap rfl) pa_nil))) pa_nil)))) pa_nil)))))))))))
      (pss_one (ps_ret pe_bl))), ?_⟩
    refine ⟨_, rfl, Str.join " " ws, rfl, b1, b2, (fun rw r H1 e ho s1 hr1 => absurd e (b3 rw ho)), fun H1 dx s1 hdx => ?_⟩
    refine ⟨A.NoRow, rfl, hX.s_Base, fun a na => ?_⟩
    have s2 : Same H (upd H1 a (ExO a A.NoRow (some dx))) := s1.new na
    have he : upd H1 a (ExO a A.NoRow (some dx)) a = some (ExO a A.NoRow (some dx)) := upd_same
    have hd2 := upd_keep (o := ExO a A.NoRow (some dx)) hdx na
    generalize upd H1 a (ExO a A.NoRow (some dx)) = H2 at s2 he hd2 ⊢
    refine ⟨_, rfl, a, A.NoRow, some dx, _, false, rfl, he, ⟨_, hd2⟩, hX.k_NoRow, .one hX.i_Twice, _, rfl, a, A.NoRow, some dx, _, false, rfl, he, ⟨_, hd2⟩, hX.k_NoRow, .one hX.i_NoPart, _, rfl, a, A.NoRow, some dx, _, false, rfl, he, ⟨_, hd2⟩, hX.k_NoRow, .one hX.i_NoName, _, rfl, a, A.NoRow, some dx, _, false, rfl, he, ⟨_, hd2⟩, hX.k_NoRow, .one hX.i_NotGiven, (by show 4 ≤ sizeLine; decide), fun l gl => ?_⟩
    have he3 := upd_keep (o := .lst [V.bl false, V.bl false, V.bl false, V.bl false]) he gl
    have hd3 := upd_keep (o := .lst [V.bl false, V.bl false, V.bl false, V.bl false]) hd2 gl
    refine ⟨_, rfl, _, rfl, a, A.NoRow, some dx, _, false, rfl, he3, ⟨_, hd3⟩, hX.k_NoRow, .one hX.i_Endless, _, rfl, a, A.NoRow, some dx, _, false, rfl, he3, ⟨_, hd3⟩, hX.k_NoRow, .one hX.i_Asks, _, rfl, a, A.NoRow, some dx, _, false, rfl, he3, ⟨_, hd3⟩, hX.k_NoRow, .one hX.i_TooMany, (by show 3 ≤ sizeLine; decide), fun b gb => ⟨l, b, _, _, rfl, rfl, upd_keep upd_same gb, upd_same, (by show 4 + 3 ≤ sizeLine; decide), fun r gr => ?_⟩⟩
    have he4 := upd_keep (o := .lst ([V.bl false, V.bl false, V.bl false, V.bl false] ++ [V.bl false, V.bl false, V.bl false])) (upd_keep (o := .lst [V.bl false, V.bl false, V.bl false]) he3 gb) gr
    have hd4 := upd_keep (o := .lst ([V.bl false, V.bl false, V.bl false, V.bl false] ++ [V.bl false, V.bl false, V.bl false])) (upd_keep (o := .lst [V.bl false, V.bl false, V.bl false]) hd3 gb) gr
    refine ⟨_, rfl, a, A.NoRow, some dx, _, true, rfl, he4, ⟨_, hd4⟩, hX.k_NoRow, .ty hX.i_val, _, rfl, iteT ?_⟩
    refine ⟨_, rfl, _, rfl, a, A.NoRow, some dx, _, false, rfl, he4, ⟨_, hd4⟩, hX.k_NoRow, .one hX.i_NoPlace, _, rfl, a, A.NoRow, some dx, _, false, rfl, he4, ⟨_, hd4⟩, hX.k_NoRow, .one hX.i_NoMap, (by show 2 ≤ sizeLine; decide), fun b2 gb2 => ⟨r, b2, _, _, rfl, rfl, upd_keep upd_same gb2, upd_same, (by show 7 + 2 ≤ sizeLine; decide), fun r2 gr2 => ?_⟩⟩
    refine ⟨r2, [false, false, false, false, false, false, false, false, false], A.NoRow, some dx, rfl, SqL.of upd_same, upd_keep (upd_keep he4 gb2) gr2, _, rfl, ?_⟩
    exact q _ (((((s2.new gl).new gb).new gr).new gb2).new gr2)
theorem and_join {t u : TT} {Z R : TS} {D : Ends} {σ : L2.St} {H : Hp} (J : Hp → Prop) (ht : ∀ Q : Bool → Hp → Prop, (∀ a, Q a H) → t σ H Q) (hu : ∀ Q : Bool → Hp → Prop, (∀ H', J H' → Q false H') → u σ H Q) (h0 : J H) (hR : ∀ H', J H' → R D σ H') : tSeq (tIfS (tAnd t u) Z tNext) R D σ H := by
  refine ht _ fun a => ?_
  cases a with
  | true => exact iteT (hu _ fun H' h => iteF (hR H' h))
  | false => exact iteF (iteF (hR H h0))
noncomputable def spLaw (K : PySem.W.Frag) : Sp := fun vs H Q _ => ∃ (a : Addr) (ns : List Int), vs = [.ref a] ∧ SqL K H a (ns.map V.int) ∧ ns.length ≤ 63 ∧ ∀ H', Q (.bl true) H'
theorem law_fn {f : Addr} {fd : FuncData} (F : Fun K "law" "law" s_law f fd) (T : Txt K mg) : FnOk P w K mg base CX0 10 f fd ["_law_script"] (spLaw K) := by
  obtain ⟨A, hX⟩ := T.xs
  have C_law_cell_at := ok_cell (P := P) (w := w) (base := base) T
  have C_law_words := ok_words4 (P := P) (w := w) (base := base) T
  have C_law_spoiled := ok_spoiled (P := P) (w := w) (base := base) T
  have C_law_number := ok_num4 (P := P) (w := w) (base := base) T hX
  have C_law_alone := ok_alone (P := P) (w := w) (base := base) T hX
  refine F.ok sc_law (fun vs H Q E h => ?_) (fun cdv A0 outer s H vs Q E hr h => ?_)
  · obtain ⟨a, ns, rfl, _⟩ := h
    rfl
  · obtain ⟨a, ns, rfl, hS, hlen, q⟩ := h
    have hu0 := Nat.lt_of_succ_lt (hu_of hr)
    refine ⟨_, (pss_cons (ps_set (i := 1) sc_law.nd rfl (Or.inl rfl) (pe_fn C_law_words hr (by rfl) (pa_cons (pv 0) pa_nil)))
      (pss_cons (ps_set (i := 2) sc_law.nd rfl (Or.inl rfl) (pe_fn C_law_spoiled hr (by rfl) (pa_cons (pv 1) (pa_cons (pe_op op_mod (pe_fn C_law_cell_at hr (by rfl) (pa_cons (pv 0) (pa_cons pe_int pa_nil))) pe_int) (pa_cons (pe_fn C_law_cell_at hr (by rfl) (pa_cons (pv 0) (pa_cons pe_int pa_nil))) (pa_cons (pv 0) pa_nil))))))
      (pss_cons (ps_if (PW.pt (pw_and (pt_cmpR op_eq (pe_op op_mod (pe_op op_fdiv (pe_fn C_law_cell_at hr (by rfl) (pa_cons (pv 0) (pa_cons pe_int pa_nil))) pe_int) pe_int) pe_int (nomark _)) (pw_and1 (pt_cmpR (op_neL_same hu0) (pe_fn C_law_number hr (by rfl) (pa_cons (pe_bm PySem.F.plainAttrs_str PySem.F.slot_str_join PySem.F.type_str_join mt_join pe_str (pa_cons (pv 1) pa_nil)) pa_nil)) (pe_lst pa_nil) (nomark _)))))
        (pss_one (ps_ret pe_bl)) pss_nil)
      (pss_cons (ps_set (i := 3) sc_law.nd rfl (Or.inl rfl) (pe_fn C_law_number hr (by rfl) (pa_cons (pv 2) pa_nil)))
      (pss_cons (ps_if (PW.pt (pw_or (pt_cmpR op_ne (pe_callB call_len_seq (by rfl) T.n_len PySem.boot_len (pa_cons (pv 3) pa_nil)) pe_int (nomark _)) (pw_or (pt_not (pt_val (pe_callB call_isinst (by rfl) T.n_isinstance PyProof.Rows.boot_isinstance (pa_cons (pe_ix ix_list (pv 3) pe_int (fun _ _ => rfl)) (pa_cons (pe_bltn (v := .ty "int") (by rfl) T.n_int boot_int rfl) pa_nil))))) (pw_or (pt_val (pe_callB call_isinst (by rfl) T.n_isinstance PyProof.Rows.boot_isinstance (pa_cons (pe_ix ix_list (pv 3) pe_int (fun _ _ => rfl)) (pa_cons (pe_bltn (v := .ty "bool") (by rfl) T.n_bool boot_bool rfl) pa_nil)))) (pw_or1 (pt_cmpR op_ne (pe_ix ix_list (pv 3) pe_int (fun _ _ => rfl)) pe_int (nomark _)))))))
        (pss_one (ps_ret pe_bl)) pss_nil)
      (pss_one (ps_ret (pe_and (pe_fn C_law_alone hr (by rfl) (pa_cons (pv 2) pa_nil)) (pe_one (pe_cmpR (op_eqL_same hu0) (pe_fn C_law_number hr (by rfl) (pa_cons (pe_bm PySem.F.plainAttrs_str PySem.F.slot_str_join PySem.F.type_str_join mt_join pe_str (pa_cons (pv 1) pa_nil)) pa_nil)) (pe_lst pa_nil) (nomark _))))))))))), ?_⟩
    refine ⟨_, rfl, a, ns, rfl, hS, fun l rw H1 s1 hl hok => ?_⟩
    have hwk := hok.words
    have hw := weight_ok hwk
    have hhi := hwk.hi
    refine ⟨_, rfl, _, rfl, a, ns, _, rfl, s1.seq hS, by decide, fun c11 => ⟨_, _, rfl, rfl, (by show (0 : Int) < 9; decide), _, rfl, a, ns, _, rfl, s1.seq hS, by decide, fun c12 => ⟨_, rfl, l, a, ns, _, _, rw, rfl, hl, hok, s1.seq hS, Int.emod_nonneg _ (by decide), Int.emod_lt_of_pos _ (by decide), fun ws H2 s2' hb => ?_⟩⟩⟩
    have s2 := s1.trans s2'
    have hl2 := s2' _ _ hl
    refine to_g ?_
    refine and_join (fun H3 => Same H2 H3) (fun Q' h' => ⟨_, rfl, a, ns, _, rfl, s2.seq hS, by decide, fun c => ⟨_, _, rfl, rfl, ⟨by decide, by decide⟩, _, _, rfl, rfl, (by show (0 : Int) < 2; decide), rfl, _, rfl, h' _⟩⟩) (fun Q' hQ => ?_) (Same.refl H2) ?_
    · exact ⟨rfl, _, rfl, _, l, rowW rw, rfl, rfl, .inr (SqL.of hl2), by decide +kernel, by omega, _, rfl, .inl ⟨rw, ⟨rfl, hok⟩, fun d H3 s3 hd => ⟨(by show 0 ≤ sizeLine; decide), fun e ge => ⟨d, e, [], rfl, rfl, SqL.of (upd_keep hd ge), SqL.of upd_same, rfl, _, rfl, hQ _ (s3.new ge)⟩⟩⟩⟩
    · intro H3 s3
      refine ⟨_, rfl, _, rfl, .inr ⟨ws, rfl, hb, fun d H4 s4 hd4 => ?_⟩⟩
      refine ⟨_, rfl, d, _, rfl, .inl (SqL.of hd4), rfl, _, rfl, iteNS rfl ?_⟩
      refine ⟨_, rfl, d, _, _, _, rfl, rfl, SqL.of hd4, atI_nat (j := 0) rfl, _, _, _, _, rfl, .int _, kit_same _ _, _, rfl, iteF ?_⟩
      refine ⟨_, rfl, d, _, _, _, rfl, rfl, SqL.of hd4, atI_nat (j := 0) rfl, _, _, _, _, rfl, .int _, kit_int_bool _, _, rfl, iteF ?_⟩
      refine ⟨_, rfl, d, _, _, _, rfl, rfl, SqL.of hd4, atI_nat (j := 0) rfl, rfl, _, rfl, iteNS rfl ?_⟩
      refine ⟨_, rfl, ws, rfl, hb, fun H5 s5 => ⟨_, rfl, iteT ?_⟩⟩
      have hl5 := (s3.trans (s4.trans s5)) _ _ hl2
      exact ⟨rfl, _, rfl, _, l, rowW rw, rfl, rfl, .inr (SqL.of hl5), by decide +kernel, by omega, _, rfl, .inl ⟨rw, ⟨rfl, hok⟩, fun e H6 s6 he => ⟨(by show 0 ≤ sizeLine; decide), fun e2 ge => ⟨e, e2, [], rfl, rfl, SqL.of (upd_keep he ge), SqL.of upd_same, rfl, q _⟩⟩⟩⟩
end
end K04
set_option Elab.async false
set_option linter.all false
set_option maxRecDepth 100000
namespace K04
open PySem L2
theorem all_mk {l : PySem.W.OpenLaw} {w : World} {K : PySem.W.Frag} {h : Heap} {mg : Str → Option Value} {fa : Addr} (X : K.In h) (G : h.Ns mainGlobals mg) (hfa : mg "law" = some (.ref fa))
    {f0 : Addr} {od0 an0 : Option Addr} {sl0 : Array (Option Value)} {oc0 kV0 dc0 pm0 cd0 ct0 : Value}
    {f1 : Addr} {od1 an1 : Option Addr} {sl1 : Array (Option Value)} {oc1 kV1 dc1 pm1 cd1 ct1 : Value}
    {f2 : Addr} {od2 an2 : Option Addr} {sl2 : Array (Option Value)} {oc2 kV2 dc2 pm2 cd2 ct2 : Value}
    {f3 : Addr} {od3 an3 : Option Addr} {sl3 : Array (Option Value)} {oc3 kV3 dc3 pm3 cd3 ct3 : Value}
    {f4 : Addr} {od4 an4 : Option Addr} {sl4 : Array (Option Value)} {oc4 kV4 dc4 pm4 cd4 ct4 : Value}
    {f5 : Addr} {od5 an5 : Option Addr} {sl5 : Array (Option Value)} {oc5 kV5 dc5 pm5 cd5 ct5 : Value}
    {f6 : Addr} {od6 an6 : Option Addr} {sl6 : Array (Option Value)} {oc6 kV6 dc6 pm6 cd6 ct6 : Value}
    {f7 : Addr} {od7 an7 : Option Addr} {sl7 : Array (Option Value)} {oc7 kV7 dc7 pm7 cd7 ct7 : Value}
    {f8 : Addr} {od8 an8 : Option Addr} {sl8 : Array (Option Value)} {oc8 kV8 dc8 pm8 cd8 ct8 : Value}
    {f9 : Addr} {od9 an9 : Option Addr} {sl9 : Array (Option Value)} {oc9 kV9 dc9 pm9 cd9 ct9 : Value}
    {f10 : Addr} {od10 an10 : Option Addr} {sl10 : Array (Option Value)} {oc10 kV10 dc10 pm10 cd10 ct10 : Value}
    {f11 : Addr} {od11 an11 : Option Addr} {sl11 : Array (Option Value)} {oc11 kV11 dc11 pm11 cd11 ct11 : Value}
    {f12 : Addr} {od12 an12 : Option Addr} {sl12 : Array (Option Value)} {oc12 kV12 dc12 pm12 cd12 ct12 : Value}
    {f13 : Addr} {od13 an13 : Option Addr} {sl13 : Array (Option Value)} {oc13 kV13 dc13 pm13 cd13 ct13 : Value}
    {f14 : Addr} {od14 an14 : Option Addr} {sl14 : Array (Option Value)} {oc14 kV14 dc14 pm14 cd14 ct14 : Value}
    {f15 : Addr} {od15 an15 : Option Addr} {sl15 : Array (Option Value)} {oc15 kV15 dc15 pm15 cd15 ct15 : Value}
    {f16 : Addr} {od16 an16 : Option Addr} {sl16 : Array (Option Value)} {oc16 kV16 dc16 pm16 cd16 ct16 : Value}
    {f17 : Addr} {od17 an17 : Option Addr} {sl17 : Array (Option Value)} {oc17 kV17 dc17 pm17 cd17 ct17 : Value}
    {f18 : Addr} {od18 an18 : Option Addr} {sl18 : Array (Option Value)} {oc18 kV18 dc18 pm18 cd18 ct18 : Value}
    {f19 : Addr} {od19 an19 : Option Addr} {sl19 : Array (Option Value)} {oc19 kV19 dc19 pm19 cd19 ct19 : Value}
    {f20 : Addr} {od20 an20 : Option Addr} {sl20 : Array (Option Value)} {oc20 kV20 dc20 pm20 cd20 ct20 : Value}
    {f21 : Addr} {od21 an21 : Option Addr} {sl21 : Array (Option Value)} {oc21 kV21 dc21 pm21 cd21 ct21 : Value}
    {f22 : Addr} {od22 an22 : Option Addr} {sl22 : Array (Option Value)} {oc22 kV22 dc22 pm22 cd22 ct22 : Value}
    {f23 : Addr} {od23 an23 : Option Addr} {sl23 : Array (Option Value)} {oc23 kV23 dc23 pm23 cd23 ct23 : Value}
    {tk0 : Tok}
    {tk1 : Tok}
    {tk2 : Tok}
    {tk3 : Tok}
    {tk4 : Tok}
    {tk5 : Tok}
    {c_BundleError : Addr}
    {c_NoRow : Addr}
    {c_Twice : Addr}
    {c_NoPart : Addr}
    {c_NoName : Addr}
    {c_NotGiven : Addr}
    {c_Endless : Addr}
    {c_Asks : Addr}
    {c_TooMany : Addr}
    {c_NoPlace : Addr}
    {c_NoMap : Addr}
    {cd_c_BundleError : ClassData}
    {cd_c_NoRow : ClassData}
    {fi_NoRow : Addr} {iod_NoRow ian_NoRow : Option Addr} {isl_NoRow : Array (Option Value)} {ioc_NoRow ikV_NoRow idc_NoRow ipm_NoRow icd_NoRow ict_NoRow : Value}
    {jN_NoRow : Addr} {jnm_NoRow jq_NoRow : Str} {jbs_NoRow : List Value} {jh_NoRow : Bool} {jsn_NoRow : List Str} {jsub_NoRow : List Value} {jab_NoRow : Bool} {jcol_NoRow : Option Bool} {jdd_NoRow : Option Addr} {j0_NoRow j1_NoRow j2_NoRow j3_NoRow j5_NoRow : Option Value}
    (a0 : PySem.W.nsIn K mainGlobals "read_row" = some (some (.ref f0))) (l0 : K.lookup f0 = some ⟨oc0, od0, .func (PySem.W.fnOf "read_row" "read_row" (defArgs s_read_row) (defBody s_read_row) (defScope s_read_row) .none kV0 dc0 pm0 an0 cd0 ct0), sl0⟩) (c0 : PySem.W.codeIn K cd0 "read_row" = true) (k0 : PySem.W.keepIn K (.ref f0) = true)
    (a1 : PySem.W.nsIn K mainGlobals "read_bring" = some (some (.ref f1))) (l1 : K.lookup f1 = some ⟨oc1, od1, .func (PySem.W.fnOf "read_bring" "read_bring" (defArgs s_read_bring) (defBody s_read_bring) (defScope s_read_bring) .none kV1 dc1 pm1 an1 cd1 ct1), sl1⟩) (c1 : PySem.W.codeIn K cd1 "read_bring" = true) (k1 : PySem.W.keepIn K (.ref f1) = true)
    (a2 : PySem.W.nsIn K mainGlobals "read_pair" = some (some (.ref f2))) (l2 : K.lookup f2 = some ⟨oc2, od2, .func (PySem.W.fnOf "read_pair" "read_pair" (defArgs s_read_pair) (defBody s_read_pair) (defScope s_read_pair) .none kV2 dc2 pm2 an2 cd2 ct2), sl2⟩) (c2 : PySem.W.codeIn K cd2 "read_pair" = true) (k2 : PySem.W.keepIn K (.ref f2) = true)
    (a3 : PySem.W.nsIn K mainGlobals "read_set" = some (some (.ref f3))) (l3 : K.lookup f3 = some ⟨oc3, od3, .func (PySem.W.fnOf "read_set" "read_set" (defArgs s_read_set) (defBody s_read_set) (defScope s_read_set) .none kV3 dc3 pm3 an3 cd3 ct3), sl3⟩) (c3 : PySem.W.codeIn K cd3 "read_set" = true) (k3 : PySem.W.keepIn K (.ref f3) = true)
    (a4 : PySem.W.nsIn K mainGlobals "read_say" = some (some (.ref f4))) (l4 : K.lookup f4 = some ⟨oc4, od4, .func (PySem.W.fnOf "read_say" "read_say" (defArgs s_read_say) (defBody s_read_say) (defScope s_read_say) .none kV4 dc4 pm4 an4 cd4 ct4), sl4⟩) (c4 : PySem.W.codeIn K cd4 "read_say" = true) (k4 : PySem.W.keepIn K (.ref f4) = true)
    (a5 : PySem.W.nsIn K mainGlobals "read_ask" = some (some (.ref f5))) (l5 : K.lookup f5 = some ⟨oc5, od5, .func (PySem.W.fnOf "read_ask" "read_ask" (defArgs s_read_ask) (defBody s_read_ask) (defScope s_read_ask) .none kV5 dc5 pm5 an5 cd5 ct5), sl5⟩) (c5 : PySem.W.codeIn K cd5 "read_ask" = true) (k5 : PySem.W.keepIn K (.ref f5) = true)
    (a6 : PySem.W.nsIn K mainGlobals "has_when" = some (some (.ref f6))) (l6 : K.lookup f6 = some ⟨oc6, od6, .func (PySem.W.fnOf "has_when" "has_when" (defArgs s_has_when) (defBody s_has_when) (defScope s_has_when) .none kV6 dc6 pm6 an6 cd6 ct6), sl6⟩) (c6 : PySem.W.codeIn K cd6 "has_when" = true) (k6 : PySem.W.keepIn K (.ref f6) = true)
    (a7 : PySem.W.nsIn K mainGlobals "read_sum" = some (some (.ref f7))) (l7 : K.lookup f7 = some ⟨oc7, od7, .func (PySem.W.fnOf "read_sum" "read_sum" (defArgs s_read_sum) (defBody s_read_sum) (defScope s_read_sum) .none kV7 dc7 pm7 an7 cd7 ct7), sl7⟩) (c7 : PySem.W.codeIn K cd7 "read_sum" = true) (k7 : PySem.W.keepIn K (.ref f7) = true)
    (a8 : PySem.W.nsIn K mainGlobals "read_sign" = some (some (.ref f8))) (l8 : K.lookup f8 = some ⟨oc8, od8, .func (PySem.W.fnOf "read_sign" "read_sign" (defArgs s_read_sign) (defBody s_read_sign) (defScope s_read_sign) .none kV8 dc8 pm8 an8 cd8 ct8), sl8⟩) (c8 : PySem.W.codeIn K cd8 "read_sign" = true) (k8 : PySem.W.keepIn K (.ref f8) = true)
    (a9 : PySem.W.nsIn K mainGlobals "read_thing" = some (some (.ref f9))) (l9 : K.lookup f9 = some ⟨oc9, od9, .func (PySem.W.fnOf "read_thing" "read_thing" (defArgs s_read_thing) (defBody s_read_thing) (defScope s_read_thing) .none kV9 dc9 pm9 an9 cd9 ct9), sl9⟩) (c9 : PySem.W.codeIn K cd9 "read_thing" = true) (k9 : PySem.W.keepIn K (.ref f9) = true)
    (a10 : PySem.W.nsIn K mainGlobals "read_only_name" = some (some (.ref f10))) (l10 : K.lookup f10 = some ⟨oc10, od10, .func (PySem.W.fnOf "read_only_name" "read_only_name" (defArgs s_read_only_name) (defBody s_read_only_name) (defScope s_read_only_name) .none kV10 dc10 pm10 an10 cd10 ct10), sl10⟩) (c10 : PySem.W.codeIn K cd10 "read_only_name" = true) (k10 : PySem.W.keepIn K (.ref f10) = true)
    (a11 : PySem.W.nsIn K mainGlobals "read_name" = some (some (.ref f11))) (l11 : K.lookup f11 = some ⟨oc11, od11, .func (PySem.W.fnOf "read_name" "read_name" (defArgs s_read_name) (defBody s_read_name) (defScope s_read_name) .none kV11 dc11 pm11 an11 cd11 ct11), sl11⟩) (c11 : PySem.W.codeIn K cd11 "read_name" = true) (k11 : PySem.W.keepIn K (.ref f11) = true)
    (a12 : PySem.W.nsIn K mainGlobals "is_name" = some (some (.ref f12))) (l12 : K.lookup f12 = some ⟨oc12, od12, .func (PySem.W.fnOf "is_name" "is_name" (defArgs s_is_name) (defBody s_is_name) (defScope s_is_name) .none kV12 dc12 pm12 an12 cd12 ct12), sl12⟩) (c12 : PySem.W.codeIn K cd12 "is_name" = true) (k12 : PySem.W.keepIn K (.ref f12) = true)
    (a13 : PySem.W.nsIn K mainGlobals "is_number" = some (some (.ref f13))) (l13 : K.lookup f13 = some ⟨oc13, od13, .func (PySem.W.fnOf "is_number" "is_number" (defArgs s_is_number) (defBody s_is_number) (defScope s_is_number) .none kV13 dc13 pm13 an13 cd13 ct13), sl13⟩) (c13 : PySem.W.codeIn K cd13 "is_number" = true) (k13 : PySem.W.keepIn K (.ref f13) = true)
    (a14 : PySem.W.nsIn K mainGlobals "_law_cell_at" = some (some (.ref f14))) (l14 : K.lookup f14 = some ⟨oc14, od14, .func (PySem.W.fnOf "_law_cell_at" "_law_cell_at" (defArgs s_law_cell_at) (defBody s_law_cell_at) (defScope s_law_cell_at) .none kV14 dc14 pm14 an14 cd14 ct14), sl14⟩) (c14 : PySem.W.codeIn K cd14 "_law_cell_at" = true) (k14 : PySem.W.keepIn K (.ref f14) = true)
    (a15 : PySem.W.nsIn K mainGlobals "_law_name" = some (some (.ref f15))) (l15 : K.lookup f15 = some ⟨oc15, od15, .func (PySem.W.fnOf "_law_name" "_law_name" (defArgs s_law_name) (defBody s_law_name) (defScope s_law_name) .none kV15 dc15 pm15 an15 cd15 ct15), sl15⟩) (c15 : PySem.W.codeIn K cd15 "_law_name" = true) (k15 : PySem.W.keepIn K (.ref f15) = true)
    (a16 : PySem.W.nsIn K mainGlobals "_law_sum" = some (some (.ref f16))) (l16 : K.lookup f16 = some ⟨oc16, od16, .func (PySem.W.fnOf "_law_sum" "_law_sum" (defArgs s_law_sum) (defBody s_law_sum) (defScope s_law_sum) .none kV16 dc16 pm16 an16 cd16 ct16), sl16⟩) (c16 : PySem.W.codeIn K cd16 "_law_sum" = true) (k16 : PySem.W.keepIn K (.ref f16) = true)
    (a17 : PySem.W.nsIn K mainGlobals "_law_words" = some (some (.ref f17))) (l17 : K.lookup f17 = some ⟨oc17, od17, .func (PySem.W.fnOf "_law_words" "_law_words" (defArgs s_law_words) (defBody s_law_words) (defScope s_law_words) .none kV17 dc17 pm17 an17 cd17 ct17), sl17⟩) (c17 : PySem.W.codeIn K cd17 "_law_words" = true) (k17 : PySem.W.keepIn K (.ref f17) = true)
    (a18 : PySem.W.nsIn K mainGlobals "_law_odd" = some (some (.ref f18))) (l18 : K.lookup f18 = some ⟨oc18, od18, .func (PySem.W.fnOf "_law_odd" "_law_odd" (defArgs s_law_odd) (defBody s_law_odd) (defScope s_law_odd) .none kV18 dc18 pm18 an18 cd18 ct18), sl18⟩) (c18 : PySem.W.codeIn K cd18 "_law_odd" = true) (k18 : PySem.W.keepIn K (.ref f18) = true)
    (a19 : PySem.W.nsIn K mainGlobals "_law_bad_word" = some (some (.ref f19))) (l19 : K.lookup f19 = some ⟨oc19, od19, .func (PySem.W.fnOf "_law_bad_word" "_law_bad_word" (defArgs s_law_bad_word) (defBody s_law_bad_word) (defScope s_law_bad_word) .none kV19 dc19 pm19 an19 cd19 ct19), sl19⟩) (c19 : PySem.W.codeIn K cd19 "_law_bad_word" = true) (k19 : PySem.W.keepIn K (.ref f19) = true)
    (a20 : PySem.W.nsIn K mainGlobals "_law_spoiled" = some (some (.ref f20))) (l20 : K.lookup f20 = some ⟨oc20, od20, .func (PySem.W.fnOf "_law_spoiled" "_law_spoiled" (defArgs s_law_spoiled) (defBody s_law_spoiled) (defScope s_law_spoiled) .none kV20 dc20 pm20 an20 cd20 ct20), sl20⟩) (c20 : PySem.W.codeIn K cd20 "_law_spoiled" = true) (k20 : PySem.W.keepIn K (.ref f20) = true)
    (a21 : PySem.W.nsIn K mainGlobals "_law_number" = some (some (.ref f21))) (l21 : K.lookup f21 = some ⟨oc21, od21, .func (PySem.W.fnOf "_law_number" "_law_number" (defArgs s_law_number) (defBody s_law_number) (defScope s_law_number) .none kV21 dc21 pm21 an21 cd21 ct21), sl21⟩) (c21 : PySem.W.codeIn K cd21 "_law_number" = true) (k21 : PySem.W.keepIn K (.ref f21) = true)
    (a22 : PySem.W.nsIn K mainGlobals "_law_alone" = some (some (.ref f22))) (l22 : K.lookup f22 = some ⟨oc22, od22, .func (PySem.W.fnOf "_law_alone" "_law_alone" (defArgs s_law_alone) (defBody s_law_alone) (defScope s_law_alone) .none kV22 dc22 pm22 an22 cd22 ct22), sl22⟩) (c22 : PySem.W.codeIn K cd22 "_law_alone" = true) (k22 : PySem.W.keepIn K (.ref f22) = true)
    (a23 : PySem.W.nsIn K mainGlobals "law" = some (some (.ref f23))) (l23 : K.lookup f23 = some ⟨oc23, od23, .func (PySem.W.fnOf "law" "law" (defArgs s_law) (defBody s_law) (defScope s_law) .none kV23 dc23 pm23 an23 cd23 ct23), sl23⟩) (c23 : PySem.W.codeIn K cd23 "law" = true) (k23 : PySem.W.keepIn K (.ref f23) = true)
    (z0 : PySem.W.nsIn K mainGlobals "len" = some none)
    (z1 : PySem.W.nsIn K mainGlobals "range" = some none)
    (z2 : PySem.W.nsIn K mainGlobals "str" = some none)
    (z3 : PySem.W.nsIn K mainGlobals "int" = some none)
    (z4 : PySem.W.nsIn K mainGlobals "bool" = some none)
    (z5 : PySem.W.nsIn K mainGlobals "tuple" = some none)
    (z6 : PySem.W.nsIn K mainGlobals "isinstance" = some none)
    (z7 : PySem.W.nsIn K mainGlobals "all" = some none)
    (z8 : PySem.W.nsIn K mainGlobals "any" = some none)
    (z9 : PySem.W.nsIn K mainGlobals "ValueError" = some none)
    (gc0 : PySem.W.nsIn K mainGlobals "LETTERS" = some (some (.str "abcdefghijklmnopqrstuvwxyz" tk0)))
    (gc1 : PySem.W.nsIn K mainGlobals "FIGURES" = some (some (.str "0123456789" tk1)))
    (gc2 : PySem.W.nsIn K mainGlobals "MOST_SIGNS" = some (some (.int 8 tk2)))
    (gc3 : PySem.W.nsIn K mainGlobals "MOST_FIGURES" = some (some (.int 60 tk3)))
    (gc4 : PySem.W.nsIn K mainGlobals "MOST_TERMS" = some (some (.int 6 tk4)))
    (gc5 : PySem.W.nsIn K mainGlobals "MOST_PAIRS" = some (some (.int 6 tk5)))
    (x_BundleError : PySem.W.nsIn K mainGlobals "BundleError" = some (some (.ref c_BundleError)))
    (x_NoRow : PySem.W.nsIn K mainGlobals "NoRow" = some (some (.ref c_NoRow)))
    (x_Twice : PySem.W.nsIn K mainGlobals "Twice" = some (some (.ref c_Twice)))
    (x_NoPart : PySem.W.nsIn K mainGlobals "NoPart" = some (some (.ref c_NoPart)))
    (x_NoName : PySem.W.nsIn K mainGlobals "NoName" = some (some (.ref c_NoName)))
    (x_NotGiven : PySem.W.nsIn K mainGlobals "NotGiven" = some (some (.ref c_NotGiven)))
    (x_Endless : PySem.W.nsIn K mainGlobals "Endless" = some (some (.ref c_Endless)))
    (x_Asks : PySem.W.nsIn K mainGlobals "Asks" = some (some (.ref c_Asks)))
    (x_TooMany : PySem.W.nsIn K mainGlobals "TooMany" = some (some (.ref c_TooMany)))
    (x_NoPlace : PySem.W.nsIn K mainGlobals "NoPlace" = some (some (.ref c_NoPlace)))
    (x_NoMap : PySem.W.nsIn K mainGlobals "NoMap" = some (some (.ref c_NoMap)))
    (k_BundleError_cl : PySem.W.clsIn K c_BundleError = some cd_c_BundleError)
    (k_BundleError_ty : PySem.W.typeIn K (.ref c_BundleError) = some (.type "type"))
    (k_BundleError_base : PySem.W.mroIn K c_BundleError (.type "BaseException") = some true)
    (k_BundleError_ga : PySem.W.findIn K (.ref c_BundleError) "__getattribute__" = some (some (.builtin "BaseException.__getattribute__")))
    (k_BundleError_gt : PySem.W.findIn K (.ref c_BundleError) "__getattr__" = some none)
    (k_BundleError_ca : PySem.W.findIn K (.ref c_BundleError) "__class__" = some (some (.builtin "object.__class__")))
    (k_BundleError_gd : PySem.W.specialIn K (.builtin "object.__class__") "__get__" = some (some (.builtin "getset_descriptor.__get__")))
    (k_BundleError_tk : PySem.W.takesIn K (.builtin "object.__class__") = some true)
    (k_BundleError_ob : PySem.W.mroIn K c_BundleError (.type "object") = some true)
    (k_NoRow_cl : PySem.W.clsIn K c_NoRow = some cd_c_NoRow)
    (k_NoRow_ty : PySem.W.typeIn K (.ref c_NoRow) = some (.type "type"))
    (k_NoRow_base : PySem.W.mroIn K c_NoRow (.type "BaseException") = some true)
    (k_NoRow_ga : PySem.W.findIn K (.ref c_NoRow) "__getattribute__" = some (some (.builtin "BaseException.__getattribute__")))
    (k_NoRow_gt : PySem.W.findIn K (.ref c_NoRow) "__getattr__" = some none)
    (k_NoRow_ca : PySem.W.findIn K (.ref c_NoRow) "__class__" = some (some (.builtin "object.__class__")))
    (k_NoRow_gd : PySem.W.specialIn K (.builtin "object.__class__") "__get__" = some (some (.builtin "getset_descriptor.__get__")))
    (k_NoRow_tk : PySem.W.takesIn K (.builtin "object.__class__") = some true)
    (k_NoRow_ob : PySem.W.mroIn K c_NoRow (.type "object") = some true)
    (f_s_NoRow : PySem.W.mroIn K c_NoRow (.ref c_NoRow) = some true)
    (f_s_Base : PySem.W.mroIn K c_NoRow (.ref c_BundleError) = some true)
    (f_i_val : PySem.W.kitOne K (.ref c_NoRow) (.type "ValueError") = some true)
    (f_i_Twice : PySem.W.kitOne K (.ref c_NoRow) (.ref c_Twice) = some false)
    (f_i_NoPart : PySem.W.kitOne K (.ref c_NoRow) (.ref c_NoPart) = some false)
    (f_i_NoName : PySem.W.kitOne K (.ref c_NoRow) (.ref c_NoName) = some false)
    (f_i_NotGiven : PySem.W.kitOne K (.ref c_NoRow) (.ref c_NotGiven) = some false)
    (f_i_Endless : PySem.W.kitOne K (.ref c_NoRow) (.ref c_Endless) = some false)
    (f_i_Asks : PySem.W.kitOne K (.ref c_NoRow) (.ref c_Asks) = some false)
    (f_i_TooMany : PySem.W.kitOne K (.ref c_NoRow) (.ref c_TooMany) = some false)
    (f_i_NoPlace : PySem.W.kitOne K (.ref c_NoRow) (.ref c_NoPlace) = some false)
    (f_i_NoMap : PySem.W.kitOne K (.ref c_NoRow) (.ref c_NoMap) = some false)
    (i_NoRow_ini : PySem.W.findIn K (.ref c_NoRow) "__init__" = some (some (.ref fi_NoRow)))
    (i_NoRow_l : K.lookup fi_NoRow = some ⟨ioc_NoRow, iod_NoRow, .func (PySem.W.fnOf "__init__" "NoRow.__init__" (defArgs s_NoRow___init__) (defBody s_NoRow___init__) (defScope s_NoRow___init__) .none ikV_NoRow idc_NoRow ipm_NoRow ian_NoRow icd_NoRow ict_NoRow), isl_NoRow⟩)
    (i_NoRow_c : PySem.W.codeIn K icd_NoRow "NoRow.__init__" = true)
    (i_NoRow_k : PySem.W.keepIn K (.ref fi_NoRow) = true)
    (i_NoRow_f : PySem.W.isFn K (.ref fi_NoRow) = true)
    (i_NoRow_kc : PySem.W.keepIn K (.ref c_NoRow) = true)
    (i_NoRow_o : K.lookup c_NoRow = some (excClassObj jnm_NoRow jq_NoRow c_NoRow jN_NoRow jbs_NoRow (.ref c_BundleError :: [.type "ValueError", .type "Exception", .type "BaseException", .type "object"]) jh_NoRow jsn_NoRow jsub_NoRow jab_NoRow jcol_NoRow jdd_NoRow j0_NoRow j1_NoRow j2_NoRow j3_NoRow j5_NoRow "ValueError.__new__"))
    (i_NoRow_e : PySem.W.excIn K c_BundleError [.type "ValueError", .type "Exception", .type "BaseException", .type "object"] "ValueError.__new__" = true)
    (i_NoRow_ov : OverV cd_c_NoRow.mro)
    (i_NoRow_hd : cd_c_NoRow.hasDict = true)
    (i_NoRow_sa : PySem.W.findIn K (.ref c_NoRow) "__setattr__" = some (some (.builtin "object.__setattr__")))
    (i_NoRow_no : PySem.W.findIn K (.ref c_NoRow) "number" = some none)
    (b_BundleError_ga : PySem.W.specialIn K (.ref c_BundleError) "__getattribute__" = some (some (.builtin "type.__getattribute__")))
    (b_BundleError_rd : PySem.W.readsIn K c_BundleError (.type "type") = true)
    (b_BundleError_fc : PySem.W.findCls K (.ref c_BundleError) (.type "type") "__init__" = some (.val (.builtin "ValueError.__init__"))) :
    ∃ fd : FuncData, (∀ (s : Shared) (v : Value), BindsTo s fd ⟨[v], []⟩ [("_law_script", v)]) ∧ ∀ base : Heap, K.In base → base.Ns mainGlobals mg → FnOk l.prog w K mg base CX0 10 fa fd ["_law_script"] (spLaw K) := by
  have e := hfa.symm.trans (PySem.W.mg_of X G a23)
  cases e
  have T : Txt K mg := ⟨PySem.W.mg_none_of X G z0, PySem.W.mg_none_of X G z1, PySem.W.mg_none_of X G z2, PySem.W.mg_none_of X G z3, PySem.W.mg_none_of X G z4, PySem.W.mg_none_of X G z5, PySem.W.mg_none_of X G z6, PySem.W.mg_none_of X G z7, PySem.W.mg_none_of X G z8, PySem.W.mg_none_of X G z9, ⟨_, PySem.W.mg_of X G gc0, ⟨_, rfl⟩⟩, ⟨_, PySem.W.mg_of X G gc1, ⟨_, rfl⟩⟩, ⟨_, PySem.W.mg_of X G gc2, ⟨_, rfl⟩⟩, ⟨_, PySem.W.mg_of X G gc3, ⟨_, rfl⟩⟩, ⟨_, PySem.W.mg_of X G gc4, ⟨_, rfl⟩⟩, ⟨_, PySem.W.mg_of X G gc5, ⟨_, rfl⟩⟩, hasDef_mk X G a0 l0 c0 k0, hasDef_mk X G a1 l1 c1 k1, hasDef_mk X G a2 l2 c2 k2, hasDef_mk X G a3 l3 c3 k3, hasDef_mk X G a4 l4 c4 k4, hasDef_mk X G a5 l5 c5 k5, hasDef_mk X G a6 l6 c6 k6, hasDef_mk X G a7 l7 c7 k7, hasDef_mk X G a8 l8 c8 k8, hasDef_mk X G a9 l9 c9 k9, hasDef_mk X G a10 l10 c10 k10, hasDef_mk X G a11 l11 c11 k11, hasDef_mk X G a12 l12 c12 k12, hasDef_mk X G a13 l13 c13 k13, hasDef_mk X G a14 l14 c14 k14, hasDef_mk X G a15 l15 c15 k15, hasDef_mk X G a16 l16 c16 k16, hasDef_mk X G a17 l17 c17 k17, hasDef_mk X G a18 l18 c18 k18, hasDef_mk X G a19 l19 c19 k19, hasDef_mk X G a20 l20 c20 k20, hasDef_mk X G a21 l21 c21 k21, hasDef_mk X G a22 l22 c22 k22, ⟨⟨c_BundleError, c_NoRow, c_Twice, c_NoPart, c_NoName, c_NotGiven, c_Endless, c_Asks, c_TooMany, c_NoPlace, c_NoMap⟩, ⟨PySem.W.mg_of X G x_BundleError, PySem.W.mg_of X G x_NoRow, PySem.W.mg_of X G x_Twice, PySem.W.mg_of X G x_NoPart, PySem.W.mg_of X G x_NoName, PySem.W.mg_of X G x_NotGiven, PySem.W.mg_of X G x_Endless, PySem.W.mg_of X G x_Asks, PySem.W.mg_of X G x_TooMany, PySem.W.mg_of X G x_NoPlace, PySem.W.mg_of X G x_NoMap, ⟨(by rw [k_BundleError_cl]; rfl), k_BundleError_ty, k_BundleError_base, k_BundleError_ga, k_BundleError_gt, k_BundleError_ca, k_BundleError_gd, k_BundleError_tk, k_BundleError_ob⟩, ⟨(by rw [k_NoRow_cl]; rfl), k_NoRow_ty, k_NoRow_base, k_NoRow_ga, k_NoRow_gt, k_NoRow_ca, k_NoRow_gd, k_NoRow_tk, k_NoRow_ob⟩, f_s_NoRow, f_s_Base, f_i_val, f_i_Twice, f_i_NoPart, f_i_NoName, f_i_NotGiven, f_i_Endless, f_i_Asks, f_i_TooMany, f_i_NoPlace, f_i_NoMap, ⟨fi_NoRow, _, fun_mk (st := s_NoRow___init__) i_NoRow_l i_NoRow_c i_NoRow_k, ⟨⟨c_BundleError, jN_NoRow, jnm_NoRow, jq_NoRow, jbs_NoRow, jh_NoRow, jsn_NoRow, jsub_NoRow, jab_NoRow, jcol_NoRow, jdd_NoRow, j0_NoRow, j1_NoRow, j2_NoRow, j3_NoRow, j5_NoRow, i_NoRow_o, i_NoRow_e⟩, i_NoRow_ini, i_NoRow_f⟩, i_NoRow_kc⟩, ⟨⟨cd_c_NoRow, k_NoRow_cl, i_NoRow_ov, i_NoRow_hd⟩, i_NoRow_sa, i_NoRow_no⟩, ⟨b_BundleError_ga, b_BundleError_rd, b_BundleError_fc⟩⟩⟩⟩
  exact ⟨_, fun s v => .of_eq rfl, fun base _ _ => law_fn (fun_mk (st := s_law) l23 c23 k23) T⟩
theorem walk {l : PySem.W.OpenLaw} {q : Program} {loose : List Str} {XP : (Str → Option Value) → Heap → Prop} {YP : World → Heap → Prop} {d : DefRec} {K : Params → PySem.W.Frag} (hn : l.most = some 63) (hdf : d.params.defaults = [])
    (hY : ∀ (w : World) (h : Heap), YP w h → (K w.params).In h)
    (F : ∀ (w : World) (mg : Str → Option Value) (fa : Addr) (h : Heap), (K w.params).In h → h.Ns mainGlobals mg → mg d.name = some (.ref fa) →
      ∃ fd : FuncData, (∀ (s : Shared) (u : Value), BindsTo s fd ⟨[u], []⟩ [("_law_script", u)]) ∧ ∀ base : Heap, (K w.params).In base → base.Ns mainGlobals mg → FnOk l.prog w (K w.params) mg base CX0 10 fa fd ["_law_script"] (spLaw (K w.params))) :
    PySem.W.WalkO q loose XP YP l.row.toRowW d [] (fun f vs => PySem.call f vs) :=
  L2.walk_of (n := 63) (k := 10) (x := "_law_script") (CX := fun _ => CX0) (sp := fun w => spLaw (K w.params)) hn (by decide) hdf ⟨rfl, by decide, by decide⟩ hY F (fun _ _ a ns hl _ hS => ⟨a, ns, rfl, hS, hl, fun _ => rfl⟩) fun _ _ _ _ _ z => z
end K04
open PySem PySem.W PyProof.Rows
set_option maxRecDepth 100000 in
set_option maxHeartbeats 0 in
theorem PySem.Challenge.cw_bundlehouse_k04_no_row_holds : PySem.Challenge.rw_bundlehouse_k04_no_row.Holds := by
  w_on
  refine HD.head_of (l := PySem.Challenge.rw_bundlehouse_k04_no_row) (q := HD.cutTo PySem.Challenge.rw_bundlehouse_k04_no_row.prog [1, 2, 3, 4, 5, 6, 7, 8, 9, 10, 11, 12, 14, 15, 16, 17, 18, 19, 20, 21, 22, 23, 24, 25, 26, 27, 28, 29, 30, 31, 32, 33, 35, 36, 37, 38, 39, 40, 41, 42, 43, 44]) (K := K04.heapK) (as := K04.heapA) (N := 7192) K04.heapE K04.said K04.top_run (by rfl) (by rfl) (by rfl) (by rfl) (by decide +kernel) ⟨rfl, rfl, rfl, rfl, rfl, by decide +kernel⟩ ?hw ?hc
  (case hw => w_witness2)
  k_fill
  refine K04.walk (l := PySem.Challenge.rw_bundlehouse_k04_no_row) rfl rfl (fun w h Y => PySem.W.kIn_of Y) ?F
  case F =>
    intro w mg fa h KX G hmg
    refine' K04.all_mk KX G hmg ?a0 ?l0 ?c0 ?k0 ?a1 ?l1 ?c1 ?k1 ?a2 ?l2 ?c2 ?k2 ?a3 ?l3 ?c3 ?k3 ?a4 ?l4 ?c4 ?k4 ?a5 ?l5 ?c5 ?k5 ?a6 ?l6 ?c6 ?k6 ?a7 ?l7 ?c7 ?k7 ?a8 ?l8 ?c8 ?k8 ?a9 ?l9 ?c9 ?k9 ?a10 ?l10 ?c10 ?k10 ?a11 ?l11 ?c11 ?k11 ?a12 ?l12 ?c12 ?k12 ?a13 ?l13 ?c13 ?k13 ?a14 ?l14 ?c14 ?k14 ?a15 ?l15 ?c15 ?k15 ?a16 ?l16 ?c16 ?k16 ?a17 ?l17 ?c17 ?k17 ?a18 ?l18 ?c18 ?k18 ?a19 ?l19 ?c19 ?k19 ?a20 ?l20 ?c20 ?k20 ?a21 ?l21 ?c21 ?k21 ?a22 ?l22 ?c22 ?k22 ?a23 ?l23 ?c23 ?k23 ?z0 ?z1 ?z2 ?z3 ?z4 ?z5 ?z6 ?z7 ?z8 ?z9 ?gc0 ?gc1 ?gc2 ?gc3 ?gc4 ?gc5 ?x_BundleError ?x_NoRow ?x_Twice ?x_NoPart ?x_NoName ?x_NotGiven ?x_Endless ?x_Asks ?x_TooMany ?x_NoPlace ?x_NoMap ?k_BundleError_cl ?k_BundleError_ty ?k_BundleError_base ?k_BundleError_ga ?k_BundleError_gt ?k_BundleError_ca ?k_BundleError_gd ?k_BundleError_tk ?k_BundleError_ob ?k_NoRow_cl ?k_NoRow_ty ?k_NoRow_base ?k_NoRow_ga ?k_NoRow_gt ?k_NoRow_ca ?k_NoRow_gd ?k_NoRow_tk ?k_NoRow_ob ?f_s_NoRow ?f_s_Base ?f_i_val ?f_i_Twice ?f_i_NoPart ?f_i_NoName ?f_i_NotGiven ?f_i_Endless ?f_i_Asks ?f_i_TooMany ?f_i_NoPlace ?f_i_NoMap ?i_NoRow_ini ?i_NoRow_l ?i_NoRow_c ?i_NoRow_k ?i_NoRow_f ?i_NoRow_kc ?i_NoRow_o ?i_NoRow_e ?i_NoRow_ov ?i_NoRow_hd ?i_NoRow_sa ?i_NoRow_no ?b_BundleError_ga ?b_BundleError_rd ?b_BundleError_fc
    (case a0 => k_is); (case l0 => k_is); (case c0 => k_is); (case k0 => k_is)
    (case a1 => k_is); (case l1 => k_is); (case c1 => k_is); (case k1 => k_is)
    (case a2 => k_is); (case l2 => k_is); (case c2 => k_is); (case k2 => k_is)
    (case a3 => k_is); (case l3 => k_is); (case c3 => k_is); (case k3 => k_is)
    (case a4 => k_is); (case l4 => k_is); (case c4 => k_is); (case k4 => k_is)
    (case a5 => k_is); (case l5 => k_is); (case c5 => k_is); (case k5 => k_is)
    (case a6 => k_is); (case l6 => k_is); (case c6 => k_is); (case k6 => k_is)
    (case a7 => k_is); (case l7 => k_is); (case c7 => k_is); (case k7 => k_is)
    (case a8 => k_is); (case l8 => k_is); (case c8 => k_is); (case k8 => k_is)
    (case a9 => k_is); (case l9 => k_is); (case c9 => k_is); (case k9 => k_is)
    (case a10 => k_is); (case l10 => k_is); (case c10 => k_is); (case k10 => k_is)
    (case a11 => k_is); (case l11 => k_is); (case c11 => k_is); (case k11 => k_is)
    (case a12 => k_is); (case l12 => k_is); (case c12 => k_is); (case k12 => k_is)
    (case a13 => k_is); (case l13 => k_is); (case c13 => k_is); (case k13 => k_is)
    (case a14 => k_is); (case l14 => k_is); (case c14 => k_is); (case k14 => k_is)
    (case a15 => k_is); (case l15 => k_is); (case c15 => k_is); (case k15 => k_is)
    (case a16 => k_is); (case l16 => k_is); (case c16 => k_is); (case k16 => k_is)
    (case a17 => k_is); (case l17 => k_is); (case c17 => k_is); (case k17 => k_is)
    (case a18 => k_is); (case l18 => k_is); (case c18 => k_is); (case k18 => k_is)
    (case a19 => k_is); (case l19 => k_is); (case c19 => k_is); (case k19 => k_is)
    (case a20 => k_is); (case l20 => k_is); (case c20 => k_is); (case k20 => k_is)
    (case a21 => k_is); (case l21 => k_is); (case c21 => k_is); (case k21 => k_is)
    (case a22 => k_is); (case l22 => k_is); (case c22 => k_is); (case k22 => k_is)
    (case a23 => k_is); (case l23 => k_is); (case c23 => k_is); (case k23 => k_is)
    (case z0 => k_is); (case z1 => k_is); (case z2 => k_is); (case z3 => k_is); (case z4 => k_is); (case z5 => k_is); (case z6 => k_is); (case z7 => k_is); (case z8 => k_is); (case z9 => k_is)
    (case gc0 => k_is); (case gc1 => k_is); (case gc2 => k_is); (case gc3 => k_is); (case gc4 => k_is); (case gc5 => k_is)
    (case x_BundleError => k_is)
    (case x_NoRow => k_is)
    (case x_Twice => k_is)
    (case x_NoPart => k_is)
    (case x_NoName => k_is)
    (case x_NotGiven => k_is)
    (case x_Endless => k_is)
    (case x_Asks => k_is)
    (case x_TooMany => k_is)
    (case x_NoPlace => k_is)
    (case x_NoMap => k_is)
    (case k_BundleError_cl => k_is)
    (case k_BundleError_ty => k_is)
    (case k_BundleError_base => k_is)
    (case k_BundleError_ga => k_is)
    (case k_BundleError_gt => k_is)
    (case k_BundleError_ca => k_is)
    (case k_BundleError_gd => k_is)
    (case k_BundleError_tk => k_is)
    (case k_BundleError_ob => k_is)
    (case k_NoRow_cl => k_is)
    (case k_NoRow_ty => k_is)
    (case k_NoRow_base => k_is)
    (case k_NoRow_ga => k_is)
    (case k_NoRow_gt => k_is)
    (case k_NoRow_ca => k_is)
    (case k_NoRow_gd => k_is)
    (case k_NoRow_tk => k_is)
    (case k_NoRow_ob => k_is)
    (case f_s_NoRow => k_is)
    (case f_s_Base => k_is)
    (case f_i_val => kit_is)
    (case f_i_Twice => kit_is)
    (case f_i_NoPart => kit_is)
    (case f_i_NoName => kit_is)
    (case f_i_NotGiven => kit_is)
    (case f_i_Endless => kit_is)
    (case f_i_Asks => kit_is)
    (case f_i_TooMany => kit_is)
    (case f_i_NoPlace => kit_is)
    (case f_i_NoMap => kit_is)
    (case i_NoRow_ini => k_is)
    (case i_NoRow_l => k_is)
    (case i_NoRow_c => k_is)
    (case i_NoRow_k => k_is)
    (case i_NoRow_f => k_is)
    (case i_NoRow_kc => k_is)
    (case i_NoRow_o => k_is)
    (case i_NoRow_e => k_exc)
    (case i_NoRow_ov => exact .own (.own .base))
    (case i_NoRow_hd => rfl)
    (case i_NoRow_sa => k_is)
    (case i_NoRow_no => k_is)
    (case b_BundleError_ga => k_is)
    (case b_BundleError_rd => k_is)
    (case b_BundleError_fc => k_is)