import PyProof.Rows.All
import Wide.All
import OpenK.AllK
import Wide.FinOn
import Lean
import PyProof.EqAt
import PyProof.EqKinds
import PyProof.TupleCall
import PySem.Challenge.RW_bundlehouse_k85_too_many_in_a_tangle
set_option Elab.async false
set_option linter.all false
set_option maxRecDepth 100000
namespace HD
open PySem PySem.W
noncomputable abbrev cutTo (p : Program) (ks : List Nat) : Program :=
  { p with main := { p.main with body := ks.filterMap fun i => p.main.body[i]? } }
noncomputable abbrev en (P : Params) (x : Str) (t : Tok) (v : Value) : DictEntry := ⟨PyData.keyHash P x, .str x t, v⟩
noncomputable abbrev tp (p : Program) (i : Nat) : Stmt := p.main.body.getD i (.Pass ⟨0, 0, 0, 0⟩)
noncomputable def inC (s : Stmt) (i : Nat) : Stmt := match s with
  | .ClassDef _ _ _ b _ _ _ _ _ _ _ => b.getD i (.Pass ⟨0, 0, 0, 0⟩)
  | _ => .Pass ⟨0, 0, 0, 0⟩
noncomputable def dA (s : Stmt) : Arguments := match s with
  | .FunctionDef _ a _ _ _ _ _ _ _ _ => a
  | _ => ⟨[], [], none, [], [], none, []⟩
noncomputable def dB (s : Stmt) : List Stmt := match s with
  | .FunctionDef _ _ b _ _ _ _ _ _ _ => b
  | _ => []
noncomputable def dS (s : Stmt) : Scope := match s with
  | .FunctionDef _ _ _ _ _ _ c _ _ _ => c
  | _ => default
theorem left_ofL {p q : Program} {lo : List Str} {Xt : Shared → Bool} {K : Params → Frag} {as : List Addr} (n : Nat) {e : ∀ P, as = (K P).map (·.1)} {N : Nat}
    (h1 : ∀ w, ((openEnds treeTable p w N).map fun s => openSeen q lo (importedModules p.main.body) Xt true s) = some (openGood q lo))
    (h6 : ∀ w, ((openEnds treeTable p w N).map fun s => (as.take n).map s.heap.get?) = some (((K w.params).take n).map fun p => some p.2))
    (h7 : ∀ w, ((openEnds treeTable p w N).map fun s => (as.drop n).map s.heap.get?) = some (((K w.params).drop n).map fun p => some p.2)) : LeftO p q lo Xt (kHook K as e).obs (kHook K as e).val N := by
  intro w
  have a1 := h1 w
  have a6 := h6 w
  have a7 := h7 w
  generalize openEnds treeTable p w N = r at a1 a6 a7 ⊢
  cases r with
  | none => cases a6
  | some s =>
    have b1 : openSeen q lo (importedModules p.main.body) Xt true s = openGood q lo := Option.some.inj a1
    have b6 : (as.take n).map s.heap.get? = ((K w.params).take n).map fun p => some p.2 := Option.some.inj a6
    have b7 : (as.drop n).map s.heap.get? = ((K w.params).drop n).map fun p => some p.2 := Option.some.inj a7
    have b8 : as.map s.heap.get? = (K w.params).map fun p => some p.2 := by rw [← List.take_append_drop n as, List.map_append, b6, b7, ← List.map_append, List.take_append_drop]
    show some (openSeen q lo (importedModules p.main.body) Xt true s, as.map s.heap.get?) = some (openGood q lo, (K w.params).map fun p => some p.2)
    rw [b1, b8]
theorem head_of {l : OpenLaw} {q : Program} {lo : List Str} {K : Params → Frag} {as : List Addr} {N : Nat} {d : DefRec} {kwd : List (Str × Expr)}
    (e : ∀ P, as = (K P).map (·.1)) (said : l.wellSaid = true)
    (hl : LeftO l.row.prog q lo (fun s => xlAt q [] s && recOk (RowW.records l.row.toRowW) s) (kHook K as e).obs (kHook K as e).val N)
    (h1 : defOf q l.row.name = some (d, kwd)) (h2 : l.row.prog.theDef l.row.name = some (d.params, d.body, d.scope))
    (h3 : kwWritten? d.params.kwonlyargs d.params.kw_defaults = some kwd) (h4 : (!l.row.writes || l.row.records.isEmpty) = true)
    (h5 : (chainsOk q && opensWell l.row.prog && (frees l.row.toRowW && l.row.within.isEmpty)) = true)
    (h6 : l.row.prog.bare) (h7 : l.row.toRowW.promised)
    (go : WalkO q lo (XL q []) (kHook K as e).says l.row.toRowW d kwd fun f vs => PySem.call f vs) : l.Holds := by
  refine holds_law said fun sd => ?_
  refine holds_open (XP := XL q []) (YP := (kHook K as e).says) hl (kHook K as e).of (kHook K as e).keeps ?_ XL.keeps h1 h2 h3 ?_ h4 sd h5 h6 h7 go
  · intro s x
    exact xl_of s (Bool.and_eq_true_iff.mp x).1
  · intro s x
    exact recFacts_of (Bool.and_eq_true_iff.mp x).2
end HD
set_option Elab.async false
set_option linter.all false
set_option maxRecDepth 100000
namespace K85
open PySem PySem.W
theorem len1 {α : Type} {us : List α} (h : us.length = 1) : ∃ a, us = [a] := by
  match us, h with
  | [a], _ => exact ⟨a, rfl⟩
theorem len2 {α : Type} {us : List α} (h : us.length = 2) : ∃ a b, us = [a, b] := by
  match us, h with
  | [a, b], _ => exact ⟨a, b, rfl⟩
theorem len3 {α : Type} {us : List α} (h : us.length = 3) : ∃ a b c, us = [a, b, c] := by
  match us, h with
  | [a, b, c], _ => exact ⟨a, b, c, rfl⟩
theorem len4 {α : Type} {us : List α} (h : us.length = 4) : ∃ a b c d, us = [a, b, c, d] := by
  match us, h with
  | [a, b, c, d], _ => exact ⟨a, b, c, d, rfl⟩
set_option maxHeartbeats 0
noncomputable def heapK (P : Params) : PySem.W.Frag :=
  (nat_lit 2, { cls := Value.none, data := Data.dict #[] }) ::
  (nat_lit 3, { cls := Value.type "dict", data := Data.dict #[HD.en P "__name__" 165 (Value.str ("law_bundlehouse_k85_too_many_in_a_tangle") 557), HD.en P "__doc__" 166 (Value.none), HD.en P "__package__" 167 (Value.none), HD.en P "__loader__" 168 (Value.builtin "__main__.__loader__#opaque"), HD.en P "__spec__" 169 (Value.none), HD.en P "__annotations__" 170 (Value.ref 6), HD.en P "__builtins__" 171 (Value.ref 4), HD.en P "__file__" 173 (Value.str ("/claim/cut.py") 172), HD.en P "__cached__" 174 (Value.none), HD.en P "BundleError" 206 (Value.ref 24), HD.en P "RefusedAt" 233 (Value.ref 44), HD.en P "NoRow" 258 (Value.ref 63), HD.en P "Twice" 274 (Value.ref 75), HD.en P "NoPart" 290 (Value.ref 87), HD.en P "NoName" 306 (Value.ref 99), HD.en P "NotGiven" 322 (Value.ref 111), HD.en P "Endless" 347 (Value.ref 130), HD.en P "Asks" 363 (Value.ref 142), HD.en P "TooMany" 388 (Value.ref 161), HD.en P "NoPlace" 404 (Value.ref 173), HD.en P "NoMap" 420 (Value.ref 185), HD.en P "numbers_in" 428 (Value.ref 192), HD.en P "brings" 438 (Value.ref 199), HD.en P "bringings" 448 (Value.ref 206), HD.en P "named_parts" 459 (Value.ref 213), HD.en P "knots_in" 472 (Value.ref 220), HD.en P "knot_around" 478 (Value.ref 225), HD.en P "turned" 488 (Value.ref 232), HD.en P "spread" 499 (Value.ref 239), HD.en P "MOST_PARTS" 503 (Value.int 8 502), HD.en P "tangles" 510 (Value.ref 246), HD.en P "ring_table" 516 (Value.ref 251), HD.en P "steps_within" 522 (Value.ref 256), HD.en P "place_of" 528 (Value.ref 261), HD.en P "best_lasts" 534 (Value.ref 266), HD.en P "count_with_last" 544 (Value.ref 273), HD.en P "fewest" 550 (Value.ref 278), HD.en P "fewest_within" 556 (Value.ref 283), HD.en P "_law_cell_at" 566 (Value.ref 290), HD.en P "_law_mixed" 575 (Value.ref 297), HD.en P "_law_names" 581 (Value.ref 302), HD.en P "_law_sizes" 591 (Value.ref 309), HD.en P "_law_rings" 602 (Value.ref 316), HD.en P "_law_more" 619 (Value.ref 323), HD.en P "_law_fine" 625 (Value.ref 328), HD.en P "_law_caught" 635 (Value.ref 335), HD.en P "law" 641 (Value.ref 340)] 47 }) ::
  (nat_lit 15, { cls := Value.type "tuple", data := Data.seq #[Value.type "ValueError"] }) ::
  (nat_lit 22, { cls := Value.type "tuple", data := Data.seq #[] }) ::
  (nat_lit 23, { cls := Value.type "dict", data := Data.dict #[HD.en P "__module__" 196 (Value.str ("bundlehouse.errors") 187), HD.en P "__firstlineno__" 200 (Value.int 2 199), HD.en P "__static_attributes__" 201 (Value.ref 22), HD.en P "__weakref__" 203 (Value.ref 25), HD.en P "__doc__" 204 (Value.none)] 3 }) ::
  (nat_lit 24, { cls := Value.type "type", data := Data.cls { name := "BundleError", bases := [Value.type "ValueError"], mro := [Value.ref 24, Value.type "ValueError", Value.type "Exception", Value.type "BaseException", Value.type "object"], ns := 23, qualname := "BundleError", subclasses := [Value.ref 44, Value.ref 63, Value.ref 130, Value.ref 161, Value.ref 173, Value.ref 185] }, slots := #[some (Value.ref 15), none, some (Value.str ("BundleError") 189), some (Value.str ("BundleError") 197), some (Value.builtin "ValueError.__new__"), some (Value.bool true)] }) ::
  (nat_lit 25, { cls := Value.type "getset_descriptor", data := Data.fields #[Value.str ("__weakref__") 202, Value.ref 24, Value.builtin "ExceptionGroup.__weakref__", Value.none] }) ::
  (nat_lit 28, { cls := Value.type "tuple", data := Data.seq #[Value.ref 24] }) ::
  (nat_lit 35, { cls := Value.type "tuple", data := Data.seq #[] }) ::
  (nat_lit 37, { cls := Value.type "tuple", data := Data.seq #[Value.str ("self") 222, Value.str ("part") 223, Value.str ("row") 224] }) ::
  (nat_lit 38, { cls := Value.type "tuple", data := Data.seq #[] }) ::
  (nat_lit 40, { cls := Value.type "code", data := Data.fields #[Value.str ("__init__") 219, Value.str ("RefusedAt.__init__") 220, Value.str ("/claim/cut.py") 221, Value.int 6 0, Value.int 3 0, Value.int 0 0, Value.int 0 0, Value.int 3 0, Value.ref 35, Value.bool true, Value.int 181 0, Value.ref 36, Value.none, Value.ref 37, Value.ref 38, Value.ref 39, Value.int 225 0, Value.int 6 0, Value.str ("/claim/cut.py") 226] }) ::
  (nat_lit 42, { cls := Value.type "tuple", data := Data.seq #[Value.str ("part") 228, Value.str ("row") 229] }) ::
  (nat_lit 43, { cls := Value.type "dict", data := Data.dict #[HD.en P "__module__" 214 (Value.str ("bundlehouse.errors") 187), HD.en P "__firstlineno__" 218 (Value.int 4 217), HD.en P "__init__" 227 (Value.ref 41), HD.en P "__static_attributes__" 230 (Value.ref 42), HD.en P "__doc__" 231 (Value.none)] 2 }) ::
  (nat_lit 44, { cls := Value.type "type", data := Data.cls { name := "RefusedAt", bases := [Value.ref 24], mro := [Value.ref 44, Value.ref 24, Value.type "ValueError", Value.type "Exception", Value.type "BaseException", Value.type "object"], ns := 43, qualname := "RefusedAt", subclasses := [Value.ref 75, Value.ref 87, Value.ref 99, Value.ref 111, Value.ref 142] }, slots := #[some (Value.ref 28), none, some (Value.str ("RefusedAt") 207), some (Value.str ("RefusedAt") 215), some (Value.builtin "ValueError.__new__"), some (Value.bool true)] }) ::
  (nat_lit 47, { cls := Value.type "tuple", data := Data.seq #[Value.ref 24] }) ::
  (nat_lit 54, { cls := Value.type "tuple", data := Data.seq #[] }) ::
  (nat_lit 56, { cls := Value.type "tuple", data := Data.seq #[Value.str ("self") 249, Value.str ("number") 250] }) ::
  (nat_lit 57, { cls := Value.type "tuple", data := Data.seq #[] }) ::
  (nat_lit 59, { cls := Value.type "code", data := Data.fields #[Value.str ("__init__") 246, Value.str ("NoRow.__init__") 247, Value.str ("/claim/cut.py") 248, Value.int 12 0, Value.int 2 0, Value.int 0 0, Value.int 0 0, Value.int 3 0, Value.ref 54, Value.bool true, Value.int 181 0, Value.ref 55, Value.none, Value.ref 56, Value.ref 57, Value.ref 58, Value.int 251 0, Value.int 12 0, Value.str ("/claim/cut.py") 252] }) ::
  (nat_lit 61, { cls := Value.type "tuple", data := Data.seq #[Value.str ("number") 254] }) ::
  (nat_lit 62, { cls := Value.type "dict", data := Data.dict #[HD.en P "__module__" 241 (Value.str ("bundlehouse.errors") 187), HD.en P "__firstlineno__" 245 (Value.int 10 244), HD.en P "__init__" 253 (Value.ref 60), HD.en P "__static_attributes__" 255 (Value.ref 61), HD.en P "__doc__" 256 (Value.none)] 2 }) ::
  (nat_lit 63, { cls := Value.type "type", data := Data.cls { name := "NoRow", bases := [Value.ref 24], mro := [Value.ref 63, Value.ref 24, Value.type "ValueError", Value.type "Exception", Value.type "BaseException", Value.type "object"], ns := 62, qualname := "NoRow" }, slots := #[some (Value.ref 47), none, some (Value.str ("NoRow") 234), some (Value.str ("NoRow") 242), some (Value.builtin "ValueError.__new__"), some (Value.bool true)] }) ::
  (nat_lit 66, { cls := Value.type "tuple", data := Data.seq #[Value.ref 44] }) ::
  (nat_lit 73, { cls := Value.type "tuple", data := Data.seq #[] }) ::
  (nat_lit 74, { cls := Value.type "dict", data := Data.dict #[HD.en P "__module__" 266 (Value.str ("bundlehouse.errors") 187), HD.en P "__firstlineno__" 270 (Value.int 15 269), HD.en P "__static_attributes__" 271 (Value.ref 73), HD.en P "__doc__" 272 (Value.none)] 2 }) ::
  (nat_lit 75, { cls := Value.type "type", data := Data.cls { name := "Twice", bases := [Value.ref 44], mro := [Value.ref 75, Value.ref 44, Value.ref 24, Value.type "ValueError", Value.type "Exception", Value.type "BaseException", Value.type "object"], ns := 74, qualname := "Twice" }, slots := #[some (Value.ref 66), none, some (Value.str ("Twice") 259), some (Value.str ("Twice") 267), some (Value.builtin "ValueError.__new__"), some (Value.bool true)] }) ::
  (nat_lit 78, { cls := Value.type "tuple", data := Data.seq #[Value.ref 44] }) ::
  (nat_lit 85, { cls := Value.type "tuple", data := Data.seq #[] }) ::
  (nat_lit 86, { cls := Value.type "dict", data := Data.dict #[HD.en P "__module__" 282 (Value.str ("bundlehouse.errors") 187), HD.en P "__firstlineno__" 286 (Value.int 17 285), HD.en P "__static_attributes__" 287 (Value.ref 85), HD.en P "__doc__" 288 (Value.none)] 2 }) ::
  (nat_lit 87, { cls := Value.type "type", data := Data.cls { name := "NoPart", bases := [Value.ref 44], mro := [Value.ref 87, Value.ref 44, Value.ref 24, Value.type "ValueError", Value.type "Exception", Value.type "BaseException", Value.type "object"], ns := 86, qualname := "NoPart" }, slots := #[some (Value.ref 78), none, some (Value.str ("NoPart") 275), some (Value.str ("NoPart") 283), some (Value.builtin "ValueError.__new__"), some (Value.bool true)] }) ::
  (nat_lit 90, { cls := Value.type "tuple", data := Data.seq #[Value.ref 44] }) ::
  (nat_lit 97, { cls := Value.type "tuple", data := Data.seq #[] }) ::
  (nat_lit 98, { cls := Value.type "dict", data := Data.dict #[HD.en P "__module__" 298 (Value.str ("bundlehouse.errors") 187), HD.en P "__firstlineno__" 302 (Value.int 19 301), HD.en P "__static_attributes__" 303 (Value.ref 97), HD.en P "__doc__" 304 (Value.none)] 2 }) ::
  (nat_lit 99, { cls := Value.type "type", data := Data.cls { name := "NoName", bases := [Value.ref 44], mro := [Value.ref 99, Value.ref 44, Value.ref 24, Value.type "ValueError", Value.type "Exception", Value.type "BaseException", Value.type "object"], ns := 98, qualname := "NoName" }, slots := #[some (Value.ref 90), none, some (Value.str ("NoName") 291), some (Value.str ("NoName") 299), some (Value.builtin "ValueError.__new__"), some (Value.bool true)] }) ::
  (nat_lit 102, { cls := Value.type "tuple", data := Data.seq #[Value.ref 44] }) ::
  (nat_lit 109, { cls := Value.type "tuple", data := Data.seq #[] }) ::
  (nat_lit 110, { cls := Value.type "dict", data := Data.dict #[HD.en P "__module__" 314 (Value.str ("bundlehouse.errors") 187), HD.en P "__firstlineno__" 318 (Value.int 21 317), HD.en P "__static_attributes__" 319 (Value.ref 109), HD.en P "__doc__" 320 (Value.none)] 2 }) ::
  (nat_lit 111, { cls := Value.type "type", data := Data.cls { name := "NotGiven", bases := [Value.ref 44], mro := [Value.ref 111, Value.ref 44, Value.ref 24, Value.type "ValueError", Value.type "Exception", Value.type "BaseException", Value.type "object"], ns := 110, qualname := "NotGiven" }, slots := #[some (Value.ref 102), none, some (Value.str ("NotGiven") 307), some (Value.str ("NotGiven") 315), some (Value.builtin "ValueError.__new__"), some (Value.bool true)] }) ::
  (nat_lit 114, { cls := Value.type "tuple", data := Data.seq #[Value.ref 24] }) ::
  (nat_lit 121, { cls := Value.type "tuple", data := Data.seq #[] }) ::
  (nat_lit 123, { cls := Value.type "tuple", data := Data.seq #[Value.str ("self") 338, Value.str ("way") 339] }) ::
  (nat_lit 124, { cls := Value.type "tuple", data := Data.seq #[] }) ::
  (nat_lit 126, { cls := Value.type "code", data := Data.fields #[Value.str ("__init__") 335, Value.str ("Endless.__init__") 336, Value.str ("/claim/cut.py") 337, Value.int 25 0, Value.int 2 0, Value.int 0 0, Value.int 0 0, Value.int 3 0, Value.ref 121, Value.bool true, Value.int 181 0, Value.ref 122, Value.none, Value.ref 123, Value.ref 124, Value.ref 125, Value.int 340 0, Value.int 25 0, Value.str ("/claim/cut.py") 341] }) ::
  (nat_lit 128, { cls := Value.type "tuple", data := Data.seq #[Value.str ("way") 343] }) ::
  (nat_lit 129, { cls := Value.type "dict", data := Data.dict #[HD.en P "__module__" 330 (Value.str ("bundlehouse.errors") 187), HD.en P "__firstlineno__" 334 (Value.int 23 333), HD.en P "__init__" 342 (Value.ref 127), HD.en P "__static_attributes__" 344 (Value.ref 128), HD.en P "__doc__" 345 (Value.none)] 2 }) ::
  (nat_lit 130, { cls := Value.type "type", data := Data.cls { name := "Endless", bases := [Value.ref 24], mro := [Value.ref 130, Value.ref 24, Value.type "ValueError", Value.type "Exception", Value.type "BaseException", Value.type "object"], ns := 129, qualname := "Endless" }, slots := #[some (Value.ref 114), none, some (Value.str ("Endless") 323), some (Value.str ("Endless") 331), some (Value.builtin "ValueError.__new__"), some (Value.bool true)] }) ::
  (nat_lit 133, { cls := Value.type "tuple", data := Data.seq #[Value.ref 44] }) ::
  (nat_lit 140, { cls := Value.type "tuple", data := Data.seq #[] }) ::
  (nat_lit 141, { cls := Value.type "dict", data := Data.dict #[HD.en P "__module__" 355 (Value.str ("bundlehouse.errors") 187), HD.en P "__firstlineno__" 359 (Value.int 28 358), HD.en P "__static_attributes__" 360 (Value.ref 140), HD.en P "__doc__" 361 (Value.none)] 2 }) ::
  (nat_lit 142, { cls := Value.type "type", data := Data.cls { name := "Asks", bases := [Value.ref 44], mro := [Value.ref 142, Value.ref 44, Value.ref 24, Value.type "ValueError", Value.type "Exception", Value.type "BaseException", Value.type "object"], ns := 141, qualname := "Asks" }, slots := #[some (Value.ref 133), none, some (Value.str ("Asks") 348), some (Value.str ("Asks") 356), some (Value.builtin "ValueError.__new__"), some (Value.bool true)] }) ::
  (nat_lit 145, { cls := Value.type "tuple", data := Data.seq #[Value.ref 24] }) ::
  (nat_lit 152, { cls := Value.type "tuple", data := Data.seq #[] }) ::
  (nat_lit 154, { cls := Value.type "tuple", data := Data.seq #[Value.str ("self") 379, Value.str ("parts") 380] }) ::
  (nat_lit 155, { cls := Value.type "tuple", data := Data.seq #[] }) ::
  (nat_lit 157, { cls := Value.type "code", data := Data.fields #[Value.str ("__init__") 376, Value.str ("TooMany.__init__") 377, Value.str ("/claim/cut.py") 378, Value.int 32 0, Value.int 2 0, Value.int 0 0, Value.int 0 0, Value.int 3 0, Value.ref 152, Value.bool true, Value.int 181 0, Value.ref 153, Value.none, Value.ref 154, Value.ref 155, Value.ref 156, Value.int 381 0, Value.int 32 0, Value.str ("/claim/cut.py") 382] }) ::
  (nat_lit 158, ⟨Value.type "function", none, .func (PySem.W.fnOf "__init__" "TooMany.__init__" (HD.dA (HD.inC (HD.tp PySem.Challenge.pw_bundlehouse_k85_too_many_in_a_tangle 10) 0)) (HD.dB (HD.inC (HD.tp PySem.Challenge.pw_bundlehouse_k85_too_many_in_a_tangle 10) 0)) (HD.dS (HD.inC (HD.tp PySem.Challenge.pw_bundlehouse_k85_too_many_in_a_tangle 10) 0)) (Value.none) (Value.none) (Value.none) (Value.str ("bundlehouse.errors") 187) (none) (Value.ref 157) (Value.none)), #[]⟩) ::
  (nat_lit 159, { cls := Value.type "tuple", data := Data.seq #[Value.str ("parts") 384] }) ::
  (nat_lit 160, { cls := Value.type "dict", data := Data.dict #[HD.en P "__module__" 371 (Value.str ("bundlehouse.errors") 187), HD.en P "__firstlineno__" 375 (Value.int 30 374), HD.en P "__init__" 383 (Value.ref 158), HD.en P "__static_attributes__" 385 (Value.ref 159), HD.en P "__doc__" 386 (Value.none)] 2 }) ::
  (nat_lit 161, { cls := Value.type "type", data := Data.cls { name := "TooMany", bases := [Value.ref 24], mro := [Value.ref 161, Value.ref 24, Value.type "ValueError", Value.type "Exception", Value.type "BaseException", Value.type "object"], ns := 160, qualname := "TooMany" }, slots := #[some (Value.ref 145), none, some (Value.str ("TooMany") 364), some (Value.str ("TooMany") 372), some (Value.builtin "ValueError.__new__"), some (Value.bool true)] }) ::
  (nat_lit 164, { cls := Value.type "tuple", data := Data.seq #[Value.ref 24] }) ::
  (nat_lit 171, { cls := Value.type "tuple", data := Data.seq #[] }) ::
  (nat_lit 172, { cls := Value.type "dict", data := Data.dict #[HD.en P "__module__" 396 (Value.str ("bundlehouse.errors") 187), HD.en P "__firstlineno__" 400 (Value.int 35 399), HD.en P "__static_attributes__" 401 (Value.ref 171), HD.en P "__doc__" 402 (Value.none)] 2 }) ::
  (nat_lit 173, { cls := Value.type "type", data := Data.cls { name := "NoPlace", bases := [Value.ref 24], mro := [Value.ref 173, Value.ref 24, Value.type "ValueError", Value.type "Exception", Value.type "BaseException", Value.type "object"], ns := 172, qualname := "NoPlace" }, slots := #[some (Value.ref 164), none, some (Value.str ("NoPlace") 389), some (Value.str ("NoPlace") 397), some (Value.builtin "ValueError.__new__"), some (Value.bool true)] }) ::
  (nat_lit 176, { cls := Value.type "tuple", data := Data.seq #[Value.ref 24] }) ::
  (nat_lit 183, { cls := Value.type "tuple", data := Data.seq #[] }) ::
  (nat_lit 184, { cls := Value.type "dict", data := Data.dict #[HD.en P "__module__" 412 (Value.str ("bundlehouse.errors") 187), HD.en P "__firstlineno__" 416 (Value.int 37 415), HD.en P "__static_attributes__" 417 (Value.ref 183), HD.en P "__doc__" 418 (Value.none)] 2 }) ::
  (nat_lit 185, { cls := Value.type "type", data := Data.cls { name := "NoMap", bases := [Value.ref 24], mro := [Value.ref 185, Value.ref 24, Value.type "ValueError", Value.type "Exception", Value.type "BaseException", Value.type "object"], ns := 184, qualname := "NoMap" }, slots := #[some (Value.ref 176), none, some (Value.str ("NoMap") 405), some (Value.str ("NoMap") 413), some (Value.builtin "ValueError.__new__"), some (Value.bool true)] }) ::
  (nat_lit 188, { cls := Value.type "tuple", data := Data.seq #[] }) ::
  (nat_lit 191, { cls := Value.type "code", data := Data.fields #[Value.str ("numbers_in") 423, Value.str ("numbers_in") 424, Value.str ("/claim/cut.py") 425, Value.int 40 0, Value.int 1 0, Value.int 0 0, Value.int 0 0, Value.int 3 0, Value.ref 188, Value.bool true, Value.int 181 0, Value.ref 189, Value.none, Value.none, Value.none, Value.ref 190, Value.int 426 0, Value.int 40 0, Value.str ("/claim/cut.py") 427] }) ::
  (nat_lit 192, ⟨Value.type "function", none, .func (PySem.W.fnOf "numbers_in" "numbers_in" (HD.dA (HD.tp PySem.Challenge.pw_bundlehouse_k85_too_many_in_a_tangle 14)) (HD.dB (HD.tp PySem.Challenge.pw_bundlehouse_k85_too_many_in_a_tangle 14)) (HD.dS (HD.tp PySem.Challenge.pw_bundlehouse_k85_too_many_in_a_tangle 14)) (Value.none) (Value.none) (Value.none) (Value.str ("bundlehouse.cuts") 421) (none) (Value.ref 191) (Value.none)), #[]⟩) ::
  (nat_lit 193, { cls := Value.type "tuple", data := Data.seq #[] }) ::
  (nat_lit 195, { cls := Value.type "tuple", data := Data.seq #[Value.str ("parts") 434, Value.str ("part") 435] }) ::
  (nat_lit 196, { cls := Value.type "tuple", data := Data.seq #[] }) ::
  (nat_lit 198, { cls := Value.type "code", data := Data.fields #[Value.str ("brings") 431, Value.str ("brings") 432, Value.str ("/claim/cut.py") 433, Value.int 43 0, Value.int 2 0, Value.int 0 0, Value.int 0 0, Value.int 3 0, Value.ref 193, Value.bool true, Value.int 181 0, Value.ref 194, Value.none, Value.ref 195, Value.ref 196, Value.ref 197, Value.int 436 0, Value.int 43 0, Value.str ("/claim/cut.py") 437] }) ::
  (nat_lit 199, ⟨Value.type "function", none, .func (PySem.W.fnOf "brings" "brings" (HD.dA (HD.tp PySem.Challenge.pw_bundlehouse_k85_too_many_in_a_tangle 16)) (HD.dB (HD.tp PySem.Challenge.pw_bundlehouse_k85_too_many_in_a_tangle 16)) (HD.dS (HD.tp PySem.Challenge.pw_bundlehouse_k85_too_many_in_a_tangle 16)) (Value.none) (Value.none) (Value.none) (Value.str ("bundlehouse.net") 429) (none) (Value.ref 198) (Value.none)), #[]⟩) ::
  (nat_lit 200, { cls := Value.type "tuple", data := Data.seq #[] }) ::
  (nat_lit 202, { cls := Value.type "tuple", data := Data.seq #[Value.str ("parts") 442, Value.str ("onward") 443, Value.str ("part") 444, Value.str ("rows") 445] }) ::
  (nat_lit 203, { cls := Value.type "tuple", data := Data.seq #[] }) ::
  (nat_lit 205, { cls := Value.type "code", data := Data.fields #[Value.str ("bringings") 439, Value.str ("bringings") 440, Value.str ("/claim/cut.py") 441, Value.int 45 0, Value.int 1 0, Value.int 0 0, Value.int 0 0, Value.int 3 0, Value.ref 200, Value.bool true, Value.int 181 0, Value.ref 201, Value.none, Value.ref 202, Value.ref 203, Value.ref 204, Value.int 446 0, Value.int 45 0, Value.str ("/claim/cut.py") 447] }) ::
  (nat_lit 206, ⟨Value.type "function", none, .func (PySem.W.fnOf "bringings" "bringings" (HD.dA (HD.tp PySem.Challenge.pw_bundlehouse_k85_too_many_in_a_tangle 17)) (HD.dB (HD.tp PySem.Challenge.pw_bundlehouse_k85_too_many_in_a_tangle 17)) (HD.dS (HD.tp PySem.Challenge.pw_bundlehouse_k85_too_many_in_a_tangle 17)) (Value.none) (Value.none) (Value.none) (Value.str ("bundlehouse.net") 429) (none) (Value.ref 205) (Value.none)), #[]⟩) ::
  (nat_lit 207, { cls := Value.type "tuple", data := Data.seq #[] }) ::
  (nat_lit 209, { cls := Value.type "tuple", data := Data.seq #[Value.str ("parts") 452, Value.str ("part") 453, Value.str ("kind") 454, Value.str ("found") 455, Value.str ("row") 456] }) ::
  (nat_lit 210, { cls := Value.type "tuple", data := Data.seq #[] }) ::
  (nat_lit 212, { cls := Value.type "code", data := Data.fields #[Value.str ("named_parts") 449, Value.str ("named_parts") 450, Value.str ("/claim/cut.py") 451, Value.int 50 0, Value.int 3 0, Value.int 0 0, Value.int 0 0, Value.int 3 0, Value.ref 207, Value.bool true, Value.int 181 0, Value.ref 208, Value.none, Value.ref 209, Value.ref 210, Value.ref 211, Value.int 457 0, Value.int 50 0, Value.str ("/claim/cut.py") 458] }) ::
  (nat_lit 213, ⟨Value.type "function", none, .func (PySem.W.fnOf "named_parts" "named_parts" (HD.dA (HD.tp PySem.Challenge.pw_bundlehouse_k85_too_many_in_a_tangle 18)) (HD.dB (HD.tp PySem.Challenge.pw_bundlehouse_k85_too_many_in_a_tangle 18)) (HD.dS (HD.tp PySem.Challenge.pw_bundlehouse_k85_too_many_in_a_tangle 18)) (Value.none) (Value.none) (Value.none) (Value.str ("bundlehouse.net") 429) (none) (Value.ref 212) (Value.none)), #[]⟩) ::
  (nat_lit 214, { cls := Value.type "tuple", data := Data.seq #[] }) ::
  (nat_lit 216, { cls := Value.type "tuple", data := Data.seq #[Value.str ("onward") 465, Value.str ("backward") 466, Value.str ("found") 467, Value.str ("part") 468, Value.str ("knot") 469] }) ::
  (nat_lit 217, { cls := Value.type "tuple", data := Data.seq #[] }) ::
  (nat_lit 219, { cls := Value.type "code", data := Data.fields #[Value.str ("knots_in") 462, Value.str ("knots_in") 463, Value.str ("/claim/cut.py") 464, Value.int 57 0, Value.int 1 0, Value.int 0 0, Value.int 0 0, Value.int 3 0, Value.ref 214, Value.bool true, Value.int 181 0, Value.ref 215, Value.none, Value.ref 216, Value.ref 217, Value.ref 218, Value.int 470 0, Value.int 57 0, Value.str ("/claim/cut.py") 471] }) ::
  (nat_lit 220, ⟨Value.type "function", none, .func (PySem.W.fnOf "knots_in" "knots_in" (HD.dA (HD.tp PySem.Challenge.pw_bundlehouse_k85_too_many_in_a_tangle 20)) (HD.dB (HD.tp PySem.Challenge.pw_bundlehouse_k85_too_many_in_a_tangle 20)) (HD.dS (HD.tp PySem.Challenge.pw_bundlehouse_k85_too_many_in_a_tangle 20)) (Value.none) (Value.none) (Value.none) (Value.str ("bundlehouse.knots") 460) (none) (Value.ref 219) (Value.none)), #[]⟩) ::
  (nat_lit 221, { cls := Value.type "tuple", data := Data.seq #[] }) ::
  (nat_lit 224, { cls := Value.type "code", data := Data.fields #[Value.str ("knot_around") 473, Value.str ("knot_around") 474, Value.str ("/claim/cut.py") 475, Value.int 65 0, Value.int 3 0, Value.int 0 0, Value.int 0 0, Value.int 3 0, Value.ref 221, Value.bool true, Value.int 181 0, Value.ref 222, Value.none, Value.none, Value.none, Value.ref 223, Value.int 476 0, Value.int 65 0, Value.str ("/claim/cut.py") 477] }) ::
  (nat_lit 225, ⟨Value.type "function", none, .func (PySem.W.fnOf "knot_around" "knot_around" (HD.dA (HD.tp PySem.Challenge.pw_bundlehouse_k85_too_many_in_a_tangle 21)) (HD.dB (HD.tp PySem.Challenge.pw_bundlehouse_k85_too_many_in_a_tangle 21)) (HD.dS (HD.tp PySem.Challenge.pw_bundlehouse_k85_too_many_in_a_tangle 21)) (Value.none) (Value.none) (Value.none) (Value.str ("bundlehouse.knots") 460) (none) (Value.ref 224) (Value.none)), #[]⟩) ::
  (nat_lit 226, { cls := Value.type "tuple", data := Data.seq #[] }) ::
  (nat_lit 228, { cls := Value.type "tuple", data := Data.seq #[Value.str ("onward") 482, Value.str ("backward") 483, Value.str ("part") 484, Value.str ("other") 485] }) ::
  (nat_lit 229, { cls := Value.type "tuple", data := Data.seq #[] }) ::
  (nat_lit 231, { cls := Value.type "code", data := Data.fields #[Value.str ("turned") 479, Value.str ("turned") 480, Value.str ("/claim/cut.py") 481, Value.int 69 0, Value.int 1 0, Value.int 0 0, Value.int 0 0, Value.int 3 0, Value.ref 226, Value.bool true, Value.int 181 0, Value.ref 227, Value.none, Value.ref 228, Value.ref 229, Value.ref 230, Value.int 486 0, Value.int 69 0, Value.str ("/claim/cut.py") 487] }) ::
  (nat_lit 232, ⟨Value.type "function", none, .func (PySem.W.fnOf "turned" "turned" (HD.dA (HD.tp PySem.Challenge.pw_bundlehouse_k85_too_many_in_a_tangle 22)) (HD.dB (HD.tp PySem.Challenge.pw_bundlehouse_k85_too_many_in_a_tangle 22)) (HD.dS (HD.tp PySem.Challenge.pw_bundlehouse_k85_too_many_in_a_tangle 22)) (Value.none) (Value.none) (Value.none) (Value.str ("bundlehouse.knots") 460) (none) (Value.ref 231) (Value.none)), #[]⟩) ::
  (nat_lit 233, { cls := Value.type "tuple", data := Data.seq #[] }) ::
  (nat_lit 235, { cls := Value.type "tuple", data := Data.seq #[Value.str ("onward") 492, Value.str ("some") 493, Value.str ("found") 494, Value.str ("waiting") 495, Value.str ("part") 496] }) ::
  (nat_lit 236, { cls := Value.type "tuple", data := Data.seq #[] }) ::
  (nat_lit 238, { cls := Value.type "code", data := Data.fields #[Value.str ("spread") 489, Value.str ("spread") 490, Value.str ("/claim/cut.py") 491, Value.int 77 0, Value.int 2 0, Value.int 0 0, Value.int 0 0, Value.int 3 0, Value.ref 233, Value.bool true, Value.int 181 0, Value.ref 234, Value.none, Value.ref 235, Value.ref 236, Value.ref 237, Value.int 497 0, Value.int 77 0, Value.str ("/claim/cut.py") 498] }) ::
  (nat_lit 239, ⟨Value.type "function", none, .func (PySem.W.fnOf "spread" "spread" (HD.dA (HD.tp PySem.Challenge.pw_bundlehouse_k85_too_many_in_a_tangle 23)) (HD.dB (HD.tp PySem.Challenge.pw_bundlehouse_k85_too_many_in_a_tangle 23)) (HD.dS (HD.tp PySem.Challenge.pw_bundlehouse_k85_too_many_in_a_tangle 23)) (Value.none) (Value.none) (Value.none) (Value.str ("bundlehouse.knots") 460) (none) (Value.ref 238) (Value.none)), #[]⟩) ::
  (nat_lit 240, { cls := Value.type "tuple", data := Data.seq #[] }) ::
  (nat_lit 242, { cls := Value.type "tuple", data := Data.seq #[Value.str ("parts") 507] }) ::
  (nat_lit 243, { cls := Value.type "tuple", data := Data.seq #[] }) ::
  (nat_lit 245, { cls := Value.type "code", data := Data.fields #[Value.str ("tangles") 504, Value.str ("tangles") 505, Value.str ("/claim/cut.py") 506, Value.int 88 0, Value.int 1 0, Value.int 0 0, Value.int 0 0, Value.int 3 0, Value.ref 240, Value.bool true, Value.int 181 0, Value.ref 241, Value.none, Value.ref 242, Value.ref 243, Value.ref 244, Value.int 508 0, Value.int 88 0, Value.str ("/claim/cut.py") 509] }) ::
  (nat_lit 246, ⟨Value.type "function", none, .func (PySem.W.fnOf "tangles" "tangles" (HD.dA (HD.tp PySem.Challenge.pw_bundlehouse_k85_too_many_in_a_tangle 26)) (HD.dB (HD.tp PySem.Challenge.pw_bundlehouse_k85_too_many_in_a_tangle 26)) (HD.dS (HD.tp PySem.Challenge.pw_bundlehouse_k85_too_many_in_a_tangle 26)) (Value.none) (Value.none) (Value.none) (Value.str ("bundlehouse.rings") 500) (none) (Value.ref 245) (Value.none)), #[]⟩) ::
  (nat_lit 247, { cls := Value.type "tuple", data := Data.seq #[] }) ::
  (nat_lit 250, { cls := Value.type "code", data := Data.fields #[Value.str ("ring_table") 511, Value.str ("ring_table") 512, Value.str ("/claim/cut.py") 513, Value.int 90 0, Value.int 2 0, Value.int 0 0, Value.int 0 0, Value.int 3 0, Value.ref 247, Value.bool true, Value.int 181 0, Value.ref 248, Value.none, Value.none, Value.none, Value.ref 249, Value.int 514 0, Value.int 90 0, Value.str ("/claim/cut.py") 515] }) ::
  (nat_lit 251, ⟨Value.type "function", none, .func (PySem.W.fnOf "ring_table" "ring_table" (HD.dA (HD.tp PySem.Challenge.pw_bundlehouse_k85_too_many_in_a_tangle 27)) (HD.dB (HD.tp PySem.Challenge.pw_bundlehouse_k85_too_many_in_a_tangle 27)) (HD.dS (HD.tp PySem.Challenge.pw_bundlehouse_k85_too_many_in_a_tangle 27)) (Value.none) (Value.none) (Value.none) (Value.str ("bundlehouse.rings") 500) (none) (Value.ref 250) (Value.none)), #[]⟩) ::
  (nat_lit 252, { cls := Value.type "tuple", data := Data.seq #[] }) ::
  (nat_lit 255, { cls := Value.type "code", data := Data.fields #[Value.str ("steps_within") 517, Value.str ("steps_within") 518, Value.str ("/claim/cut.py") 519, Value.int 92 0, Value.int 2 0, Value.int 0 0, Value.int 0 0, Value.int 3 0, Value.ref 252, Value.bool true, Value.int 181 0, Value.ref 253, Value.none, Value.none, Value.none, Value.ref 254, Value.int 520 0, Value.int 92 0, Value.str ("/claim/cut.py") 521] }) ::
  (nat_lit 256, ⟨Value.type "function", none, .func (PySem.W.fnOf "steps_within" "steps_within" (HD.dA (HD.tp PySem.Challenge.pw_bundlehouse_k85_too_many_in_a_tangle 28)) (HD.dB (HD.tp PySem.Challenge.pw_bundlehouse_k85_too_many_in_a_tangle 28)) (HD.dS (HD.tp PySem.Challenge.pw_bundlehouse_k85_too_many_in_a_tangle 28)) (Value.none) (Value.none) (Value.none) (Value.str ("bundlehouse.rings") 500) (none) (Value.ref 255) (Value.none)), #[]⟩) ::
  (nat_lit 257, { cls := Value.type "tuple", data := Data.seq #[] }) ::
  (nat_lit 260, { cls := Value.type "code", data := Data.fields #[Value.str ("place_of") 523, Value.str ("place_of") 524, Value.str ("/claim/cut.py") 525, Value.int 97 0, Value.int 2 0, Value.int 0 0, Value.int 0 0, Value.int 3 0, Value.ref 257, Value.bool true, Value.int 181 0, Value.ref 258, Value.none, Value.none, Value.none, Value.ref 259, Value.int 526 0, Value.int 97 0, Value.str ("/claim/cut.py") 527] }) ::
  (nat_lit 261, ⟨Value.type "function", none, .func (PySem.W.fnOf "place_of" "place_of" (HD.dA (HD.tp PySem.Challenge.pw_bundlehouse_k85_too_many_in_a_tangle 29)) (HD.dB (HD.tp PySem.Challenge.pw_bundlehouse_k85_too_many_in_a_tangle 29)) (HD.dS (HD.tp PySem.Challenge.pw_bundlehouse_k85_too_many_in_a_tangle 29)) (Value.none) (Value.none) (Value.none) (Value.str ("bundlehouse.rings") 500) (none) (Value.ref 260) (Value.none)), #[]⟩) ::
  (nat_lit 262, { cls := Value.type "tuple", data := Data.seq #[] }) ::
  (nat_lit 265, { cls := Value.type "code", data := Data.fields #[Value.str ("best_lasts") 529, Value.str ("best_lasts") 530, Value.str ("/claim/cut.py") 531, Value.int 99 0, Value.int 1 0, Value.int 0 0, Value.int 0 0, Value.int 3 0, Value.ref 262, Value.bool true, Value.int 181 0, Value.ref 263, Value.none, Value.none, Value.none, Value.ref 264, Value.int 532 0, Value.int 99 0, Value.str ("/claim/cut.py") 533] }) ::
  (nat_lit 266, ⟨Value.type "function", none, .func (PySem.W.fnOf "best_lasts" "best_lasts" (HD.dA (HD.tp PySem.Challenge.pw_bundlehouse_k85_too_many_in_a_tangle 30)) (HD.dB (HD.tp PySem.Challenge.pw_bundlehouse_k85_too_many_in_a_tangle 30)) (HD.dS (HD.tp PySem.Challenge.pw_bundlehouse_k85_too_many_in_a_tangle 30)) (Value.none) (Value.none) (Value.none) (Value.str ("bundlehouse.rings") 500) (none) (Value.ref 265) (Value.none)), #[]⟩) ::
  (nat_lit 267, { cls := Value.type "tuple", data := Data.seq #[] }) ::
  (nat_lit 269, { cls := Value.type "tuple", data := Data.seq #[Value.str ("steps") 538, Value.str ("best") 539, Value.str ("place") 540, Value.str ("last") 541] }) ::
  (nat_lit 270, { cls := Value.type "tuple", data := Data.seq #[] }) ::
  (nat_lit 272, { cls := Value.type "code", data := Data.fields #[Value.str ("count_with_last") 535, Value.str ("count_with_last") 536, Value.str ("/claim/cut.py") 537, Value.int 104 0, Value.int 4 0, Value.int 0 0, Value.int 0 0, Value.int 3 0, Value.ref 267, Value.bool true, Value.int 181 0, Value.ref 268, Value.none, Value.ref 269, Value.ref 270, Value.ref 271, Value.int 542 0, Value.int 104 0, Value.str ("/claim/cut.py") 543] }) ::
  (nat_lit 273, ⟨Value.type "function", none, .func (PySem.W.fnOf "count_with_last" "count_with_last" (HD.dA (HD.tp PySem.Challenge.pw_bundlehouse_k85_too_many_in_a_tangle 31)) (HD.dB (HD.tp PySem.Challenge.pw_bundlehouse_k85_too_many_in_a_tangle 31)) (HD.dS (HD.tp PySem.Challenge.pw_bundlehouse_k85_too_many_in_a_tangle 31)) (Value.none) (Value.none) (Value.none) (Value.str ("bundlehouse.rings") 500) (none) (Value.ref 272) (Value.none)), #[]⟩) ::
  (nat_lit 274, { cls := Value.type "tuple", data := Data.seq #[] }) ::
  (nat_lit 277, { cls := Value.type "code", data := Data.fields #[Value.str ("fewest") 545, Value.str ("fewest") 546, Value.str ("/claim/cut.py") 547, Value.int 106 0, Value.int 1 0, Value.int 0 0, Value.int 0 0, Value.int 3 0, Value.ref 274, Value.bool true, Value.int 181 0, Value.ref 275, Value.none, Value.none, Value.none, Value.ref 276, Value.int 548 0, Value.int 106 0, Value.str ("/claim/cut.py") 549] }) ::
  (nat_lit 278, ⟨Value.type "function", none, .func (PySem.W.fnOf "fewest" "fewest" (HD.dA (HD.tp PySem.Challenge.pw_bundlehouse_k85_too_many_in_a_tangle 32)) (HD.dB (HD.tp PySem.Challenge.pw_bundlehouse_k85_too_many_in_a_tangle 32)) (HD.dS (HD.tp PySem.Challenge.pw_bundlehouse_k85_too_many_in_a_tangle 32)) (Value.none) (Value.none) (Value.none) (Value.str ("bundlehouse.rings") 500) (none) (Value.ref 277) (Value.none)), #[]⟩) ::
  (nat_lit 279, { cls := Value.type "tuple", data := Data.seq #[] }) ::
  (nat_lit 282, { cls := Value.type "code", data := Data.fields #[Value.str ("fewest_within") 551, Value.str ("fewest_within") 552, Value.str ("/claim/cut.py") 553, Value.int 115 0, Value.int 2 0, Value.int 0 0, Value.int 0 0, Value.int 3 0, Value.ref 279, Value.bool true, Value.int 181 0, Value.ref 280, Value.none, Value.none, Value.none, Value.ref 281, Value.int 554 0, Value.int 115 0, Value.str ("/claim/cut.py") 555] }) ::
  (nat_lit 283, ⟨Value.type "function", none, .func (PySem.W.fnOf "fewest_within" "fewest_within" (HD.dA (HD.tp PySem.Challenge.pw_bundlehouse_k85_too_many_in_a_tangle 33)) (HD.dB (HD.tp PySem.Challenge.pw_bundlehouse_k85_too_many_in_a_tangle 33)) (HD.dS (HD.tp PySem.Challenge.pw_bundlehouse_k85_too_many_in_a_tangle 33)) (Value.none) (Value.none) (Value.none) (Value.str ("bundlehouse.rings") 500) (none) (Value.ref 282) (Value.none)), #[]⟩) ::
  (nat_lit 284, { cls := Value.type "tuple", data := Data.seq #[] }) ::
  (nat_lit 286, { cls := Value.type "tuple", data := Data.seq #[Value.str ("_law_script") 562, Value.str ("_law_k") 563] }) ::
  (nat_lit 287, { cls := Value.type "tuple", data := Data.seq #[] }) ::
  (nat_lit 289, { cls := Value.type "code", data := Data.fields #[Value.str ("_law_cell_at") 559, Value.str ("_law_cell_at") 560, Value.str ("/claim/cut.py") 561, Value.int 126 0, Value.int 2 0, Value.int 0 0, Value.int 0 0, Value.int 3 0, Value.ref 284, Value.bool true, Value.int 181 0, Value.ref 285, Value.none, Value.ref 286, Value.ref 287, Value.ref 288, Value.int 564 0, Value.int 126 0, Value.str ("/claim/cut.py") 565] }) ::
  (nat_lit 290, ⟨Value.type "function", none, .func (PySem.W.fnOf "_law_cell_at" "_law_cell_at" (HD.dA (HD.tp PySem.Challenge.pw_bundlehouse_k85_too_many_in_a_tangle 35)) (HD.dB (HD.tp PySem.Challenge.pw_bundlehouse_k85_too_many_in_a_tangle 35)) (HD.dS (HD.tp PySem.Challenge.pw_bundlehouse_k85_too_many_in_a_tangle 35)) (Value.none) (Value.none) (Value.none) (Value.str ("law_bundlehouse_k85_too_many_in_a_tangle") 557) (none) (Value.ref 289) (Value.none)), #[]⟩) ::
  (nat_lit 291, { cls := Value.type "tuple", data := Data.seq #[] }) ::
  (nat_lit 293, { cls := Value.type "tuple", data := Data.seq #[Value.str ("_law_cell") 570, Value.str ("_law_k") 571, Value.str ("_law_prime") 572] }) ::
  (nat_lit 294, { cls := Value.type "tuple", data := Data.seq #[] }) ::
  (nat_lit 296, { cls := Value.type "code", data := Data.fields #[Value.str ("_law_mixed") 567, Value.str ("_law_mixed") 568, Value.str ("/claim/cut.py") 569, Value.int 130 0, Value.int 3 0, Value.int 0 0, Value.int 0 0, Value.int 3 0, Value.ref 291, Value.bool true, Value.int 181 0, Value.ref 292, Value.none, Value.ref 293, Value.ref 294, Value.ref 295, Value.int 573 0, Value.int 130 0, Value.str ("/claim/cut.py") 574] }) ::
  (nat_lit 297, ⟨Value.type "function", none, .func (PySem.W.fnOf "_law_mixed" "_law_mixed" (HD.dA (HD.tp PySem.Challenge.pw_bundlehouse_k85_too_many_in_a_tangle 36)) (HD.dB (HD.tp PySem.Challenge.pw_bundlehouse_k85_too_many_in_a_tangle 36)) (HD.dS (HD.tp PySem.Challenge.pw_bundlehouse_k85_too_many_in_a_tangle 36)) (Value.none) (Value.none) (Value.none) (Value.str ("law_bundlehouse_k85_too_many_in_a_tangle") 557) (none) (Value.ref 296) (Value.none)), #[]⟩) ::
  (nat_lit 298, { cls := Value.type "tuple", data := Data.seq #[] }) ::
  (nat_lit 301, { cls := Value.type "code", data := Data.fields #[Value.str ("_law_names") 576, Value.str ("_law_names") 577, Value.str ("/claim/cut.py") 578, Value.int 132 0, Value.int 2 0, Value.int 0 0, Value.int 0 0, Value.int 3 0, Value.ref 298, Value.bool true, Value.int 181 0, Value.ref 299, Value.none, Value.none, Value.none, Value.ref 300, Value.int 579 0, Value.int 132 0, Value.str ("/claim/cut.py") 580] }) ::
  (nat_lit 302, ⟨Value.type "function", none, .func (PySem.W.fnOf "_law_names" "_law_names" (HD.dA (HD.tp PySem.Challenge.pw_bundlehouse_k85_too_many_in_a_tangle 37)) (HD.dB (HD.tp PySem.Challenge.pw_bundlehouse_k85_too_many_in_a_tangle 37)) (HD.dS (HD.tp PySem.Challenge.pw_bundlehouse_k85_too_many_in_a_tangle 37)) (Value.none) (Value.none) (Value.none) (Value.str ("law_bundlehouse_k85_too_many_in_a_tangle") 557) (none) (Value.ref 301) (Value.none)), #[]⟩) ::
  (nat_lit 303, { cls := Value.type "tuple", data := Data.seq #[] }) ::
  (nat_lit 305, { cls := Value.type "tuple", data := Data.seq #[Value.str ("_law_script") 585, Value.str ("_law_sizes_here") 586, Value.str ("_law_k") 587, Value.str ("_law_size") 588] }) ::
  (nat_lit 306, { cls := Value.type "tuple", data := Data.seq #[] }) ::
  (nat_lit 308, { cls := Value.type "code", data := Data.fields #[Value.str ("_law_sizes") 582, Value.str ("_law_sizes") 583, Value.str ("/claim/cut.py") 584, Value.int 151 0, Value.int 1 0, Value.int 0 0, Value.int 0 0, Value.int 3 0, Value.ref 303, Value.bool true, Value.int 181 0, Value.ref 304, Value.none, Value.ref 305, Value.ref 306, Value.ref 307, Value.int 589 0, Value.int 151 0, Value.str ("/claim/cut.py") 590] }) ::
  (nat_lit 309, ⟨Value.type "function", none, .func (PySem.W.fnOf "_law_sizes" "_law_sizes" (HD.dA (HD.tp PySem.Challenge.pw_bundlehouse_k85_too_many_in_a_tangle 38)) (HD.dB (HD.tp PySem.Challenge.pw_bundlehouse_k85_too_many_in_a_tangle 38)) (HD.dS (HD.tp PySem.Challenge.pw_bundlehouse_k85_too_many_in_a_tangle 38)) (Value.none) (Value.none) (Value.none) (Value.str ("law_bundlehouse_k85_too_many_in_a_tangle") 557) (none) (Value.ref 308) (Value.none)), #[]⟩) ::
  (nat_lit 310, { cls := Value.type "tuple", data := Data.seq #[] }) ::
  (nat_lit 312, { cls := Value.type "tuple", data := Data.seq #[Value.str ("_law_sizes_here") 595, Value.str ("_law_spots") 596, Value.str ("_law_rings_here") 597, Value.str ("_law_at") 598, Value.str ("_law_size") 599] }) ::
  (nat_lit 313, { cls := Value.type "tuple", data := Data.seq #[] }) ::
  (nat_lit 315, { cls := Value.type "code", data := Data.fields #[Value.str ("_law_rings") 592, Value.str ("_law_rings") 593, Value.str ("/claim/cut.py") 594, Value.int 160 0, Value.int 2 0, Value.int 0 0, Value.int 0 0, Value.int 3 0, Value.ref 310, Value.bool true, Value.int 181 0, Value.ref 311, Value.none, Value.ref 312, Value.ref 313, Value.ref 314, Value.int 600 0, Value.int 160 0, Value.str ("/claim/cut.py") 601] }) ::
  (nat_lit 316, ⟨Value.type "function", none, .func (PySem.W.fnOf "_law_rings" "_law_rings" (HD.dA (HD.tp PySem.Challenge.pw_bundlehouse_k85_too_many_in_a_tangle 39)) (HD.dB (HD.tp PySem.Challenge.pw_bundlehouse_k85_too_many_in_a_tangle 39)) (HD.dS (HD.tp PySem.Challenge.pw_bundlehouse_k85_too_many_in_a_tangle 39)) (Value.none) (Value.none) (Value.none) (Value.str ("law_bundlehouse_k85_too_many_in_a_tangle") 557) (none) (Value.ref 315) (Value.none)), #[]⟩) ::
  (nat_lit 317, { cls := Value.type "tuple", data := Data.seq #[] }) ::
  (nat_lit 319, { cls := Value.type "tuple", data := Data.seq #[Value.str ("_law_script") 606, Value.str ("_law_first") 607, Value.str ("_law_rings_here") 608, Value.str ("_law_names_here") 609, Value.str ("_law_rows") 610, Value.str ("_law_k") 611, Value.str ("_law_at") 612, Value.str ("_law_ring") 613, Value.str ("_law_here") 614, Value.str ("_law_later") 615, Value.str ("_law_there") 616] }) ::
  (nat_lit 320, { cls := Value.type "tuple", data := Data.seq #[] }) ::
  (nat_lit 322, { cls := Value.type "code", data := Data.fields #[Value.str ("_law_more") 603, Value.str ("_law_more") 604, Value.str ("/claim/cut.py") 605, Value.int 167 0, Value.int 5 0, Value.int 0 0, Value.int 0 0, Value.int 3 0, Value.ref 317, Value.bool true, Value.int 181 0, Value.ref 318, Value.none, Value.ref 319, Value.ref 320, Value.ref 321, Value.int 617 0, Value.int 167 0, Value.str ("/claim/cut.py") 618] }) ::
  (nat_lit 323, ⟨Value.type "function", none, .func (PySem.W.fnOf "_law_more" "_law_more" (HD.dA (HD.tp PySem.Challenge.pw_bundlehouse_k85_too_many_in_a_tangle 40)) (HD.dB (HD.tp PySem.Challenge.pw_bundlehouse_k85_too_many_in_a_tangle 40)) (HD.dS (HD.tp PySem.Challenge.pw_bundlehouse_k85_too_many_in_a_tangle 40)) (Value.none) (Value.none) (Value.none) (Value.str ("law_bundlehouse_k85_too_many_in_a_tangle") 557) (none) (Value.ref 322) (Value.none)), #[]⟩) ::
  (nat_lit 324, { cls := Value.type "tuple", data := Data.seq #[] }) ::
  (nat_lit 327, { cls := Value.type "code", data := Data.fields #[Value.str ("_law_fine") 620, Value.str ("_law_fine") 621, Value.str ("/claim/cut.py") 622, Value.int 178 0, Value.int 2 0, Value.int 0 0, Value.int 0 0, Value.int 3 0, Value.ref 324, Value.bool true, Value.int 181 0, Value.ref 325, Value.none, Value.none, Value.none, Value.ref 326, Value.int 623 0, Value.int 178 0, Value.str ("/claim/cut.py") 624] }) ::
  (nat_lit 328, ⟨Value.type "function", none, .func (PySem.W.fnOf "_law_fine" "_law_fine" (HD.dA (HD.tp PySem.Challenge.pw_bundlehouse_k85_too_many_in_a_tangle 41)) (HD.dB (HD.tp PySem.Challenge.pw_bundlehouse_k85_too_many_in_a_tangle 41)) (HD.dS (HD.tp PySem.Challenge.pw_bundlehouse_k85_too_many_in_a_tangle 41)) (Value.none) (Value.none) (Value.none) (Value.str ("law_bundlehouse_k85_too_many_in_a_tangle") 557) (none) (Value.ref 327) (Value.none)), #[]⟩) ::
  (nat_lit 329, { cls := Value.type "tuple", data := Data.seq #[] }) ::
  (nat_lit 331, { cls := Value.type "tuple", data := Data.seq #[Value.str ("_law_parts") 629, Value.str ("_law_some") 630, Value.str ("_law_caught_here") 631, Value.str ("e") 632] }) ::
  (nat_lit 332, { cls := Value.type "tuple", data := Data.seq #[] }) ::
  (nat_lit 334, { cls := Value.type "code", data := Data.fields #[Value.str ("_law_caught") 626, Value.str ("_law_caught") 627, Value.str ("/claim/cut.py") 628, Value.int 186 0, Value.int 2 0, Value.int 0 0, Value.int 0 0, Value.int 3 0, Value.ref 329, Value.bool true, Value.int 181 0, Value.ref 330, Value.none, Value.ref 331, Value.ref 332, Value.ref 333, Value.int 633 0, Value.int 186 0, Value.str ("/claim/cut.py") 634] }) ::
  (nat_lit 335, ⟨Value.type "function", none, .func (PySem.W.fnOf "_law_caught" "_law_caught" (HD.dA (HD.tp PySem.Challenge.pw_bundlehouse_k85_too_many_in_a_tangle 42)) (HD.dB (HD.tp PySem.Challenge.pw_bundlehouse_k85_too_many_in_a_tangle 42)) (HD.dS (HD.tp PySem.Challenge.pw_bundlehouse_k85_too_many_in_a_tangle 42)) (Value.none) (Value.none) (Value.none) (Value.str ("law_bundlehouse_k85_too_many_in_a_tangle") 557) (none) (Value.ref 334) (Value.none)), #[]⟩) ::
  (nat_lit 336, { cls := Value.type "tuple", data := Data.seq #[] }) ::
  (nat_lit 339, { cls := Value.type "code", data := Data.fields #[Value.str ("law") 636, Value.str ("law") 637, Value.str ("/claim/cut.py") 638, Value.int 196 0, Value.int 1 0, Value.int 0 0, Value.int 0 0, Value.int 3 0, Value.ref 336, Value.bool true, Value.int 181 0, Value.ref 337, Value.none, Value.none, Value.none, Value.ref 338, Value.int 639 0, Value.int 196 0, Value.str ("/claim/cut.py") 640] }) ::
  (nat_lit 340, ⟨Value.type "function", none, .func (PySem.W.fnOf "law" "law" (HD.dA (HD.tp PySem.Challenge.pw_bundlehouse_k85_too_many_in_a_tangle 43)) (HD.dB (HD.tp PySem.Challenge.pw_bundlehouse_k85_too_many_in_a_tangle 43)) (HD.dS (HD.tp PySem.Challenge.pw_bundlehouse_k85_too_many_in_a_tangle 43)) (Value.none) (Value.none) (Value.none) (Value.str ("law_bundlehouse_k85_too_many_in_a_tangle") 557) (none) (Value.ref 339) (Value.none)), #[]⟩) :: []
noncomputable def heapA : List Addr := [nat_lit 2, nat_lit 3, nat_lit 15, nat_lit 22, nat_lit 23, nat_lit 24, nat_lit 25, nat_lit 28, nat_lit 35, nat_lit 37, nat_lit 38, nat_lit 40, nat_lit 42, nat_lit 43, nat_lit 44, nat_lit 47, nat_lit 54, nat_lit 56, nat_lit 57, nat_lit 59, nat_lit 61, nat_lit 62, nat_lit 63, nat_lit 66, nat_lit 73, nat_lit 74, nat_lit 75, nat_lit 78, nat_lit 85, nat_lit 86, nat_lit 87, nat_lit 90, nat_lit 97, nat_lit 98, nat_lit 99, nat_lit 102, nat_lit 109, nat_lit 110, nat_lit 111, nat_lit 114, nat_lit 121, nat_lit 123, nat_lit 124, nat_lit 126, nat_lit 128, nat_lit 129, nat_lit 130, nat_lit 133, nat_lit 140, nat_lit 141, nat_lit 142, nat_lit 145, nat_lit 152, nat_lit 154, nat_lit 155, nat_lit 157, nat_lit 158, nat_lit 159, nat_lit 160, nat_lit 161, nat_lit 164, nat_lit 171, nat_lit 172, nat_lit 173, nat_lit 176, nat_lit 183, nat_lit 184, nat_lit 185, nat_lit 188, nat_lit 191, nat_lit 192, nat_lit 193, nat_lit 195, nat_lit 196, nat_lit 198, nat_lit 199, nat_lit 200, nat_lit 202, nat_lit 203, nat_lit 205, nat_lit 206, nat_lit 207, nat_lit 209, nat_lit 210, nat_lit 212, nat_lit 213, nat_lit 214, nat_lit 216, nat_lit 217, nat_lit 219, nat_lit 220, nat_lit 221, nat_lit 224, nat_lit 225, nat_lit 226, nat_lit 228, nat_lit 229, nat_lit 231, nat_lit 232, nat_lit 233, nat_lit 235, nat_lit 236, nat_lit 238, nat_lit 239, nat_lit 240, nat_lit 242, nat_lit 243, nat_lit 245, nat_lit 246, nat_lit 247, nat_lit 250, nat_lit 251, nat_lit 252, nat_lit 255, nat_lit 256, nat_lit 257, nat_lit 260, nat_lit 261, nat_lit 262, nat_lit 265, nat_lit 266, nat_lit 267, nat_lit 269, nat_lit 270, nat_lit 272, nat_lit 273, nat_lit 274, nat_lit 277, nat_lit 278, nat_lit 279, nat_lit 282, nat_lit 283, nat_lit 284, nat_lit 286, nat_lit 287, nat_lit 289, nat_lit 290, nat_lit 291, nat_lit 293, nat_lit 294, nat_lit 296, nat_lit 297, nat_lit 298, nat_lit 301, nat_lit 302, nat_lit 303, nat_lit 305, nat_lit 306, nat_lit 308, nat_lit 309, nat_lit 310, nat_lit 312, nat_lit 313, nat_lit 315, nat_lit 316, nat_lit 317, nat_lit 319, nat_lit 320, nat_lit 322, nat_lit 323, nat_lit 324, nat_lit 327, nat_lit 328, nat_lit 329, nat_lit 331, nat_lit 332, nat_lit 334, nat_lit 335, nat_lit 336, nat_lit 339, nat_lit 340]
theorem heapE : ∀ P, heapA = (heapK P).map (·.1) := fun _ => by kernel_rfl
theorem said : PySem.Challenge.rw_bundlehouse_k85_too_many_in_a_tangle.wellSaid = true := by kernel_rfl
noncomputable abbrev qP : Program := (HD.cutTo PySem.Challenge.rw_bundlehouse_k85_too_many_in_a_tangle.prog [43])
noncomputable abbrev sE (w : World) := openEnds treeTable PySem.Challenge.rw_bundlehouse_k85_too_many_in_a_tangle.row.prog w 7184
noncomputable abbrev sX : Shared → Bool := (fun s => xlAt qP [] s && recOk (RowW.records PySem.Challenge.rw_bundlehouse_k85_too_many_in_a_tangle.row.toRowW) s)
noncomputable abbrev sL : List Str := "BundleError" :: "RefusedAt" :: "NoRow" :: "Twice" :: "NoPart" :: "NoName" :: "NotGiven" :: "Endless" :: "Asks" :: "TooMany" :: "NoPlace" :: "NoMap" :: "numbers_in" :: "brings" :: "bringings" :: "named_parts" :: "knots_in" :: "knot_around" :: "turned" :: "spread" :: "MOST_PARTS" :: "tangles" :: "ring_table" :: "steps_within" :: "place_of" :: "best_lasts" :: "count_with_last" :: "fewest" :: "fewest_within" :: "_law_cell_at" :: "_law_mixed" :: "_law_names" :: "_law_sizes" :: "_law_rings" :: "_law_more" :: "_law_fine" :: "_law_caught" :: []
noncomputable abbrev sS (s : Shared) := openSeen qP sL (importedModules PySem.Challenge.rw_bundlehouse_k85_too_many_in_a_tangle.row.prog.main.body) sX true s
theorem run1 : ∀ w, ((sE w).map fun s => sS s) = some (openGood qP sL) := fun w => by kernel_rfl
theorem run6 : ∀ w, ((sE w).map fun s => (heapA.take 85).map s.heap.get?) = some (((heapK w.params).take 85).map fun p => some p.2) := fun w => by kernel_rfl
theorem run7 : ∀ w, ((sE w).map fun s => (heapA.drop 85).map s.heap.get?) = some (((heapK w.params).drop 85).map fun p => some p.2) := fun w => by kernel_rfl
theorem top_run : LeftO PySem.Challenge.rw_bundlehouse_k85_too_many_in_a_tangle.row.prog qP sL sX (kHook heapK heapA heapE).obs (kHook heapK heapA heapE).val 7184 := HD.left_ofL 85 run1 run6 run7
end K85
set_option Elab.async false
set_option linter.all false
set_option maxRecDepth 100000
namespace L2
open PySem PySem.Spec PyProof.Rows
noncomputable abbrev Key := Sum Int Str
noncomputable def keyIs : Key → Value → Bool
  | .inl k, v => Value.isInt k v
  | .inr x, v => Value.isStrOf x v
noncomputable def keyH (w : World) : Key → Int
  | .inl k => hashInt k
  | .inr x => hashStr w x
theorem keyIs_shape : ∀ {k : Key} {v : Value}, keyIs k v = true → (∃ i t, k = Sum.inl i ∧ v = Value.int i t) ∨ (∃ x t, k = Sum.inr x ∧ v = Value.str x t)
  | .inl i, v, h => by
    obtain ⟨t, e⟩ := Value.isInt_shape (k := i) (v := v) h
    exact .inl ⟨i, t, rfl, e⟩
  | .inr x, v, h => by
    obtain ⟨t, e⟩ := Value.isStrOf_shape (x := x) (v := v) h
    exact .inr ⟨x, t, rfl, e⟩
theorem keyIs_int (i : Int) (t : Tok) : keyIs (.inl i) (.int i t) = true := by simp [keyIs, Value.isInt]
theorem keyIs_str (x : Str) (t : Tok) : keyIs (.inr x) (.str x t) = true := by simp [keyIs, Value.isStrOf]
theorem key_ll (a b : Int) : decide ((Sum.inl a : Key) = Sum.inl b) = (a == b) := by
  by_cases e : a = b
  · subst e; simp
  · have h : ¬ (Sum.inl a : Key) = Sum.inl b := fun q => e (Sum.inl.inj q)
    rw [decide_eq_false h]
    exact (beq_eq_false_iff_ne.mpr e).symm
theorem key_rr (a b : Str) : decide ((Sum.inr a : Key) = Sum.inr b) = decide (a = b) := by
  by_cases e : a = b
  · subst e; simp
  · have h : ¬ (Sum.inr a : Key) = Sum.inr b := fun q => e (Sum.inr.inj q)
    rw [decide_eq_false h, decide_eq_false e]
theorem key_lr (a : Int) (b : Str) : decide ((Sum.inl a : Key) = Sum.inr b) = false := decide_eq_false (fun q => nomatch q)
theorem key_rl (a : Str) (b : Int) : decide ((Sum.inr a : Key) = Sum.inl b) = false := decide_eq_false (fun q => nomatch q)
noncomputable def mixKind (prog : Program) (w : World) : PySem.KeyKind prog w Key where
  is := keyIs
  hash := keyH w
  inj := fun v a b ha hb => by
    rcases keyIs_shape ha with ⟨i, t, rfl, rfl⟩ | ⟨x, t, rfl, rfl⟩
    · rcases keyIs_shape hb with ⟨j, u, rfl, e⟩ | ⟨y, u, rfl, e⟩
      · injection e with e1 _; rw [e1]
      · exact nomatch e
    · rcases keyIs_shape hb with ⟨j, u, rfl, e⟩ | ⟨y, u, rfl, e⟩
      · exact nomatch e
      · injection e with e1 _; rw [e1]
  byValue := fun k v h => by
    rcases keyIs_shape h with ⟨i, t, rfl, rfl⟩ | ⟨x, t, rfl, rfl⟩ <;> rfl
  pyHash := fun hv h => by
    rcases keyIs_shape hv with ⟨i, t, rfl, rfl⟩ | ⟨x, t, rfl, rfl⟩
    · exact wpAny_pyHash_int h
    · exact wpAny_pyHash_str h
  eqBool := fun hu hv h => by
    rcases keyIs_shape hu with ⟨i, t, rfl, rfl⟩ | ⟨x, t, rfl, rfl⟩
    · rcases keyIs_shape hv with ⟨j, u, rfl, rfl⟩ | ⟨y, u, rfl, rfl⟩
      · rw [key_ll] at h; exact wpAny_eqBool_int h
      · rw [key_lr] at h; exact SeqAt.EqAt.int_str i t y u _ _ _ _ h
    · rcases keyIs_shape hv with ⟨j, u, rfl, rfl⟩ | ⟨y, u, rfl, rfl⟩
      · rw [key_rl] at h; exact SeqAt.EqAt.str_int x t j u _ _ _ _ h
      · rw [key_rr] at h; exact wpAny_eqBool_str h
  «strs» := fun k x t v h => by
    rcases keyIs_shape h with ⟨i, u, rfl, e⟩ | ⟨y, u, rfl, e⟩
    · exact nomatch e
    · injection e with e1 _
      subst e1
      cases v <;> rfl
theorem mixKind_int (prog : Program) (w : World) (i : Int) (t : Tok) : (mixKind prog w).is (.inl i) (.int i t) = true := keyIs_int i t
theorem mixKind_str (prog : Program) (w : World) (x : Str) (t : Tok) : (mixKind prog w).is (.inr x) (.str x t) = true := keyIs_str x t
end L2
namespace L2
open PySem PySem.Spec PyProof.Rows
inductive V where
  | non | bl (b : Bool) | int (i : Int) | str (x : Str) | byt (b : Array UInt8) | flt (b : UInt64) | ref (a : Addr) | ty (n : String)
  deriving DecidableEq
noncomputable def RelV : V → Value → Prop
  | .non, u => u = Value.none
  | .bl b, u => u = Value.bool b
  | .int i, u => ∃ t, u = Value.int i t
  | .str x, u => ∃ t, u = Value.str x t
  | .byt b, u => ∃ t, u = Value.bytes b t
  | .flt b, u => ∃ t, u = Value.float b t
  | .ref a, u => u = Value.ref a
  | .ty n, u => u = Value.type n
noncomputable abbrev Vals : List V → List Value → Prop := Paired RelV
theorem Vals.length {xs : List V} {us : List Value} (r : Vals xs us) : xs.length = us.length := Paired.length r
theorem Vals.get : ∀ {xs : List V} {us : List Value} {i : Nat} {x : V}, Vals xs us → xs[i]? = some x → ∃ u, us[i]? = some u ∧ RelV x u
  | _, _, _, _, .nil, e => by simp at e
  | _, _, 0, _, .cons r _, e => by simp at e; subst e; exact ⟨_, rfl, r⟩
  | _, _, i + 1, x, .cons _ t, e => by
    obtain ⟨u, h1, h2⟩ := Vals.get (i := i) (x := x) t (by simpa using e)
    exact ⟨u, by simpa using h1, h2⟩
theorem Vals.append : ∀ {xs ys : List V} {us ws : List Value}, Vals xs us → Vals ys ws → Vals (xs ++ ys) (us ++ ws)
  | _, _, _, _, .nil, s => s
  | _, _, _, _, .cons r t, s => .cons r (Vals.append t s)
theorem Vals.take : ∀ {xs : List V} {us : List Value} (n : Nat), Vals xs us → Vals (xs.take n) (us.take n)
  | _, _, 0, _ => .nil
  | _, _, _ + 1, .nil => .nil
  | _, _, n + 1, .cons r t => .cons r (Vals.take n t)
theorem Vals.drop : ∀ {xs : List V} {us : List Value} (n : Nat), Vals xs us → Vals (xs.drop n) (us.drop n)
  | _, _, 0, r => r
  | _, _, _ + 1, .nil => .nil
  | _, _, n + 1, .cons _ t => Vals.drop n t
noncomputable def RelO : Option V → Option Value → Prop
  | some v, some u => RelV v u
  | none, none => True
  | _, _ => False
noncomputable def KV {κ : Type} : List (κ × V) → List (κ × Value) → Prop := Paired fun (p : κ × V) (q : κ × Value) => p.1 = q.1 ∧ RelV p.2 q.2
noncomputable def kV : Key → V
  | .inl i => .int i
  | .inr x => .str x
inductive HO where
  | lst (xs : List V)
  | tup (xs : List V)
  | dK (kvs : List (Key × V)) | dT (kvs : List (List Key × V))
  | set (S : Int → Bool) (n : Nat)
  | ins (C dx : Addr) (fs : List (Str × V))
  | own (x : Addr)
  | xd (fs : List (Str × V))
  | met (f x : Addr)
  | rng (lo hi : Int)
  | frz (o : Obj) (u : HO)
  | tbl (ps : Array Value)
  | ext (φ : Heap → Prop)
noncomputable abbrev Hp := Addr → Option HO
noncomputable def upd (H : Hp) (a : Addr) (o : HO) : Hp := fun b => if b = a then some o else H b
theorem upd_same {H : Hp} {a : Addr} {o : HO} : upd H a o a = some o := by unfold upd; rw [if_pos rfl]
theorem upd_ne {H : Hp} {a b : Addr} {o : HO} (h : b ≠ a) : upd H a o b = H b := by unfold upd; rw [if_neg h]
theorem upd_upd {H : Hp} {a : Addr} {o u : HO} : upd (upd H a o) a u = upd H a u := by
  funext b; unfold upd; split <;> rfl
theorem ne_of {H : Hp} {a b : Addr} {o u : HO} (h : H a = some o) (h' : H b = some u) (d : o ≠ u) : a ≠ b := by
  intro e; subst e; rw [h] at h'; exact d (Option.some.inj h')
theorem ne_of_none {H : Hp} {a b : Addr} {o : HO} (h : H a = some o) (h' : H b = none) : a ≠ b := by
  intro e; subst e; rw [h] at h'; cases h'
section
variable (P : Program) (w : World)
noncomputable def ObjOk (H : Hp) (h : Heap) (a : Addr) : HO → Prop
  | .lst xs => xs.length ≤ sizeLine ∧ ∃ (its : List Value) (n : Nat), Vals xs its ∧ h.get? a = some { cls := .type "list", data := .seq its.toArray n }
  | .tup xs => xs.length ≤ sizeLine ∧ ∃ its : List Value, Vals xs its ∧ IsTup h a its.toArray
  | .dK kvs => kvs.length ≤ sizeLine ∧ (a == sysModules) = false ∧ ∃ vs, KV kvs vs ∧ h.DictOf (mixKind P w) a vs
  | .dT kvs => kvs.length ≤ sizeLine ∧ (a == sysModules) = false ∧ ∃ xs : List (List Key × Addr × Value),
      Paired (fun (p : List Key × V) (q : List Key × Addr × Value) => p.1 = q.1 ∧ H q.2.1 = some (.tup (p.1.map kV)) ∧ RelV p.2 q.2.2) kvs xs ∧
      ∃ o es ep, h.get? a = some o ∧ o.ExactDict ∧ o.data = .dict es ep ∧ es.toList = xs.map (entryOfKey (tupleKind (mixKind P w))) ∧ (xs.map (·.1)).Nodup
  | .set S n => h.SetOf (intKind P w) a S n
  | .ins C dx fs => H dx = some (.own a) ∧ fs.length ≤ 1000 ∧ dx ≠ a ∧ h.get? a = some (PySem.W.instObj C dx) ∧
      ∃ mA, h.Ns1 dx mA ∧ (∀ f, RelO (fs.lookup f) (mA f)) ∧ PySem.Within mA (fs.map (·.1))
  | .own _ => ∃ o, h.get? a = some o
  | .xd fs => ∃ mA, h.Ns1 a mA ∧ ∀ f, RelO (fs.lookup f) (mA f)
  | .rng lo hi => ∃ t u v, h.get? a = some { cls := .type "range", data := .fields #[.int lo t, .int hi u, .int 1 v] }
  | .frz o u => h.get? a = some o ∧ ObjOk H h a u
  | .tbl ps => h.get? a = some { cls := .none, data := .fields ps }
  | .met f x => h.get? a = some (PySem.W.methodObj (.ref f) (.ref x))
  | .ext φ => φ h ∧ (∃ o, h.get? a = some o) ∧ ∀ h1 h2 : Heap, φ h1 → (∀ o, h1.get? a = some o → h2.get? a = some o) → φ h2
noncomputable def HOk (H : Hp) (h : Heap) : Prop := ∀ a o, H a = some o → ObjOk P w H h a o
end
section
variable {P : Program} {w : World} {H H' : Hp} {h h' : Heap} {a : Addr} {o : HO}
theorem ObjOk.lt (x : ObjOk P w H h a o) : a < h.objs.size := by
  cases o with
  | lst xs => obtain ⟨_, _, _, _, e⟩ := x; exact Heap.lt_size e
  | tup xs => obtain ⟨_, _, _, p⟩ := x; exact p.lt
  | dK kvs => obtain ⟨_, _, _, _, o, _, _, e, _⟩ := x; exact Heap.lt_size e
  | dT kvs => obtain ⟨_, _, _, _, o, _, _, e, _⟩ := x; exact Heap.lt_size e
  | set S n => obtain ⟨o, _, _, _, e, _⟩ := x; exact Heap.lt_size e
  | ins C dx fs => obtain ⟨_, _, _, e, _⟩ := x; exact Heap.lt_size e
  | own y => obtain ⟨_, e⟩ := x; exact Heap.lt_size e
  | xd fs => obtain ⟨_, ⟨_, _, _, e, _⟩, _⟩ := x; exact Heap.lt_size e
  | rng lo hi => obtain ⟨_, _, _, e⟩ := x; exact Heap.lt_size e
  | frz ob u => obtain ⟨e, _⟩ := x; exact Heap.lt_size e
  | tbl ps => exact Heap.lt_size (show h.get? a = some _ from x)
  | met f y => exact Heap.lt_size (show h.get? a = some _ from x)
  | ext φ => obtain ⟨_, ⟨_, e⟩, _⟩ := x; exact Heap.lt_size e
theorem Paired.mapP {α β : Type} {F G : α → β → Prop} : ∀ {l₁ : List α} {l₂ : List β}, Paired F l₁ l₂ → (∀ a b, F a b → G a b) → Paired G l₁ l₂
  | _, _, .nil, _ => .nil
  | _, _, .cons r t, f => .cons (f _ _ r) (Paired.mapP t f)
theorem ObjOk.stay (x : ObjOk P w H h a o) (k : ∀ b u, (b = a ∨ H b = some (.own a)) → h.get? b = some u → h'.get? b = some u)
    (ho : ∀ b, H b = some (.own a) → H' b = some (.own a)) (ht : ∀ b xs, H b = some (.tup xs) → H' b = some (.tup xs)) : ObjOk P w H' h' a o := by
  induction o with
  | lst xs => obtain ⟨z, its, n, r, e⟩ := x; exact ⟨z, its, n, r, k _ _ (.inl rfl) e⟩
  | tup xs => obtain ⟨z, its, r, ob, e, c⟩ := x; exact ⟨z, its, r, ob, k _ _ (.inl rfl) e, c⟩
  | dK kvs => obtain ⟨z, y, vs, r, ob, es, ep, e, c⟩ := x; exact ⟨z, y, vs, r, ob, es, ep, k _ _ (.inl rfl) e, c⟩
  | dT kvs =>
    obtain ⟨z, y, xs, r, ob, es, ep, e, c⟩ := x
    exact ⟨z, y, xs, Paired.mapP r fun p q z => ⟨z.1, ht _ _ z.2.1, z.2.2⟩, ob, es, ep, k _ _ (.inl rfl) e, c⟩
  | set S n => obtain ⟨ob, es, ep, t, e, c⟩ := x; exact ⟨ob, es, ep, t, k _ _ (.inl rfl) e, c⟩
  | ins C dx fs =>
    obtain ⟨d, z, ne, e, mA, ⟨od, es, ep, e2, c⟩, r⟩ := x
    exact ⟨ho _ d, z, ne, k _ _ (.inl rfl) e, mA, ⟨od, es, ep, k _ _ (.inr d) e2, c⟩, r⟩
  | own y => obtain ⟨ob, e⟩ := x; exact ⟨ob, k _ _ (.inl rfl) e⟩
  | xd fs => obtain ⟨mA, ⟨od, es, ep, e, c⟩, r⟩ := x; exact ⟨mA, ⟨od, es, ep, k _ _ (.inl rfl) e, c⟩, r⟩
  | rng lo hi => obtain ⟨t, u, v, e⟩ := x; exact ⟨t, u, v, k _ _ (.inl rfl) e⟩
  | frz ob u ih => obtain ⟨e, q⟩ := x; exact ⟨k _ _ (.inl rfl) e, ih q⟩
  | tbl ps =>
    have e : h.get? a = some { cls := .none, data := .fields ps } := x
    show h'.get? a = some { cls := .none, data := .fields ps }
    exact k a _ (.inl rfl) e
  | met f y =>
    have e : h.get? a = some (PySem.W.methodObj (.ref f) (.ref y)) := x
    show h'.get? a = some (PySem.W.methodObj (.ref f) (.ref y))
    exact k a _ (.inl rfl) e
  | ext φ => obtain ⟨p, ⟨o, e⟩, st⟩ := x; exact ⟨st _ _ p fun o q => k _ _ (.inl rfl) q, ⟨o, k _ _ (.inl rfl) e⟩, st⟩
theorem HOk.lt (x : HOk P w H h) (e : H a = some o) : a < h.objs.size := (x a o e).lt
theorem HOk.fresh (x : HOk P w H h) (e : h.objs.size ≤ a) : H a = none := by
  cases q : H a with
  | none => rfl
  | some u => exact absurd (Nat.lt_of_lt_of_le (x.lt q) e) (Nat.lt_irrefl _)
theorem HOk.kept (x : HOk P w H h) (k : ∀ b u, h.get? b = some u → h'.get? b = some u) : HOk P w H h' := fun a o e =>
  (x a o e).stay (fun b u _ q => k b u q) (fun _ q => q) fun _ _ q => q
theorem HOk.laid (x : HOk P w H h) (k : ∀ b u, h.get? b = some u → h'.get? b = some u) (hp : h.objs.size ≤ a) (new : ObjOk P w (upd H a o) h' a o) : HOk P w (upd H a o) h' := fun b u e => by
  have hn := x.fresh hp
  by_cases hb : b = a
  · subst hb; rw [upd_same] at e; cases e; exact new
  · rw [upd_ne hb] at e
    exact (x b u e).stay (fun c v _ q => k c v q) (fun c q => by rw [upd_ne (ne_of_none q hn)]; exact q) fun c xs q => by rw [upd_ne (ne_of_none q hn)]; exact q
end
noncomputable def Rd (H : Hp) (a : Addr) (u : HO) : Prop := H a = some u ∨ ∃ o, H a = some (.frz o u)
theorem Rd.ok {P : Program} {w : World} {H : Hp} {h : Heap} {a : Addr} {u : HO} (r : Rd H a u) (x : HOk P w H h) : ObjOk P w H h a u := by
  rcases r with r | ⟨o, r⟩
  · exact x a u r
  · obtain ⟨_, q⟩ := x a _ r
    exact q
noncomputable def Mut : Option HO → Prop
  | some (.lst _) => True
  | some (.dK _) => True
  | some (.dT _) => True
  | some (.set _ _) => True
  | some (.ins _ _ _) => True
  | some (.ext _) => True
  | _ => False
section
variable {P : Program} {w : World} {H : Hp} {h h' : Heap} {x e : Addr} {o' : HO}
theorem HOk.write (ok : HOk P w H h) (mu : Mut (H x)) (he : e = x ∨ H e = some (.own x)) (k : ∀ b u, b ≠ e → h.get? b = some u → h'.get? b = some u) (heo : ∃ u, h'.get? e = some u)
    (new : ObjOk P w (upd H x o') h' x o') : HOk P w (upd H x o') h' := fun b u q => by
  have nown : ∀ c y, H c = some (.own y) → c ≠ x := fun c y r z => by subst z; rw [r] at mu; exact mu
  have ntup : ∀ c xs, H c = some (.tup xs) → c ≠ x := fun c xs r z => by subst z; rw [r] at mu; exact mu
  by_cases hb : b = x
  · subst hb; rw [upd_same] at q; cases q; exact new
  · rw [upd_ne hb] at q
    by_cases hbe : b = e
    · have q' : H b = some (.own x) := by
        rcases he with z | z
        · exact absurd (hbe.trans z) hb
        · rw [hbe]; exact z
      rw [q] at q'; cases q'
      obtain ⟨v, hv⟩ := heo
      exact ⟨v, by rw [hbe]; exact hv⟩
    · refine (ok b u q).stay (fun c v hc r => k c v ?_ r) (fun c r => by rw [upd_ne (nown c b r)]; exact r) fun c xs r => by rw [upd_ne (ntup c xs r)]; exact r
      rcases hc with rfl | hc
      · exact hbe
      · rintro rfl
        rcases he with z | z
        · exact nown c b hc z
        · rw [hc] at z; cases z; exact hb rfl
end
structure Un (fs ex : List Addr) (H H' : Hp) (h h' : Heap) : Prop where
  keep : ∀ b o, h.get? b = some o → H b = none → b ∉ fs → b ∉ ex → h'.get? b = some o
  slot : ∀ b o, h.get? b = some o → H b = none → b ∈ fs → b ∉ ex → ∃ sl, h'.get? b = some { o with slots := sl }
  free : ∀ b o, h.get? b = some o → H b = none → b ∉ ex → H' b = none
  there : ∀ b o, h.get? b = some o → b ∉ ex → ∃ o', h'.get? b = some o'
  tups : ∀ b xs, H b = some (.tup xs) → H' b = some (.tup xs)
  frzs : ∀ b o u, H b = some (.frz o u) → H' b = some (.frz o u)
  tbls : ∀ b ps, H b = some (.tbl ps) → ∃ more, H' b = some (.tbl (ps ++ more))
section
variable {fs fs' ex ex' : List Addr} {H H1 H2 : Hp} {h h1 h2 h' : Heap} {a x e : Addr} {o : HO}
theorem Un.any (u : Un fs ex H H1 h h1) {b : Addr} {ob : Obj} (q : h.get? b = some ob) (n : H b = none) (hx : b ∉ ex) : ∃ sl, h1.get? b = some { ob with slots := sl } := by
  by_cases hb : b ∈ fs
  · exact u.slot b ob q n hb hx
  · exact ⟨ob.slots, u.keep b ob q n hb hx⟩
theorem Un.kept (k : ∀ b u, h.get? b = some u → h'.get? b = some u) : Un fs ex H H h h' :=
  ⟨fun b ob q _ _ _ => k b ob q, fun b ob q _ _ _ => ⟨ob.slots, k b ob q⟩, fun _ _ _ n _ => n, fun b ob q _ => ⟨ob, k b ob q⟩, fun _ _ q => q, fun _ _ _ q => q, fun _ ps q => ⟨#[], by rw [q]; simp⟩⟩
theorem Un.refl : Un fs ex H H h h := Un.kept fun _ _ q => q
theorem Un.laid (k : ∀ b u, h.get? b = some u → h'.get? b = some u) (hp : h.objs.size ≤ a) (hn : H a = none) : Un fs ex H (upd H a o) h h' where
  keep := fun b u q _ _ _ => k b u q
  slot := fun b u q _ _ _ => ⟨u.slots, k b u q⟩
  free := fun b u q n _ => by rw [upd_ne (Nat.ne_of_lt (Nat.lt_of_lt_of_le (Heap.lt_size q) hp))]; exact n
  there := fun b u q _ => ⟨u, k b u q⟩
  tups := fun b xs q => by rw [upd_ne (ne_of_none q hn)]; exact q
  frzs := fun b u xs q => by rw [upd_ne (ne_of_none q hn)]; exact q
  tbls := fun b ps q => ⟨#[], by rw [upd_ne (ne_of_none q hn), q]; simp⟩
theorem Un.write (mu : Mut (H x)) (he : e = x ∨ H e = some (.own x)) (k : ∀ b u, b ≠ e → h.get? b = some u → h'.get? b = some u) (heo : ∃ u, h'.get? e = some u) : Un fs ex H (upd H x o) h h' := by
  have hx : ∀ b, H b = none → b ≠ x := fun b n z => by subst z; rw [n] at mu; exact mu
  have hb : ∀ b, H b = none → b ≠ e := fun b n z => by
    subst z
    rcases he with r | r
    · exact hx b n r
    · rw [n] at r; cases r
  have hm : ∀ b u, H b = some u → ¬ Mut (some u) → b ≠ x := fun b u q nm z => by subst z; rw [q] at mu; exact nm mu
  refine ⟨fun b u q n _ _ => k b u (hb b n) q, fun b u q n _ _ => ⟨u.slots, k b u (hb b n) q⟩, fun b u q n _ => by rw [upd_ne (hx b n)]; exact n, fun b u q _ => ?_,
    fun b xs q => by rw [upd_ne (hm b _ q fun z => z)]; exact q, fun b u xs q => by rw [upd_ne (hm b _ q fun z => z)]; exact q, fun b ps q => ⟨#[], by rw [upd_ne (hm b _ q fun z => z), q]; simp⟩⟩
  by_cases hbe : b = e
  · subst hbe; exact heo
  · exact ⟨u, k b u hbe q⟩
end
noncomputable def trk (h : Heap) (H : Hp) : List Addr := (List.range h.objs.size).filter fun a => (H a).isSome
noncomputable def hidT (h : Heap) (H : Hp) : Heap := PySem.W.hideAll h (trk h H)
theorem hidT_size (h : Heap) (H : Hp) : (hidT h H).objs.size = h.objs.size := PySem.W.hideAll_size _ _
theorem hidT_get {h : Heap} {H : Hp} {b : Addr} {o : Obj} (e : h.get? b = some o) (n : H b = none) : (hidT h H).get? b = some o :=
  PySem.W.hideAll_get _ e fun hm => by
    have q : (H b).isSome = true := (List.mem_filter.mp hm).2
    rw [n] at q; simp at q
theorem of_hidT {h : Heap} {H : Hp} {b : Addr} {o : Obj} (e : (hidT h H).get? b = some o) : h.get? b = some o ∧ H b = none := by
  have e' : h.get? b = some o := PySem.W.of_hideAll (trk h H) e
  refine ⟨e', ?_⟩
  cases q : H b with
  | none => rfl
  | some x =>
    have hm : b ∈ trk h H := List.mem_filter.mpr ⟨List.mem_range.mpr (Heap.lt_size e'), by simp [q]⟩
    have z : (hidT h H).get? b = none := PySem.W.hideAll_none (trk h H) hm
    rw [z] at e; cases e
end L2
namespace L2
open PySem PySem.Spec PyProof.Rows
structure Mod (K : PySem.W.Frag) (mg : Str → Option Value) (base : Heap) : Prop where
  kin : K.In base
  glob : base.Ns mainGlobals mg
  blt : ∃ mb, base.Ns builtinsNs mb ∧ ∀ x : Str, x ≠ "__name__" → mb x = bootBuiltins x
  nolimit : base.NoLimit
structure Cx where
  prog : Program
  w : World
  K : PySem.W.Frag
  mg : Str → Option Value
  base : Heap
  A : Around
  N : List Str
  s₀ : Shared
  H₀ : Hp
  env : Env
  outer : List Env
  stack : List Env
  ex : List Addr
  fn : Str → Bool
  calm : Bool
  pn : List (Addr × Obj)
  xe : Value → Shared → Prop
noncomputable def frs (l : List Env) : List Addr := l.filterMap (·.frame)
noncomputable abbrev Cx.fs (X : Cx) : List Addr := frs X.outer
noncomputable def Vis (sc : Scope) (x : Str) : Prop := sc.names.lookup x = some .local ∨ sc.names.lookup x = some .cell ∨ sc.names.lookup x = some .free
noncomputable def Loc (sc : Scope) (x : Str) : Prop := sc.names.lookup x = some .local ∨ sc.names.lookup x = some .cell
noncomputable def Look (env : Env) (h : Heap) (m : Str → Option Value) (x : Str) (u : Value) : Prop :=
  (env.kindOf x = some .local ∧ m x = some u) ∨ ((env.kindOf x = some .cell ∨ env.kindOf x = some .free) ∧ ∃ c, env.cells.lookup x = some c ∧ h.IsCell c (some u))
structure Cx.Ok (X : Cx) : Prop where
  mod : Mod X.K X.mg X.base
  kind : X.env.scope.kind = .function
  glob : X.env.globals = mainGlobals
  blt : X.env.builtins = builtinsNs
  above : X.s₀.heap.objs.size ≤ X.env.locals
  inj : ∀ x y c, X.env.cells.lookup x = some c → X.env.cells.lookup y = some c → x = y
  has : ∀ x, (X.env.kindOf x = some .cell ∨ X.env.kindOf x = some .free) → ∃ c, X.env.cells.lookup x = some c
  cab : ∀ x c, X.fn x = true → X.env.cells.lookup x = some c → X.s₀.heap.objs.size ≤ c
  hd : X.calm = true → X.A.handled = none
  frames : X.A.frames = some X.stack
  stk : X.stack = X.outer ∨ (X.stack = X.env :: X.outer ∧ X.env.frame = some X.env.locals)
  exf : ∀ b ∈ X.ex, b ≠ X.env.locals ∧ ∀ x c, X.env.cells.lookup x = some c → c ≠ b
  bs : ∀ b o, X.base.get? b = some o → X.s₀.heap.get? b = some o ∧ X.H₀ b = none
  bsz : X.base.objs.size ≤ X.s₀.heap.objs.size
  noex : ∀ b o, X.base.get? b = some o → b ∉ X.ex
  exfs : ∀ b ∈ X.ex, b ∉ X.fs
  funs : X.s₀.heap.FunFrames X.base X.outer
  frf : ∀ b ∈ X.fs, X.H₀ b = none
structure Inv (X : Cx) (pins : List (Addr × Obj)) (σ : List (Option V)) (H : Hp) (s : Shared) : Prop where
  ok : X.Ok
  os : s.os = X.s₀.os
  bare : AllBare s.gens
  base : Un X.fs X.ex X.H₀ H X.s₀.heap s.heap
  loc : ∃ m, s.heap.Ns X.env.locals m ∧ ∀ (i : Nat) (x : Str) (v : V), X.N[i]? = some x → σ[i]? = some (some v) → Vis X.env.scope x → ∃ u, RelV v u ∧ Look X.env s.heap m x u
  cell : ∀ x c, X.env.cells.lookup x = some c → ∃ v, s.heap.IsCell c v
  free : H X.env.locals = none
  freeC : ∀ x c, X.env.cells.lookup x = some c → H c = none
  pin : ∀ p ∈ X.pn ++ pins, s.heap.get? p.1 = some p.2 ∧ H p.1 = none ∧ p.1 ≠ X.env.locals ∧ p.1 ∉ X.fs ∧ ∀ v, p.2.data ≠ .cell v
  hok : HOk X.prog X.w H s.heap
  len : σ.length = X.N.length
section
variable {X : Cx} {pins : List (Addr × Obj)} {σ : List (Option V)} {H H' : Hp} {s : Shared} {h' : Heap}
theorem Cx.Ok.nofr (ok : X.Ok) {b : Addr} {o : Obj} (e : X.base.get? b = some o) : b ∉ X.fs := fun hb => by
  have := (ok.funs.mem hb).1
  rw [e] at this; cases this
theorem Inv.bs (I : Inv X pins σ H s) : ∀ b o, X.base.get? b = some o → s.heap.get? b = some o ∧ H b = none := fun b o e =>
  ⟨I.base.keep b o (I.ok.bs b o e).1 (I.ok.bs b o e).2 (I.ok.nofr e) (I.ok.noex b o e), I.base.free b o (I.ok.bs b o e).1 (I.ok.bs b o e).2 (I.ok.noex b o e)⟩
theorem Inv.bk (I : Inv X pins σ H s) : ∀ b o, X.base.get? b = some o → s.heap.get? b = some o := fun b o e => (I.bs b o e).1
theorem Inv.mod (I : Inv X pins σ H s) : Mod X.K X.mg X.base := I.ok.mod
theorem Inv.kIn (I : Inv X pins σ H s) : X.K.In s.heap := I.ok.mod.kin.keeps I.bk
theorem Inv.lt (I : Inv X pins σ H s) : X.env.locals < s.heap.objs.size := let ⟨_, hn, _⟩ := I.loc; hn.lt
theorem Inv.sz (I : Inv X pins σ H s) : X.s₀.heap.objs.size ≤ s.heap.objs.size := Nat.le_trans I.ok.above (Nat.le_of_lt I.lt)
theorem Inv.nofs (I : Inv X pins σ H s) {a : Addr} (h : s.heap.objs.size ≤ a) : a ∉ X.fs := fun hb => by
  obtain ⟨_, o, ho, _⟩ := I.ok.funs.mem hb
  exact absurd (Nat.lt_of_lt_of_le (Heap.lt_size ho) (Nat.le_trans I.sz h)) (Nat.lt_irrefl _)
theorem Inv.cne (I : Inv X pins σ H s) : ∀ x c, X.env.cells.lookup x = some c → c ≠ X.env.locals := fun x c e z => by
  obtain ⟨v, o, ho, hd⟩ := I.cell x c e
  obtain ⟨m, ⟨o', es, ep, ho', hd', _⟩, _⟩ := I.loc
  rw [z, ho'] at ho; cases ho; rw [hd'] at hd; cases hd
theorem Inv.funs (I : Inv X pins σ H s) : s.heap.FunFrames X.base X.outer := by
  have all : ∀ (l : List Env), (∀ b ∈ frs l, b ∈ X.fs) → X.s₀.heap.FunFrames X.base l → s.heap.FunFrames X.base l := by
    intro l
    induction l with
    | nil => intro _ _; trivial
    | cons env r ih =>
      intro hs hl
      obtain ⟨hk, ⟨L, o, hf, hn, ho, hd⟩, hr⟩ := hl
      have hL : L ∈ X.fs := hs L (by unfold frs; rw [List.filterMap_cons, hf]; exact List.mem_cons_self)
      obtain ⟨sl, e⟩ := I.base.slot L o ho (I.ok.frf L hL) hL fun z => I.ok.exfs L z hL
      exact ⟨hk, ⟨L, _, hf, hn, e, hd⟩, ih (fun b hb => hs b (by unfold frs; rw [List.filterMap_cons, hf]; exact List.mem_cons_of_mem _ hb)) hr⟩
  exact all X.outer (fun _ hb => hb) I.ok.funs
theorem Inv.stack (I : Inv X pins σ H s) : s.heap.FunFrames X.base X.stack := by
  rcases I.ok.stk with e | ⟨e, hf⟩
  · rw [e]; exact I.funs
  · rw [e]
    obtain ⟨m, hn, _⟩ := I.loc
    refine .cons (by rw [I.ok.kind]; decide) hf hn ?_ I.funs
    exact Heap.get?_none_of_le (Nat.le_trans I.ok.bsz I.ok.above)
theorem Inv.stkSub (I : Inv X pins σ H s) : ∀ b ∈ frs X.stack, b ∈ X.env.locals :: X.fs := fun b hb => by
  rcases I.ok.stk with e | ⟨e, hf⟩
  · rw [e] at hb; exact List.mem_cons_of_mem _ hb
  · rw [e] at hb
    unfold frs at hb
    rw [List.filterMap_cons, hf] at hb
    exact hb
theorem Inv.stkFree (I : Inv X pins σ H s) : ∀ b ∈ frs X.stack, H b = none := fun b hb => by
  rcases List.mem_cons.mp (I.stkSub b hb) with e | hb
  · rw [e]; exact I.free
  · obtain ⟨_, o, ho, _⟩ := I.ok.funs.mem hb
    exact I.base.free b o ho (I.ok.frf b hb) fun z => I.ok.exfs b z hb
theorem Inv.step {g' : Array GenState} {t' : Nat} {d' : Drawn} {ch : List Addr} (I : Inv X pins σ H s)
    (hch : ∀ b ∈ ch, (b ∈ X.ex ∨ X.s₀.heap.objs.size ≤ b) ∧ b ≠ X.env.locals ∧ (∀ x c, X.env.cells.lookup x = some c → c ≠ b) ∧ ∀ p ∈ X.pn ++ pins, p.1 ≠ b)
    (keep : ∀ b o, b ≠ X.env.locals → b ∉ X.fs → b ∉ ch → s.heap.get? b = some o → H b = none → h'.get? b = some o)
    (slot : ∀ b o, b ≠ X.env.locals → b ∈ X.fs → b ∉ ch → s.heap.get? b = some o → H b = none → ∃ sl, h'.get? b = some { o with slots := sl }) (free : ∀ b o, b ∉ ch → s.heap.get? b = some o → H b = none → H' b = none)
    (there : ∀ b o, b ∉ ch → s.heap.get? b = some o → ∃ o', h'.get? b = some o')
    (tups : ∀ b xs, H b = some (.tup xs) → H' b = some (.tup xs)) (frzs : ∀ b o u, H b = some (.frz o u) → H' b = some (.frz o u)) (tbls : ∀ b ps, H b = some (.tbl ps) → ∃ more, H' b = some (.tbl (ps ++ more)))
    (ns : ∀ m, s.heap.Ns X.env.locals m → h'.Ns X.env.locals m) (hok : HOk X.prog X.w H' h') (hg : AllBare g') :
    Inv X pins σ H' { s with heap := h', gens := g', drawn := d', toks := t' } := by
  have neL : ∀ b o, X.s₀.heap.get? b = some o → b ≠ X.env.locals := fun b o e => Nat.ne_of_lt (Nat.lt_of_lt_of_le (Heap.lt_size e) I.ok.above)
  have neC : ∀ b o, X.s₀.heap.get? b = some o → b ∉ X.ex → b ∉ ch := fun b o e hx hb => by
    rcases (hch b hb).1 with z | z
    · exact hx z
    · exact absurd (Nat.lt_of_lt_of_le (Heap.lt_size e) z) (Nat.lt_irrefl _)
  have cellK : ∀ x c, X.env.cells.lookup x = some c → ∀ v, s.heap.IsCell c v → h'.IsCell c v := fun x c e v ⟨o, ho, hd⟩ => by
    have nch : c ∉ ch := fun z => (hch c z).2.2.1 x c e rfl
    by_cases hc : c ∈ X.fs
    · obtain ⟨sl, q⟩ := slot c o (I.cne x c e) hc nch ho (I.freeC x c e)
      exact ⟨_, q, hd⟩
    · exact ⟨o, keep c o (I.cne x c e) hc nch ho (I.freeC x c e), hd⟩
  refine ⟨I.ok, I.os, hg, ⟨fun b o e n hb hx => ?_, fun b o e n hb hx => ?_, fun b o e n hx => ?_, fun b o e hx => ?_, fun b xs e => tups b xs (I.base.tups b xs e), fun b o xs e => frzs b o xs (I.base.frzs b o xs e), fun b ps e => ?_⟩, ?_, fun x c e => ?_, ?_, fun x c e => ?_, fun p hp => ?_, hok, I.len⟩
  · exact keep b o (neL b o e) hb (neC b o e hx) (I.base.keep b o e n hb hx) (I.base.free b o e n hx)
  · obtain ⟨sl, e1⟩ := I.base.slot b o e n hb hx
    obtain ⟨sl', e2⟩ := slot b _ (neL b o e) hb (neC b o e hx) e1 (I.base.free b o e n hx)
    exact ⟨sl', e2⟩
  · obtain ⟨o', e1⟩ := I.base.there b o e hx
    exact free b o' (neC b o e hx) e1 (I.base.free b o e n hx)
  · obtain ⟨o', e1⟩ := I.base.there b o e hx
    exact there b o' (neC b o e hx) e1
  · obtain ⟨m1, e1⟩ := I.base.tbls b ps e
    obtain ⟨m2, e2⟩ := tbls b _ e1
    exact ⟨m1 ++ m2, by rw [e2, Array.append_assoc]⟩
  · obtain ⟨m, hn, hl⟩ := I.loc
    refine ⟨m, ns m hn, fun i x v e1 e2 e3 => ?_⟩
    obtain ⟨u, r, l⟩ := hl i x v e1 e2 e3
    refine ⟨u, r, ?_⟩
    rcases l with l | ⟨k, c, e, z⟩
    · exact .inl l
    · exact .inr ⟨k, c, e, cellK x c e _ z⟩
  · obtain ⟨v, z⟩ := I.cell x c e
    exact ⟨v, cellK x c e v z⟩
  · obtain ⟨m, ⟨o, _, _, ho, _⟩, _⟩ := I.loc
    exact free _ o (fun z => (hch _ z).2.1 rfl) ho I.free
  · obtain ⟨v, o, ho, hd⟩ := I.cell x c e
    exact free c o (fun z => (hch c z).2.2.1 x c e rfl) ho (I.freeC x c e)
  · obtain ⟨e, n, ne, nf, d⟩ := I.pin p hp
    have nch : p.1 ∉ ch := fun z => (hch p.1 z).2.2.2 p hp rfl
    exact ⟨keep p.1 p.2 ne nf nch e n, free p.1 p.2 nch e n, ne, nf, d⟩
theorem Inv.un {t' : Nat} (I : Inv X pins σ H s) (u : Un X.fs [] H H' s.heap h') (hok : HOk X.prog X.w H' h') : Inv X pins σ H' { s with heap := h', toks := t' } := by
  obtain ⟨m, ⟨o, es, ep, ho, r⟩, _⟩ := id I.loc
  obtain ⟨sl, hL⟩ := u.any ho I.free (by simp)
  exact I.step (g' := s.gens) (d' := s.drawn) (ch := []) (fun _ z => nomatch z) (fun b o _ hb _ e n => u.keep b o e n hb (by simp)) (fun b o _ hb _ e n => u.slot b o e n hb (by simp)) (fun b o _ e n => u.free b o e n (by simp)) (fun b o _ e => u.there b o e (by simp)) u.tups u.frzs u.tbls (fun m' hm => by
    obtain ⟨o', es', ep', ho', r'⟩ := hm
    rw [ho] at ho'; cases ho'
    exact ⟨_, es', ep', hL, r'⟩) hok I.bare
theorem Inv.call {g' : Array GenState} {t' : Nat} {d' : Drawn} {ch : List Addr} (I : Inv X pins σ H s) (u : Un (frs X.stack) ch H H' s.heap h') (hok : HOk X.prog X.w H' h') (hg : AllBare g')
    (hch : ∀ b ∈ ch, (b ∈ X.ex ∨ X.s₀.heap.objs.size ≤ b) ∧ b ≠ X.env.locals ∧ (∀ x c, X.env.cells.lookup x = some c → c ≠ b) ∧ ∀ p ∈ X.pn ++ pins, p.1 ≠ b) :
    Inv X pins σ H' { s with heap := h', gens := g', drawn := d', toks := t' } := by
  obtain ⟨m, ⟨o, es, ep, ho, r⟩, _⟩ := id I.loc
  obtain ⟨sl, hL⟩ := u.any ho I.free fun z => (hch _ z).2.1 rfl
  exact I.step (ch := ch) hch (fun b o hL hb hc e n => u.keep b o e n (fun z => (List.mem_cons.mp (I.stkSub b z)).elim hL hb) hc) (fun b o _ _ hc e n => u.any e n hc) (fun b o hc e n => u.free b o e n hc) (fun b o hc e => u.there b o e hc) u.tups u.frzs u.tbls (fun m' hm => by
    obtain ⟨o', es', ep', ho', r'⟩ := hm
    rw [ho] at ho'; cases ho'
    exact ⟨_, es', ep', hL, r'⟩) hok hg
theorem Inv.turned {t' : Nat} {it : Addr} (I : Inv X pins σ H s) (k : ∀ b o, b ≠ it → s.heap.get? b = some o → h'.get? b = some o) (hn : H it = none) (hL : it ≠ X.env.locals)
    (h1 : it ∈ X.ex ∨ X.s₀.heap.objs.size ≤ it) (h2 : ∀ x c, X.env.cells.lookup x = some c → c ≠ it) (h3 : ∀ p ∈ X.pn ++ pins, p.1 ≠ it) : Inv X pins σ H { s with heap := h', toks := t' } := by
  have nit : ∀ b u, H b = some u → b ≠ it := fun b u e z => by rw [z, hn] at e; cases e
  refine I.step (g' := s.gens) (d' := s.drawn) (ch := [it]) (fun b hb => ?_) (fun b o _ _ hc e _ => k b o (fun z => hc (by simp [z])) e) (fun b o _ _ hc e _ => ⟨o.slots, k b o (fun z => hc (by simp [z])) e⟩) (fun _ _ _ _ n => n)
    (fun b o hc e => ⟨o, k b o (fun z => hc (by simp [z])) e⟩) (fun _ _ e => e) (fun _ _ _ e => e) (fun b ps e => ⟨#[], by rw [e]; simp⟩) (fun m hm => ?_) (fun b u e => ?_) I.bare
  · have e : b = it := by simpa using hb
    subst e
    exact ⟨h1, hL, h2, h3⟩
  · obtain ⟨o, es, ep, ho, r⟩ := hm
    exact ⟨o, es, ep, k _ o (Ne.symm hL) ho, r⟩
  · refine (I.hok b u e).stay (fun c v hc q => k c v ?_ q) (fun _ q => q) fun _ _ q => q
    rcases hc with z | z
    · rw [z]; exact nit b u e
    · exact nit c _ z
theorem Inv.tok (I : Inv X pins σ H s) (t : Nat) : Inv X pins σ H { s with toks := t } := I.un (h' := s.heap) (t' := t) Un.refl I.hok
theorem Inv.kept {t' : Nat} (I : Inv X pins σ H s) (k : ∀ b u, s.heap.get? b = some u → h'.get? b = some u) : Inv X pins σ H { s with heap := h', toks := t' } := I.un (Un.kept k) (I.hok.kept k)
theorem Inv.laid {a : Addr} {o : HO} {t' : Nat} (I : Inv X pins σ H s) (k : ∀ b u, s.heap.get? b = some u → h'.get? b = some u) (hp : s.heap.objs.size ≤ a) (new : ObjOk X.prog X.w (upd H a o) h' a o) :
    Inv X pins σ (upd H a o) { s with heap := h', toks := t' } := I.un (Un.laid k hp (I.hok.fresh hp)) (I.hok.laid k hp new)
theorem Inv.write {x e : Addr} {o : HO} {t' : Nat} (I : Inv X pins σ H s) (mu : Mut (H x)) (he : e = x ∨ H e = some (.own x)) (k : ∀ b u, b ≠ e → s.heap.get? b = some u → h'.get? b = some u) (heo : ∃ u, h'.get? e = some u)
    (new : ObjOk X.prog X.w (upd H x o) h' x o) : Inv X pins σ (upd H x o) { s with heap := h', toks := t' } := I.un (Un.write mu he k heo) (I.hok.write mu he k heo new)
theorem Inv.pins_of {pins' : List (Addr × Obj)} (I : Inv X pins σ H s) (h : ∀ p ∈ pins', s.heap.get? p.1 = some p.2 ∧ H p.1 = none ∧ p.1 ≠ X.env.locals ∧ p.1 ∉ X.fs ∧ ∀ v, p.2.data ≠ .cell v) : Inv X pins' σ H s :=
  ⟨I.ok, I.os, I.bare, I.base, I.loc, I.cell, I.free, I.freeC, fun p hp => (List.mem_append.mp hp).elim (fun z => I.pin p (List.mem_append_left _ z)) (h p), I.hok, I.len⟩
theorem nodup_ix {N : List Str} (hN : N.Nodup) {i j : Nat} {x : Str} (a : N[i]? = some x) (b : N[j]? = some x) : i = j := by
  obtain ⟨h1, e1⟩ := List.getElem?_eq_some_iff.mp a
  obtain ⟨h2, e2⟩ := List.getElem?_eq_some_iff.mp b
  exact (List.getElem_inj hN).mp (e1.trans e2.symm)
theorem store_ok2 {M : Model} {A : Around} {E : Value → Shared → Prop} {i : Nat} {x : Str} {v : V} {u : Value} {Q : Unit → Shared → Prop} (I : Inv X pins σ H s) (hN : X.N.Nodup) (hi : X.N[i]? = some x) (hx : Loc X.env.scope x) (r : RelV v u)
    (h : ∀ s', Inv X pins (σ.set i (some v)) H s' → (∃ a, Heap.SameBut a s.heap s'.heap ∧ (a = X.env.locals ∨ X.env.cells.lookup x = some a)) → Q () s') (hf : X.fn x = true ∨ X.env.scope.names.lookup x = some .local := by first | exact .inl rfl | exact .inr rfl | assumption) : wpAny M A (storeName X.env x u) Q E s := by
  obtain ⟨m, hn, hl⟩ := id I.loc
  have hcls : (X.env.scope.kind == .class || (X.env.scope.kind == .module && X.env.locals != X.env.globals)) = false := by rw [I.ok.kind]; rfl
  have hiσ : i < σ.length := by rw [I.len]; exact (List.getElem?_eq_some_iff.mp hi).1
  have cne := I.cne
  have tracked : ∀ {a : Addr} {h' : Heap}, (∃ o, s.heap.get? a = some o ∧ H a = none) → Heap.SameBut a s.heap h' → HOk X.prog X.w H h' := fun {a h'} ha hs b ob e => by
    obtain ⟨_, _, hfree⟩ := ha
    refine (I.hok b ob e).stay (fun c w' hc q => (hs.2 c ?_).trans q) (fun _ q => q) fun _ _ q => q
    rintro rfl
    rcases hc with rfl | hc
    · rw [hfree] at e; cases e
    · rw [hfree] at hc; cases hc
  rcases hx with hk | hk
  · refine wpAny_storeName_local hk hn (fun h' hn' hs => ?_) hcls
    obtain ⟨oL, _, _, hoL, _⟩ := id hn
    refine h _ ⟨I.ok, I.os, I.bare, ⟨fun b o e n hb hx => ?_, fun b o e n hb hx => ?_, I.base.free, fun b o e hx => ?_, I.base.tups, I.base.frzs, I.base.tbls⟩, ⟨_, hn', fun j y v' e1 e2 e3 => ?_⟩, fun y c e => ?_, I.free, I.freeC, fun p hp => ?_, tracked ⟨oL, hoL, I.free⟩ hs, by simpa using I.len⟩ ⟨_, hs, .inl rfl⟩
    · exact (hs.2 b (Nat.ne_of_lt (Nat.lt_of_lt_of_le (Heap.lt_size e) I.ok.above))).trans (I.base.keep b o e n hb hx)
    · obtain ⟨sl, e1⟩ := I.base.slot b o e n hb hx
      exact ⟨sl, (hs.2 b (Nat.ne_of_lt (Nat.lt_of_lt_of_le (Heap.lt_size e) I.ok.above))).trans e1⟩
    · obtain ⟨o', e1⟩ := I.base.there b o e hx
      exact ⟨o', (hs.2 b (Nat.ne_of_lt (Nat.lt_of_lt_of_le (Heap.lt_size e) I.ok.above))).trans e1⟩
    · by_cases hj : j = i
      · subst hj
        rw [hi] at e1; cases e1
        rw [List.getElem?_set_self hiσ] at e2
        cases e2
        exact ⟨u, r, .inl ⟨hk, by simp⟩⟩
      · rw [List.getElem?_set_ne (Ne.symm hj)] at e2
        obtain ⟨u', r', q⟩ := hl j y v' e1 e2 e3
        refine ⟨u', r', ?_⟩
        rcases q with ⟨k, e⟩ | ⟨k, c, e, z⟩
        · refine .inl ⟨k, ?_⟩
          have : y ≠ x := fun e => hj (nodup_ix hN e1 (e ▸ hi))
          simp [this, e]
        · exact .inr ⟨k, c, e, z.sameBut hs (cne y c e)⟩
    · obtain ⟨w', z⟩ := I.cell y c e
      exact ⟨w', z.sameBut hs (cne y c e)⟩
    · obtain ⟨e, n, ne, nf, d⟩ := I.pin p hp
      exact ⟨(hs.2 p.1 ne).trans e, n, ne, nf, d⟩
  · have hfn : X.fn x = true := by
      rcases hf with z | z
      · exact z
      · rw [z] at hk; cases hk
    obtain ⟨c, hc⟩ := I.ok.has x (.inl hk)
    obtain ⟨w', z⟩ := I.cell x c hc
    refine wpAny_storeName_cell I.ok.kind hk hc z (fun h' hc' hs => ?_)
    obtain ⟨oc, hoc, hocd⟩ := id z
    refine h { s with heap := h' } ⟨I.ok, I.os, I.bare, ⟨fun b o e n hb hx => ?_, fun b o e n hb hx => ?_, I.base.free, fun b o e hx => ?_, I.base.tups, I.base.frzs, I.base.tbls⟩, ⟨m, hn.sameBut hs (Ne.symm (cne x c hc)), fun j y v' e1 e2 e3 => ?_⟩, fun y c' e => ?_, I.free, I.freeC, fun p hp => ?_, tracked ⟨oc, hoc, I.freeC x c hc⟩ hs, by simpa using I.len⟩ ⟨c, hs, .inr hc⟩
    · exact (hs.2 b (Nat.ne_of_lt (Nat.lt_of_lt_of_le (Heap.lt_size e) (I.ok.cab x c hfn hc)))).trans (I.base.keep b o e n hb hx)
    · obtain ⟨sl, e1⟩ := I.base.slot b o e n hb hx
      exact ⟨sl, (hs.2 b (Nat.ne_of_lt (Nat.lt_of_lt_of_le (Heap.lt_size e) (I.ok.cab x c hfn hc)))).trans e1⟩
    · obtain ⟨o', e1⟩ := I.base.there b o e hx
      exact ⟨o', (hs.2 b (Nat.ne_of_lt (Nat.lt_of_lt_of_le (Heap.lt_size e) (I.ok.cab x c hfn hc)))).trans e1⟩
    · by_cases hj : j = i
      · subst hj
        rw [hi] at e1; cases e1
        rw [List.getElem?_set_self hiσ] at e2
        cases e2
        exact ⟨u, r, .inr ⟨.inl hk, c, hc, hc'⟩⟩
      · rw [List.getElem?_set_ne (Ne.symm hj)] at e2
        obtain ⟨u', r', q⟩ := hl j y v' e1 e2 e3
        refine ⟨u', r', ?_⟩
        rcases q with q | ⟨k, c', e, z'⟩
        · exact .inl q
        · refine .inr ⟨k, c', e, z'.sameBut hs ?_⟩
          rintro rfl
          exact hj (nodup_ix hN e1 (I.ok.inj _ _ _ e hc ▸ hi))
    · by_cases hcc : c' = c
      · subst hcc; exact ⟨_, hc'⟩
      · obtain ⟨w2, z2⟩ := I.cell y c' e
        exact ⟨w2, z2.sameBut hs hcc⟩
    · obtain ⟨e, n, ne, nf, d⟩ := I.pin p hp
      refine ⟨(hs.2 p.1 ?_).trans e, n, ne, nf, d⟩
      intro q
      rw [q, hoc] at e
      have q' : oc = p.2 := Option.some.inj e
      exact d w' (by rw [← q']; exact hocd)
theorem store_ok {M : Model} {A : Around} {E : Value → Shared → Prop} {i : Nat} {x : Str} {v : V} {u : Value} {Q : Unit → Shared → Prop} (I : Inv X pins σ H s) (hN : X.N.Nodup) (hi : X.N[i]? = some x) (hx : Loc X.env.scope x) (r : RelV v u)
    (h : ∀ s', Inv X pins (σ.set i (some v)) H s' → Q () s') (hf : X.fn x = true ∨ X.env.scope.names.lookup x = some .local := by first | exact .inl rfl | exact .inr rfl | assumption) : wpAny M A (storeName X.env x u) Q E s :=
  store_ok2 I hN hi hx r (fun s' I' _ => h s' I') hf
theorem Inv.call' {s' : Shared} {ch : List Addr} (I : Inv X pins σ H s) (ho : s'.os = s.os) (u : Un (frs X.stack) ch H H' s.heap s'.heap) (hok : HOk X.prog X.w H' s'.heap) (hg : AllBare s'.gens)
    (hch : ∀ b ∈ ch, (b ∈ X.ex ∨ X.s₀.heap.objs.size ≤ b) ∧ b ≠ X.env.locals ∧ (∀ x c, X.env.cells.lookup x = some c → c ≠ b) ∧ ∀ p ∈ X.pn ++ pins, p.1 ≠ b) : Inv X pins σ H' s' := by
  obtain ⟨h', g', d', t', o'⟩ := s'
  have e : o' = s.os := ho
  subst e
  exact I.call (g' := g') (t' := t') (d' := d') u hok hg hch
end
noncomputable abbrev XK := Value → Option Addr → Hp → Prop
noncomputable abbrev St := List (Option V)
noncomputable abbrev VK := V → Hp → Prop
noncomputable abbrev TE := St → Hp → VK → Prop
noncomputable abbrev TT := St → Hp → (Bool → Hp → Prop) → Prop
noncomputable abbrev TA := St → Hp → (List V → Hp → Prop) → Prop
structure Ends where
  nx : St → Hp → Prop
  rt : VK
  bk : St → Hp → Prop := fun _ _ => False
  ct : St → Hp → Prop := fun _ _ => False
noncomputable abbrev TS := Ends → St → Hp → Prop
noncomputable def EP (X : Cx) (pins : List (Addr × Obj)) (σ : St) (Q : VK) (u : Value) (s' : Shared) : Prop := ∃ v H', Inv X pins σ H' s' ∧ RelV v u ∧ Q v H'
noncomputable def TP (X : Cx) (pins : List (Addr × Obj)) (σ : St) (Q : Bool → Hp → Prop) (b : Bool) (s' : Shared) : Prop := ∃ H', Inv X pins σ H' s' ∧ Q b H'
noncomputable def AP (X : Cx) (pins : List (Addr × Obj)) (σ : St) (Q : List V → Hp → Prop) (us : List Value) (s' : Shared) : Prop := ∃ vs H', Inv X pins σ H' s' ∧ Vals vs us ∧ Q vs H'
noncomputable def SP (X : Cx) (pins : List (Addr × Obj)) (D : Ends) (f : Flow) (s' : Shared) : Prop :=
  match f with
  | .next => ∃ σ' H', Inv X pins σ' H' s' ∧ D.nx σ' H'
  | .brk => ∃ σ' H', Inv X pins σ' H' s' ∧ D.bk σ' H'
  | .cont => ∃ σ' H', Inv X pins σ' H' s' ∧ D.ct σ' H'
  | .ret u => ∃ v σ' H', Inv X pins σ' H' s' ∧ RelV v u ∧ D.rt v H'
noncomputable def PE (X : Cx) (e : Expr) (t : TE) : Prop :=
  ∀ (pins : List (Addr × Obj)) (s : Shared) (σ : St) (H : Hp) (Q : VK), Inv X pins σ H s → t σ H Q → wpAny (model X.prog X.w) X.A (eval e X.env) (EP X pins σ Q) X.xe s
noncomputable def PT (X : Cx) (e : Expr) (t : TT) : Prop :=
  ∀ (pins : List (Addr × Obj)) (s : Shared) (σ : St) (H : Hp) (Q : Bool → Hp → Prop), Inv X pins σ H s → t σ H Q → wpAny (model X.prog X.w) X.A (isTrue e X.env (eval e X.env)) (TP X pins σ Q) X.xe s
noncomputable def PW (X : Cx) (e : Expr) (t : TT) : Prop :=
  ∀ (whole : Sem Value) (pins : List (Addr × Obj)) (s : Shared) (σ : St) (H : Hp) (Q : Bool → Hp → Prop), Inv X pins σ H s → t σ H Q → wpAny (model X.prog X.w) X.A (isTrue e X.env whole) (TP X pins σ Q) X.xe s
theorem PW.pt {X : Cx} {e : Expr} {t : TT} (h : PW X e t) : PT X e t := h _
noncomputable def PA (X : Cx) (es : List Expr) (t : TA) : Prop :=
  ∀ (pos : Pos) (pins : List (Addr × Obj)) (s : Shared) (σ : St) (H : Hp) (Q : List V → Hp → Prop), Inv X pins σ H s → t σ H Q → wpAny (model X.prog X.w) X.A (spliced (backTo pos (starEach es X.env))) (AP X pins σ Q) X.xe s
noncomputable def PS (X : Cx) (st : Stmt) (t : TS) : Prop :=
  ∀ (pins : List (Addr × Obj)) (s : Shared) (σ : St) (H : Hp) (D : Ends), Inv X pins σ H s → t D σ H → wpAny (model X.prog X.w) X.A (exec st X.env) (SP X pins D) X.xe s
noncomputable def PSs (X : Cx) (st : List Stmt) (t : TS) : Prop :=
  ∀ (pins : List (Addr × Obj)) (s : Shared) (σ : St) (H : Hp) (D : Ends), Inv X pins σ H s → t D σ H → wpAny (model X.prog X.w) X.A (execs st X.env) (SP X pins D) X.xe s
theorem thn {α : Type} {t : Sem α} {Q Q' : α → Shared → Prop} {M : Model} {A : Around} {E : Value → Shared → Prop} {s : Shared} (h : wpAny M A t Q E s) (hQ : ∀ a s, Q a s → Q' a s) : wpAny M A t Q' E s := wpAny_mono h hQ fun _ _ x => x
end L2
namespace L2
open PySem PySem.Spec PyProof.Rows
section
variable {X : Cx}
noncomputable def tVar (i : Nat) : TE := fun σ H Q => ∃ v, σ[i]? = some (some v) ∧ Q v H
noncomputable def tC (v : V) : TE := fun _ H Q => Q v H
theorem pe_var {i : Nat} {x : Str} {pos : Pos} (hN : X.N[i]? = some x) (hv : Vis X.env.scope x) (hd : (x == ("__debug__" : Str)) = false := by decide) (hcd : (x == ("__classdict__" : Str)) = false := by decide) : PE X (.Name x pos) (tVar i) := by
  intro pins s σ H Q I h
  obtain ⟨v, e, h⟩ := h
  obtain ⟨m, hn, hl⟩ := I.loc
  obtain ⟨u, r, l⟩ := hl i x v hN e hv
  have fin : EP X pins σ Q u s := ⟨v, H, I, r, h⟩
  rcases l with ⟨hk, hm⟩ | ⟨hk, c, hc, hcell⟩
  · exact wpAny_Name (wpAny_loadName_local I.ok.kind hk hn hm fin) hd
  · rcases hk with hk | hk
    · exact wpAny_Name (wpAny_loadName_cell I.ok.kind hk hc hcell fin) hd
    · exact wpAny_Name (wpAny_loadName_free I.ok.kind hk hc hcell fin hcd) hd
theorem pe_int {i j pos} : PE X (.Constant (.int i) j pos) (tC (.int i)) := fun _ _ _ H _ I h => wpAny_Constant_int ⟨.int i, H, I.tok _, ⟨_, rfl⟩, h⟩
theorem pe_bl {b j pos} : PE X (.Constant (.bool b) j pos) (tC (.bl b)) := fun _ _ _ H _ I h => Constant_bool ⟨.bl b, H, I, rfl, h⟩
theorem pe_non {j pos} : PE X (.Constant .none j pos) (tC .non) := fun _ _ _ H _ I h => Constant_none ⟨.non, H, I, rfl, h⟩
theorem pe_str {x j pos} : PE X (.Constant (.str x) j pos) (tC (.str x)) := fun _ _ _ H _ I h => Calls.Constant_str ⟨.str x, H, I.tok _, ⟨_, rfl⟩, h⟩
noncomputable def Gl (X : Cx) (x : Str) : Prop := X.env.kindOf x = some .globalImplicit
theorem ld_glob {E : Value → Shared → Prop} {pins : List (Addr × Obj)} {s : Shared} {σ : St} {H : Hp} {x : Str} {u : Value} {pos : Pos} {Q : Value → Shared → Prop} (I : Inv X pins σ H s) (hg : Gl X x) (hm : X.mg x = some u) (h : Q u s)
    (hd : (x == ("__debug__" : Str)) = false := by decide) : wpAny (model X.prog X.w) X.A (eval (.Name x pos) X.env) Q E s :=
  Calls.Name_function_global I.ok.kind hg (Calls.loadGlobal_global (by rw [I.ok.glob]; exact I.mod.glob.keeps I.bk) hm h) hd
theorem ld_blt {E : Value → Shared → Prop} {pins : List (Addr × Obj)} {s : Shared} {σ : St} {H : Hp} {x : Str} {u : Value} {pos : Pos} {Q : Value → Shared → Prop} (I : Inv X pins σ H s) (hg : Gl X x) (hm : X.mg x = none) (hv : bootBuiltins x = some u) (h : Q u s)
    (hn : x ≠ "__name__" := by decide) (hd : (x == ("__debug__" : Str)) = false := by decide) : wpAny (model X.prog X.w) X.A (eval (.Name x pos) X.env) Q E s := by
  obtain ⟨mb, h1, h2⟩ := I.mod.blt
  exact Calls.Name_function_global I.ok.kind hg (Calls.loadGlobal_builtin (by rw [I.ok.glob]; exact I.mod.glob.keeps I.bk) hm (by rw [I.ok.blt]; exact h1.keeps I.bk) ((h2 x hn).trans hv) h) hd
theorem pe_glob {x : Str} {v : V} {u : Value} {pos : Pos} (hg : Gl X x) (hm : X.mg x = some u) (r : RelV v u) (hd : (x == ("__debug__" : Str)) = false := by decide) : PE X (.Name x pos) (tC v) :=
  fun _ _ _ H _ I h => ld_glob I hg hm ⟨v, H, I, r, h⟩ hd
theorem pe_bltn {x : Str} {v : V} {u : Value} {pos : Pos} (hg : Gl X x) (hm : X.mg x = none) (hv : bootBuiltins x = some u) (r : RelV v u) (hn : x ≠ "__name__" := by decide) (hd : (x == ("__debug__" : Str)) = false := by decide) : PE X (.Name x pos) (tC v) :=
  fun _ _ _ H _ I h => ld_blt I hg hm hv ⟨v, H, I, r, h⟩ hn hd
variable {a b : Expr} {ta tb : TE} {pos : Pos}
noncomputable def PC (X : Cx) (op : CmpOp) (a b : Expr) (t : TE) : Prop :=
  ∀ (pins : List (Addr × Obj)) (s : Shared) (σ : St) (H : Hp) (Q : VK), Inv X pins σ H s → t σ H Q →
    wpAny (model X.prog X.w) X.A (eval a X.env) (fun v s₁ => wpAny (model X.prog X.w) X.A (eval b X.env) (fun u s₂ => wpAny (model X.prog X.w) X.A (compareOp op v u) (EP X pins σ Q) X.xe s₂) X.xe s₁) X.xe s
theorem nobehind (b : Expr) {op : CmpOp} (h : op ≠ .In) (h2 : op ≠ .NotIn) : behindInMarks op b = false := by
  have e1 : (op == CmpOp.In) = false := by cases op <;> first | rfl | exact absurd rfl h
  have e2 : (op == CmpOp.NotIn) = false := by cases op <;> first | rfl | exact absurd rfl h2
  cases b <;> simp [behindInMarks, e1, e2]
noncomputable def tIsN (ta : TE) : TE := fun σ H Q => ta σ H fun x H1 => Q (.bl (decide (x = .non))) H1
noncomputable def tNotN (ta : TE) : TE := fun σ H Q => ta σ H fun x H1 => Q (.bl (!decide (x = .non))) H1
theorem RelV.none_iff {x : V} {v : Value} (r : RelV x v) : (v == Value.none) = decide (x = .non) := by
  cases x with
  | non => cases r; rfl
  | bl _ => cases r; rfl
  | int _ => obtain ⟨t, rfl⟩ := r; rfl
  | str _ => obtain ⟨t, rfl⟩ := r; rfl
  | byt _ => obtain ⟨t, rfl⟩ := r; rfl
  | flt _ => obtain ⟨t, rfl⟩ := r; rfl
  | ref _ => cases r; rfl
  | ty _ => cases r; rfl
theorem pc_isN {j pos'} (ha : PE X a ta) : PC X .Is a (.Constant .none j pos') (tIsN ta) := by
  intro pins s σ H Q I h
  refine thn (ha pins s σ H _ I h) fun v s1 ⟨x, H1, I1, r1, q1⟩ => ?_
  exact Constant_none (is_none_gen ⟨.bl _, H1, I1, by rw [r1.none_iff]; rfl, q1⟩)
theorem pc_notN {j pos'} (ha : PE X a ta) : PC X .IsNot a (.Constant .none j pos') (tNotN ta) := by
  intro pins s σ H Q I h
  refine thn (ha pins s σ H _ I h) fun v s1 ⟨x, H1, I1, r1, q1⟩ => ?_
  exact Constant_none (isnot_none_gen ⟨.bl _, H1, I1, by rw [r1.none_iff]; rfl, q1⟩)
noncomputable def tB (t : TE) : TT := fun σ H Q => t σ H fun x H1 => ∃ c, x = .bl c ∧ Q c H1
theorem pe_cmp {op : CmpOp} {t : TE} (h : PC X op a b t) (h1 : behindInMarks op b = false := by first | exact nobehind _ (by decide) (by decide) | rfl) : PE X (.Compare a [op] [b] pos) t := fun pins s σ H Q I hw => wpAny_Compare1 (h pins s σ H Q I hw) h1
theorem pt_cmp {op : CmpOp} {t : TE} (h : PC X op a b t) (h1 : behindInMarks op b = false := by first | exact nobehind _ (by decide) (by decide) | rfl) : PT X (.Compare a [op] [b] pos) (tB t) := by
  intro pins s σ H Q I hw
  refine wpAny_isTrue_Compare1 (thn (h pins s σ H _ I hw) fun v s1 h1 => thn h1 fun u s2 h2 => thn h2 fun c s3 ⟨x, H1, I1, r1, q1⟩ => ?_) h1
  obtain ⟨d, rfl, q⟩ := q1
  cases r1
  exact wpAny_truthy_bool ⟨H1, I1, q⟩
theorem pt_val {e : Expr} {t : TE} (h : PE X e t) (he : ∀ whole, isTrue e X.env whole = (do let v ← whole; standAt e.pos; holding [v] (truthy v)) := by intro _; rfl) : PT X e (tB t) := by
  intro pins s σ H Q I hw
  refine isTrue_plain (thn (h pins s σ H _ I hw) fun v s1 ⟨x, H1, I1, r1, q1⟩ => ?_) (he _)
  obtain ⟨d, rfl, q⟩ := q1
  cases r1
  exact wpAny_truthy_bool ⟨H1, I1, q⟩
variable {tA tB' : TT} {rest : List Expr}
noncomputable def tAnd (t u : TT) : TT := fun σ H Q => t σ H fun c H1 => if c = true then u σ H1 Q else Q false H1
noncomputable def tOr (t u : TT) : TT := fun σ H Q => t σ H fun c H1 => if c = true then Q true H1 else u σ H1 Q
noncomputable def tNot (t : TT) : TT := fun σ H Q => t σ H fun c H1 => Q (!c) H1
theorem pw_and1 (ha : PT X a tA) : PW X (.BoolOp .And [a] pos) tA := by
  intro wh pins s σ H Q I h
  refine isTrue_and (thn (ha pins s σ H Q I h) fun c s1 e => ?_)
  cases c with
  | true => exact isTrue_and_nil e
  | false => exact e
theorem pw_or1 (ha : PT X a tA) : PW X (.BoolOp .Or [a] pos) tA := by
  intro wh pins s σ H Q I h
  refine isTrue_or (thn (ha pins s σ H Q I h) fun c s1 e => ?_)
  cases c with
  | false => exact isTrue_or_nil e
  | true => exact e
theorem pw_and (ha : PT X a tA) (hb : PW X (.BoolOp .And (b :: rest) pos) tB') : PW X (.BoolOp .And (a :: b :: rest) pos) (tAnd tA tB') := by
  intro wh pins s σ H Q I h
  refine isTrue_and (thn (ha pins s σ H _ I h) fun c s1 ⟨H1, I1, q1⟩ => ?_)
  cases c with
  | true => exact hb wh pins s1 σ H1 Q I1 q1
  | false => exact ⟨H1, I1, q1⟩
theorem pw_or (ha : PT X a tA) (hb : PW X (.BoolOp .Or (b :: rest) pos) tB') : PW X (.BoolOp .Or (a :: b :: rest) pos) (tOr tA tB') := by
  intro wh pins s σ H Q I h
  refine isTrue_or (thn (ha pins s σ H _ I h) fun c s1 ⟨H1, I1, q1⟩ => ?_)
  cases c with
  | true => exact ⟨H1, I1, q1⟩
  | false => exact hb wh pins s1 σ H1 Q I1 q1
theorem pt_not (ha : PT X a tA) : PT X (.UnaryOp .Not a pos) (tNot tA) := by
  intro pins s σ H Q I h
  exact isTrue_not (ha pins s σ H (fun c H1 => Q (!c) H1) I h)
noncomputable def tAndV (ta tb : TE) : TE := fun σ H Q => ta σ H fun x H1 => ∃ c, x = .bl c ∧ if c = true then tb σ H1 Q else Q (.bl false) H1
theorem pe_one {op} {t : TE} (h : PE X a t) : PE X (.BoolOp op [a] pos) t := fun pins s σ H Q I hw => BoolOp_one (h pins s σ H Q I hw)
theorem pe_and (ha : PE X a ta) (hb : PE X (.BoolOp .And (b :: rest) pos) tb) : PE X (.BoolOp .And (a :: b :: rest) pos) (tAndV ta tb) := by
  intro pins s σ H Q I h
  refine BoolOp_and (thn (ha pins s σ H _ I h) fun v s1 ⟨x, H1, I1, r1, q1⟩ => ?_)
  obtain ⟨c, rfl, q1⟩ := q1
  cases r1
  refine wpAny_truthy_bool ?_
  cases c with
  | true => exact hb pins s1 σ H1 Q I1 q1
  | false => exact ⟨.bl false, H1, I1, rfl, q1⟩
end
end L2
namespace L2
open PySem PySem.Spec PyProof.Rows
noncomputable def SqL (K : PySem.W.Frag) (H : Hp) (a : Addr) (xs : List V) : Prop :=
  Rd H a (.lst xs) ∨
    ∃ (o : Obj) (its : Array Value) (n : Nat), K.lookup a = some o ∧ o.cls = .type "list" ∧ o.dict = none ∧ o.data = .seq its n ∧ its.size ≤ sizeLine ∧ Vals xs its.toList
noncomputable def SqT (K : PySem.W.Frag) (H : Hp) (a : Addr) (xs : List V) : Prop :=
  Rd H a (.tup xs) ∨
    ∃ (o : Obj) (its : Array Value) (n : Nat), K.lookup a = some o ∧ o.cls = .type "tuple" ∧ o.data = .seq its n ∧ its.size ≤ sizeLine ∧ Vals xs its.toList
noncomputable def absV : Value → Option V
  | .none => some .non
  | .bool b => some (.bl b)
  | .int i _ => some (.int i)
  | .str x _ => some (.str x)
  | .bytes b _ => some (.byt b)
  | .float b _ => some (.flt b)
  | .ref a => some (.ref a)
  | .type n => some (.ty n)
  | _ => none
theorem RelV.abs {x : V} {u : Value} (r : RelV x u) : absV u = some x := by
  cases x with
  | non => cases r; rfl
  | bl _ => cases r; rfl
  | int _ => obtain ⟨t, rfl⟩ := r; rfl
  | str _ => obtain ⟨t, rfl⟩ := r; rfl
  | byt _ => obtain ⟨t, rfl⟩ := r; rfl
  | flt _ => obtain ⟨t, rfl⟩ := r; rfl
  | ref _ => cases r; rfl
  | ty _ => cases r; rfl
theorem RelV.inj {x y : V} {u : Value} (r : RelV x u) (q : RelV y u) : x = y := Option.some.inj (r.abs.symm.trans q.abs)
theorem Vals.inj : ∀ {xs ys : List V} {us : List Value}, Vals xs us → Vals ys us → xs = ys
  | _, _, _, .nil, .nil => rfl
  | _, _, _, .cons r t, .cons r' t' => by rw [r.inj r', Vals.inj t t']
section
variable {X : Cx} {pins : List (Addr × Obj)} {σ : St} {H : Hp} {s : Shared} {a : Addr} {xs ys : List V}
theorem SqL.of {K : PySem.W.Frag} (h : H a = some (.lst xs)) : SqL K H a xs := .inl (.inl h)
theorem SqT.of {K : PySem.W.Frag} (h : H a = some (.tup xs)) : SqT K H a xs := .inl (.inl h)
theorem Inv.list (I : Inv X pins σ H s) (h : SqL X.K H a xs) : ∃ its : List Value, Vals xs its ∧ PlainL s.heap a its.toArray ∧ xs.length ≤ sizeLine := by
  rcases h with h | ⟨o, its, n, hk, hc, hd, hs, hz, r⟩
  · obtain ⟨z, its, n, r, e⟩ := h.ok I.hok
    exact ⟨its, r, ⟨_, n, e, rfl, rfl, rfl⟩, z⟩
  · refine ⟨its.toList, r, ⟨o, n, I.kIn a o hk, hc, hd, by simpa using hs⟩, ?_⟩
    have e := r.length
    simp only [Array.length_toList] at e
    omega
theorem Inv.tuple (I : Inv X pins σ H s) (h : SqT X.K H a xs) : ∃ its : List Value, Vals xs its ∧ IsTup s.heap a its.toArray ∧ xs.length ≤ sizeLine := by
  rcases h with h | ⟨o, its, n, hk, hc, hs, hz, r⟩
  · obtain ⟨z, its, r, p⟩ := h.ok I.hok
    exact ⟨its, r, p, z⟩
  · refine ⟨its.toList, r, ⟨o, I.kIn a o hk, hc, n, by simpa using hs⟩, ?_⟩
    have e := r.length
    simp only [Array.length_toList] at e
    omega
theorem Inv.list_inj (I : Inv X pins σ H s) (h : SqL X.K H a xs) (h' : SqL X.K H a ys) : xs = ys := by
  obtain ⟨its, r, ⟨o, n, e, _, _, d⟩, _⟩ := I.list h
  obtain ⟨its', r', ⟨o', n', e', _, _, d'⟩, _⟩ := I.list h'
  rw [e] at e'; cases e'
  rw [d] at d'
  injection d' with d1 _
  have : its = its' := by simpa using congrArg Array.toList d1
  subst this
  exact r.inj r'
theorem Inv.tuple_inj (I : Inv X pins σ H s) (h : SqT X.K H a xs) (h' : SqT X.K H a ys) : xs = ys := by
  obtain ⟨its, r, ⟨o, e, _, n, d⟩, _⟩ := I.tuple h
  obtain ⟨its', r', ⟨o', e', _, n', d'⟩, _⟩ := I.tuple h'
  rw [e] at e'; cases e'
  rw [d] at d'
  injection d' with d1 _
  have : its = its' := by simpa using congrArg Array.toList d1
  subst this
  exact r.inj r'
end
noncomputable abbrev Cx.wish (X : Cx) (E : Value → Shared → Prop) : Cx := { X with xe := E }
noncomputable abbrev Cx.nox (X : Cx) : Cx := X.wish fun _ _ => False
theorem Cx.Ok.wish {X : Cx} (ok : X.Ok) (E : Value → Shared → Prop) : (X.wish E).Ok :=
  ⟨ok.mod, ok.kind, ok.glob, ok.blt, ok.above, ok.inj, ok.has, ok.cab, ok.hd, ok.frames, ok.stk, ok.exf, ok.bs, ok.bsz, ok.noex, ok.exfs, ok.funs, ok.frf⟩
theorem Cx.Ok.unwish {X : Cx} {E : Value → Shared → Prop} (ok : (X.wish E).Ok) : X.Ok :=
  ⟨ok.mod, ok.kind, ok.glob, ok.blt, ok.above, ok.inj, ok.has, ok.cab, ok.hd, ok.frames, ok.stk, ok.exf, ok.bs, ok.bsz, ok.noex, ok.exfs, ok.funs, ok.frf⟩
section
variable {X : Cx} {pins : List (Addr × Obj)} {σ : St} {H : Hp} {s : Shared} {E : Value → Shared → Prop}
theorem Inv.wish (I : Inv X pins σ H s) (E : Value → Shared → Prop) : Inv (X.wish E) pins σ H s := ⟨I.ok.wish E, I.os, I.bare, I.base, I.loc, I.cell, I.free, I.freeC, I.pin, I.hok, I.len⟩
theorem Inv.unwish (I : Inv (X.wish E) pins σ H s) : Inv X pins σ H s := ⟨I.ok.unwish, I.os, I.bare, I.base, I.loc, I.cell, I.free, I.freeC, I.pin, I.hok, I.len⟩
theorem SP.unwish {D : Ends} {f : Flow} {s' : Shared} (h : SP (X.wish E) pins D f s') : SP X pins D f s' := by
  cases f with
  | next => obtain ⟨σ', H', I, q⟩ := h; exact ⟨σ', H', I.unwish, q⟩
  | brk => obtain ⟨σ', H', I, q⟩ := h; exact ⟨σ', H', I.unwish, q⟩
  | cont => obtain ⟨σ', H', I, q⟩ := h; exact ⟨σ', H', I.unwish, q⟩
  | ret u => obtain ⟨v, σ', H', I, r, q⟩ := h; exact ⟨v, σ', H', I.unwish, r, q⟩
theorem PSs.nox {st : List Stmt} {t : TS} (h : PSs X.nox st t) : PSs X st t := fun pins s σ H D I hw =>
  wpAny_mono (h pins s σ H D (I.wish _) hw) (fun _ _ q => q.unwish) fun _ _ z => False.elim z
end
section
variable {X : Cx} {st : Stmt} {rest : List Stmt} {t u : TS} {e : Expr} {te : TE} {pos : Pos}
noncomputable def tNext : TS := fun D σ H => D.nx σ H
noncomputable def tSeq (t u : TS) : TS := fun D σ H => t { D with nx := u D } σ H
theorem pss_nil : PSs X [] tNext := fun _ _ σ H _ I h => wpAny_execs_nil ⟨σ, H, I, h⟩
theorem pss_cons (h1 : PS X st t) (h2 : PSs X rest u) : PSs X (st :: rest) (tSeq t u) := by
  intro pins s σ H D I h
  refine wpAny_execs_cons (thn (h1 pins s σ H { D with nx := u D } I h) fun f s1 q => ?_)
  cases f with
  | next =>
    obtain ⟨σ', H', I', q⟩ := q
    exact h2 pins s1 σ' H' D I' q
  | ret v => exact q
  | brk => exact q
  | cont => exact q
theorem pss_one (h1 : PS X st t) : PSs X [st] t := by
  intro pins s σ H D I h
  refine wpAny_execs_cons (thn (h1 pins s σ H D I h) fun f s1 q => ?_)
  cases f with
  | next => exact wpAny_execs_nil q
  | ret v => exact q
  | brk => exact q
  | cont => exact q
theorem Inv.quiet {pins : List (Addr × Obj)} {σ : St} {H : Hp} {s : Shared} (I : Inv X pins σ H s) : interactive X.env = false := by simp [interactive, I.ok.kind]
noncomputable def tDrop (te : TE) : TS := fun D σ H => te σ H fun _ H1 => D.nx σ H1
theorem ps_expr (he : PE X e te) (hs : swapsWith e none pos.line X.env = pure false := by rfl) : PS X (.Expr e pos) (tDrop te) := by
  intro pins s σ H D I h
  exact wpAny_Expr_any (thn (he pins s σ H _ I h) fun v s1 ⟨x, H1, I1, r1, q1⟩ => ⟨σ, H1, I1, q1⟩) I.quiet hs
noncomputable def tRet (te : TE) : TS := fun D σ H => te σ H D.rt
theorem ps_ret (he : PE X e te) : PS X (.Return (some e) pos) (tRet te) := by
  intro pins s σ H D I h
  exact wpAny_Return_some (thn (he pins s σ H _ I h) fun v s1 ⟨x, H1, I1, r1, q1⟩ => ⟨x, σ, H1, I1, r1, q1⟩)
noncomputable def tIfS (c : TT) (t u : TS) : TS := fun D σ H => c σ H fun b H1 => if b = true then t D σ H1 else u D σ H1
theorem ps_if {c : Expr} {a b : List Stmt} {tc : TT} (hc : PT X c tc) (ha : PSs X a t) (hb : PSs X b u) : PS X (.If c a b pos) (tIfS tc t u) := by
  intro pins s σ H D I h
  refine wpAny_If (thn (hc pins s σ H _ I h) fun d s1 ⟨H1, I1, q1⟩ => ?_)
  cases d with
  | true => exact ha pins s1 σ H1 D I1 q1
  | false => exact hb pins s1 σ H1 D I1 q1
noncomputable def tNever : TS := fun _ _ _ => False
theorem ps_never : PS X st tNever := fun _ _ _ _ _ _ h => h.elim
end
noncomputable abbrev TG := V → St → Hp → (St → Hp → Prop) → Prop
noncomputable abbrev TGs := List V → St → Hp → (St → Hp → Prop) → Prop
noncomputable def PG (X : Cx) (target : Expr) (t : TG) : Prop :=
  ∀ (pins : List (Addr × Obj)) (s : Shared) (σ : St) (H : Hp) (v : V) (u : Value) (Q : St → Hp → Prop), Inv X pins σ H s → RelV v u → t v σ H Q →
    wpAny (model X.prog X.w) X.A (assign target X.env u) (fun _ s' => ∃ σ' H', Inv X pins σ' H' s' ∧ Q σ' H') X.xe s
noncomputable def PGs (X : Cx) (ts : List Expr) (t : TGs) : Prop :=
  ∀ (pins : List (Addr × Obj)) (s : Shared) (σ : St) (H : Hp) (vs : List V) (us : List Value) (Q : St → Hp → Prop), Inv X pins σ H s → Vals vs us → t vs σ H Q →
    wpAny (model X.prog X.w) X.A (assignInOrder ((assignEach ts X.env).map (·.2)) us) (fun _ s' => ∃ σ' H', Inv X pins σ' H' s' ∧ Q σ' H') X.xe s
noncomputable abbrev TSet := V → V → V → Hp → (Hp → Prop) → Prop
noncomputable abbrev TIp := V → V → Hp → VK → Prop
noncomputable def PIp (X : Cx) (op : Operator) (t : TIp) : Prop :=
  ∀ (pins : List (Addr × Obj)) (s : Shared) (σ : St) (H : Hp) (x y : V) (v u : Value) (Q : VK), Inv X pins σ H s → RelV x v → RelV y u → t x y H Q →
    wpAny (model X.prog X.w) X.A (inplaceOp op v u) (EP X pins σ Q) X.xe s
section
variable {X : Cx} {pos : Pos}
noncomputable def gName (i : Nat) : TG := fun v σ H Q => Q (σ.set i (some v)) H
theorem pg_name {i : Nat} {x : Str} (hN : X.N.Nodup) (hi : X.N[i]? = some x) (hx : Loc X.env.scope x) (hf : X.fn x = true ∨ X.env.scope.names.lookup x = some .local := by first | exact .inl rfl | exact .inr rfl | assumption) : PG X (.Name x pos) (gName i) := by
  intro pins s σ H v u Q I r h
  exact wpAny_assign_Name (store_ok I hN hi hx r (fun s' I' => ⟨_, H, I', h⟩) hf)
noncomputable def gNil : TGs := fun vs σ H Q => vs = [] ∧ Q σ H
noncomputable def gCons (t : TG) (u : TGs) : TGs := fun vs σ H Q => ∃ v r, vs = v :: r ∧ t v σ H fun σ' H' => u r σ' H' Q
theorem pgs_nil : PGs X [] gNil := by
  intro pins s σ H vs us Q I r h
  obtain ⟨e, h⟩ := h
  subst e
  cases r
  exact assignInOrder_nil ⟨σ, H, I, h⟩
theorem pgs_cons {e : Expr} {es : List Expr} {t : TG} {u : TGs} (h1 : PG X e t) (h2 : PGs X es u)
    (hs : (assignEach (e :: es) X.env).map (·.2) = assign e X.env :: (assignEach es X.env).map (·.2) := by rfl) : PGs X (e :: es) (gCons t u) := by
  intro pins s σ H vs us Q I r h
  obtain ⟨v, vr, e1, h⟩ := h
  subst e1
  cases r with
  | cons r rr =>
    rw [hs]
    refine assignInOrder_cons (thn (h1 pins s σ H _ _ _ I r h) fun _ s1 ⟨σ1, H1, I1, q1⟩ => ?_)
    exact h2 pins s1 σ1 H1 _ _ Q I1 rr q1
noncomputable def gTup (K : PySem.W.Frag) (n : Nat) (t : TGs) : TG := fun v σ H Q => ∃ a xs, v = .ref a ∧ SqT K H a xs ∧ xs.length = n ∧ t xs σ H Q
theorem pg_tup {es : List Expr} {k : Nat} {t : TGs} {n : Nat} (hc : X.calm = true) (h : PGs X es t)
    (hn : (assignEach es X.env).length = n := by rfl) (hst : (assignEach es X.env).findIdx? (·.1) = none := by rfl) : PG X (.Tuple es k pos) (gTup X.K n t) := by
  intro pins s σ H v u Q I r hw
  obtain ⟨a, xs, e1, hq, hl, hw⟩ := hw
  subst e1
  cases r
  obtain ⟨its, rv, ht, hz⟩ := I.tuple hq
  refine assign_Tuple_tuple (I.ok.hd hc) ht (by simp [hn, ← hl, rv.length]) hst fun h' hx => ?_
  have I1 : Inv X pins σ H { s with heap := h' } := I.kept (t' := s.toks) fun b o e => hx b o (Nat.ne_of_lt (Heap.lt_size e)) e
  exact h pins _ σ H xs _ Q I1 (by simpa using rv) hw
noncomputable def tAsg (te : TE) (g : TG) : TS := fun D σ H => te σ H fun x H1 => g x σ H1 D.nx
theorem ps_set {i : Nat} {x : Str} {e : Expr} {te : TE} {pos' : Pos} (hN : X.N.Nodup) (hi : X.N[i]? = some x) (hx : Loc X.env.scope x) (he : PE X e te) (hs : swapsWith e (some (.Name x pos')) pos.line X.env = pure false := by rfl) (hf : X.fn x = true ∨ X.env.scope.names.lookup x = some .local := by first | exact .inl rfl | exact .inr rfl | assumption) :
    PS X (.Assign [.Name x pos'] e pos) (tAsg te (gName i)) := by
  intro pins s σ H D I h
  refine wpAny_Assign_Name (thn (he pins s σ H _ I h) fun v s1 ⟨y, H1, I1, r1, q1⟩ => ?_) hs
  exact store_ok I1 hN hi hx r1 (fun s2 I2 => ⟨_, H1, I2, q1⟩) hf
noncomputable def tAug (i : Nat) (te : TE) (ti : TIp) : TS := fun D σ H => ∃ x, σ[i]? = some (some x) ∧ te σ H fun y H1 => ti x y H1 fun z H2 => D.nx (σ.set i (some z)) H2
theorem ps_aug {i : Nat} {x : Str} {e : Expr} {te : TE} {op : Operator} {ti : TIp} {pos' : Pos} (hN : X.N.Nodup) (hi : X.N[i]? = some x) (hx : Loc X.env.scope x) (he : PE X e te) (ho : PIp X op ti) (hf : X.fn x = true ∨ X.env.scope.names.lookup x = some .local := by first | exact .inl rfl | exact .inr rfl | assumption) :
    PS X (.AugAssign (.Name x pos') op e pos) (tAug i te ti) := by
  intro pins s σ H D I h
  obtain ⟨v, e1, h⟩ := h
  obtain ⟨m, hn, hl⟩ := I.loc
  have vis : Vis X.env.scope x := by rcases hx with k | k; exact .inl k; exact .inr (.inl k)
  obtain ⟨u, r, l⟩ := hl i x v hi e1 vis
  refine wpAny_AugAssign_Name ?_
  have go : wpAny (model X.prog X.w) X.A (eval e X.env) (fun w s₂ => wpAny (model X.prog X.w) X.A (inplaceOp op u w) (fun r s₃ => wpAny (model X.prog X.w) X.A (storeName X.env x r) (fun _ => SP X pins D .next) X.xe s₃) X.xe s₂) X.xe s := by
    refine thn (he pins s σ H _ I h) fun w s1 ⟨y, H1, I1, r1, q1⟩ => ?_
    refine thn (ho pins s1 σ H1 v y u w _ I1 r r1 q1) fun z s2 ⟨zv, H2, I2, r2, q2⟩ => ?_
    exact store_ok I2 hN hi hx r2 (fun s3 I3 => ⟨_, H2, I3, q2⟩) hf
  rcases l with ⟨hk, hm⟩ | ⟨hk, c, hc, hcell⟩
  · exact wpAny_loadName_local I.ok.kind hk hn hm go
  · rcases hk with hk | hk
    · exact wpAny_loadName_cell I.ok.kind hk hc hcell go
    · rcases hx with k | k
      · have : X.env.scope.names.lookup x = some .free := hk
        rw [k] at this; cases this
      · have : X.env.scope.names.lookup x = some .free := hk
        rw [k] at this; cases this
noncomputable def ipI (f : Int → Int → Int) : TIp := fun x y H Q => ∃ i j, x = .int i ∧ y = .int j ∧ Q (.int (f i j)) H
theorem ip_sub : PIp X .Sub (ipI fun i j => i - j) := by
  intro pins s σ H x y v u Q I r1 r2 h
  obtain ⟨i, j, e1, e2, q⟩ := h
  subst e1; subst e2
  obtain ⟨t, rfl⟩ := r1
  obtain ⟨t', rfl⟩ := r2
  exact isub_int ⟨.int _, H, I.tok _, ⟨_, rfl⟩, q⟩
end
section
variable {X : Cx} {pos : Pos}
noncomputable def tWhile (c : TT) (tb : TS) : TS := fun D σ H => ∃ W : Nat → St → Hp → Prop, (∃ m, W m σ H) ∧ ∀ m σ H, W m σ H →
  c σ H fun b H1 => if b = true then ∃ N : St → Hp → Prop, (∀ σ' H', N σ' H' → ∃ m', m' < m ∧ W m' σ' H') ∧ tb { D with nx := N, ct := N, bk := D.nx } σ H1 else D.nx σ H1
theorem ps_while {c : Expr} {body : List Stmt} {tc : TT} {tb : TS} (hp : PassesOwn (model X.prog X.w) X.A X.env X.xe) (hc : PT X c tc) (hb : PSs X body tb) : PS X (.While c body [] pos) (tWhile tc tb) := by
  intro pins s σ H D I h
  obtain ⟨W, ⟨m0, w0⟩, turn⟩ := h
  refine wpAny_While (codeAny_whileLoop (fun n s' => ∃ σ' H', Inv X pins σ' H' s' ∧ W n σ' H') ?_ m0 ⟨σ, H, I, w0⟩)
  rintro n s1 ⟨σ1, H1, I1, w1⟩
  refine wpAny_passesOwn hp (thn (hc pins s1 σ1 H1 _ I1 (turn n σ1 H1 w1)) fun b s2 ⟨H2, I2, q2⟩ => ?_)
  cases b with
  | true =>
    obtain ⟨N, hN, q2⟩ := q2
    rw [if_pos rfl]
    refine wpAny_passesOwn hp (thn (hb pins s2 σ1 H2 _ I2 q2) fun f s3 q3 => ?_)
    cases f with
    | next =>
      obtain ⟨σ3, H3, I3, n3⟩ := q3
      obtain ⟨m', hm, w3⟩ := hN σ3 H3 n3
      exact ⟨m', hm, σ3, H3, I3, w3⟩
    | cont =>
      obtain ⟨σ3, H3, I3, n3⟩ := q3
      obtain ⟨m', hm, w3⟩ := hN σ3 H3 n3
      exact ⟨m', hm, σ3, H3, I3, w3⟩
    | brk => exact q3
    | ret v => exact q3
  | false =>
    rw [if_neg Bool.false_ne_true]
    exact wpAny_execs_nil ⟨σ1, H2, I2, q2⟩
end
structure It where
  go : Nat → Hp → Prop
  yld : Nat → Hp → V → Hp → Prop
  stop : Nat → Hp → Prop
noncomputable def FpOk (X : Cx) (pins : List (Addr × Obj)) (H : Hp) (b : Addr) : Prop :=
  H b = none ∧ b ≠ X.env.locals ∧ b ∉ X.fs ∧ (b ∈ X.ex ∨ X.s₀.heap.objs.size ≤ b) ∧ (∀ x c, X.env.cells.lookup x = some c → c ≠ b) ∧ ∀ p ∈ X.pn ++ pins, p.1 ≠ b
theorem Inv.fpOk {X : Cx} {pins : List (Addr × Obj)} {σ : St} {H H' : Hp} {s : Shared} {b : Addr} (I : Inv X pins σ H s) (hb : s.heap.objs.size ≤ b) (hn : H' b = none) : FpOk X pins H' b := by
  refine ⟨hn, Nat.ne_of_gt (Nat.lt_of_lt_of_le I.lt hb), I.nofs hb, .inr (Nat.le_trans I.sz hb), fun x c e z => ?_, fun p hp z => ?_⟩
  · obtain ⟨v, q⟩ := I.cell x c e
    exact absurd (Nat.lt_of_lt_of_le q.lt (by rw [z]; exact hb)) (Nat.lt_irrefl _)
  · exact absurd (Nat.lt_of_lt_of_le (Heap.lt_size (I.pin p hp).1) (by rw [z]; exact hb)) (Nat.lt_irrefl _)
structure Turn (P : Program) (w : World) (K : PySem.W.Frag) (tg : Expr) (J : It) (fp : List Addr) (it : Addr) (tn : Nat → Heap → Prop) : Prop where
  mem : it ∈ fp
  obj : ∀ i h, tn i h → ∀ b ∈ fp, ∃ o, h.get? b = some o ∧ ∀ v, o.data ≠ .cell v
  keep : ∀ i h h', tn i h → (∀ b ∈ fp, ∀ o, h.get? b = some o → h'.get? b = some o) → tn i h'
  item : ∀ (X : Cx), X.prog = P → X.w = w → X.K = K → X.calm = true → ∀ (i : Nat) (pins : List (Addr × Obj)) (s : Shared) (σ : St) (H : Hp) (E : Value → Shared → Prop), Inv X pins σ H s → (∀ b ∈ fp, FpOk X pins H b) → tn i s.heap → J.go i H →
    wpAny (model P w) X.A (pyNext (.ref it)) (fun r s1 => ∃ u, r = some u ∧
      wpAny (model P w) X.A (letOwnedTupleGo tg (.ref it) u) (fun _ s2 => ∃ x H', Inv X pins σ H' s2 ∧ RelV x u ∧ J.yld i H x H' ∧ tn (i + 1) s2.heap ∧ ∀ b ∈ fp, H' b = none) E s1) E s
  done : ∀ (X : Cx), X.prog = P → X.w = w → X.K = K → X.calm = true → ∀ (i : Nat) (pins : List (Addr × Obj)) (s : Shared) (σ : St) (H : Hp) (E : Value → Shared → Prop), Inv X pins σ H s → (∀ b ∈ fp, FpOk X pins H b) → tn i s.heap → J.stop i H →
    wpAny (model P w) X.A (pyNext (.ref it)) (fun r s1 => r = none ∧ Inv X pins σ H s1) E s
  self : ∀ (A : Around) (i : Nat) (s : Shared) (Q : Value → Shared → Prop) (E : Value → Shared → Prop), tn i s.heap → Q (.ref it) s → wpAny (model P w) A (pyIter (.ref it)) Q E s
noncomputable abbrev TI := St → Hp → (It → Hp → Prop) → Prop
noncomputable def PIE (X : Cx) (pins : List (Addr × Obj)) (σ : St) (tg : Expr) (R : It → Hp → Prop) (itv : Value) (s2 : Shared) : Prop :=
  ∃ (it : Addr) (fp : List Addr) (tn : Nat → Heap → Prop) (J : It) (H' : Hp), itv = .ref it ∧ Inv X pins σ H' s2 ∧ Turn X.prog X.w X.K tg J fp it tn ∧ tn 0 s2.heap ∧ (∀ b ∈ fp, FpOk X pins H' b) ∧ R J H'
noncomputable def PI (X : Cx) (tg iter : Expr) (wi : TI) : Prop :=
  ∀ (pins : List (Addr × Obj)) (s : Shared) (σ : St) (H : Hp) (R : It → Hp → Prop), Inv X pins σ H s → wi σ H R →
    wpAny (model X.prog X.w) X.A (eval iter X.env) (fun v s1 => wpAny (model X.prog X.w) X.A (pyIter v) (PIE X pins σ tg R) X.xe s1) X.xe s
theorem go_of {M : Model} {A : Around} {E : Value → Shared → Prop} {s : Shared} {tg : Expr} {it : Addr} {u : Value} {o : Obj} {n : String} {vs : Array Value} {Q : Unit → Shared → Prop} (ho : s.heap.get? it = some o) (hc : o.cls = .type n) (hd : o.data = .fields vs)
    (hn : ["enumerate", "zip", "dict_itemiterator", "dict_reverseitemiterator", "odict_iterator", "itertools.zip_longest", "itertools.pairwise"].contains n = false) (hQ : Q () s) : wpAny M A (letOwnedTupleGo tg (.ref it) u) Q E s := by
  unfold letOwnedTupleGo
  cases tg <;> first
    | exact wpAny_pure hQ
    | (cases u <;> first
        | exact wpAny_pure hQ
        | (refine wpAny_bind (wpAny_load ho ?_)
           rw [hc, hd]
           show wpAny M A (if (["enumerate", "zip", "dict_itemiterator", "dict_reverseitemiterator", "odict_iterator", "itertools.zip_longest", "itertools.pairwise"].contains n && vs[0]? == some (rawInt _)) = true then _ else _) Q E s
           rw [if_neg (by intro h; rw [hn, Bool.false_and] at h; cases h)]
           exact wpAny_pure hQ))
noncomputable def Itl (K : PySem.W.Frag) (a : Addr) : It :=
  ⟨fun i H => ∃ xs x, SqL K H a xs ∧ xs[i]? = some x, fun i H x H' => H' = H ∧ ∀ xs, SqL K H a xs → xs[i]? = some x, fun i H => ∃ xs, SqL K H a xs ∧ xs.length ≤ i⟩
noncomputable def Itt (K : PySem.W.Frag) (a : Addr) : It :=
  ⟨fun i H => ∃ xs x, SqT K H a xs ∧ xs[i]? = some x, fun i H x H' => H' = H ∧ ∀ xs, SqT K H a xs → xs[i]? = some x, fun i H => ∃ xs, SqT K H a xs ∧ xs.length ≤ i⟩
noncomputable def Itr (lo : Int) (n : Nat) : It := ⟨fun i _ => i < n, fun i H x H' => H' = H ∧ x = .int (lo + i), fun i _ => n ≤ i⟩
theorem turn_list {P : Program} {w : World} {K : PySem.W.Frag} {tg : Expr} (a it : Addr) : Turn P w K tg (Itl K a) [it] it (fun i h => h.IsListIter it a i) where
  mem := by simp
  obj := fun i h st b hb => by
    have e : b = it := by simpa using hb
    subst e
    obtain ⟨o, e, c, d⟩ := st
    exact ⟨o, e, fun v z => by rw [d] at z; cases z⟩
  keep := fun i h h' st k => st.at fun o e => k it (by simp) o e
  item := by
    intro X hP hw hK hc i pins s σ H E I hf st hg
    subst hP hw hK
    obtain ⟨xs, x, hq, hx⟩ := hg
    obtain ⟨its, rv, p, hz⟩ := I.list hq
    obtain ⟨u, hu, ru⟩ := rv.get hx
    obtain ⟨f0, f1, f2, f3, f4, f5⟩ := hf it (by simp)
    refine wpAny_pyNext_list_item st p.isList (x := u) (by simpa using hu) fun h' st' sb => ?_
    have I1 : Inv X pins σ H { s with heap := h' } := I.turned (t' := s.toks) (fun b o hb e => (sb.2 b hb).trans e) f0 f1 f3 f4 f5
    obtain ⟨o, e, c, d⟩ := id st'
    exact ⟨u, rfl, go_of (s := { s with heap := h' }) e c d (by decide) ⟨x, H, I1, ru, ⟨rfl, fun ys hy => by rw [I.list_inj hy hq]; exact hx⟩, st', fun b hb => (hf b hb).1⟩⟩
  done := by
    intro X hP hw hK hc i pins s σ H E I hf st hg
    subst hP hw hK
    obtain ⟨xs, hq, hx⟩ := hg
    obtain ⟨its, rv, p, hz⟩ := I.list hq
    obtain ⟨f0, f1, f2, f3, f4, f5⟩ := hf it (by simp)
    have hl := rv.length
    exact wpAny_pyNext_list_end (I.ok.hd hc) st p.isList (by simp; omega) fun h' eb => ⟨rfl, I.turned (t' := s.toks) (fun b o hb e => eb b o hb e) f0 f1 f3 f4 f5⟩
  self := fun _ _ _ _ _ st h => wpAny_pyIter_listiter st h
theorem turn_tuple {P : Program} {w : World} {K : PySem.W.Frag} {tg : Expr} (a it : Addr) : Turn P w K tg (Itt K a) [it] it (fun i h => h.IsTupleIter it a i) where
  mem := by simp
  obj := fun i h st b hb => by
    have e : b = it := by simpa using hb
    subst e
    obtain ⟨o, e, c, d⟩ := st
    exact ⟨o, e, fun v z => by rw [d] at z; cases z⟩
  keep := fun i h h' st k => st.at fun o e => k it (by simp) o e
  item := by
    intro X hP hw hK hc i pins s σ H E I hf st hg
    subst hP hw hK
    obtain ⟨xs, x, hq, hx⟩ := hg
    obtain ⟨its, rv, p, hz⟩ := I.tuple hq
    obtain ⟨u, hu, ru⟩ := rv.get hx
    obtain ⟨f0, f1, f2, f3, f4, f5⟩ := hf it (by simp)
    refine wpAny_pyNext_tuple_item st (show s.heap.IsTuple a its.toArray from p) (x := u) (by simpa using hu) fun h' st' sb => ?_
    have I1 : Inv X pins σ H { s with heap := h' } := I.turned (t' := s.toks) (fun b o hb e => (sb.2 b hb).trans e) f0 f1 f3 f4 f5
    obtain ⟨o, e, c, d⟩ := id st'
    exact ⟨u, rfl, go_of (s := { s with heap := h' }) e c d (by decide) ⟨x, H, I1, ru, ⟨rfl, fun ys hy => by rw [I.tuple_inj hy hq]; exact hx⟩, st', fun b hb => (hf b hb).1⟩⟩
  done := by
    intro X hP hw hK hc i pins s σ H E I hf st hg
    subst hP hw hK
    obtain ⟨xs, hq, hx⟩ := hg
    obtain ⟨its, rv, p, hz⟩ := I.tuple hq
    obtain ⟨f0, f1, f2, f3, f4, f5⟩ := hf it (by simp)
    have hl := rv.length
    exact wpAny_pyNext_tuple_end (I.ok.hd hc) st (show s.heap.IsTuple a its.toArray from p) (by simp; omega) fun h' eb => ⟨rfl, I.turned (t' := s.toks) (fun b o hb e => eb b o hb e) f0 f1 f3 f4 f5⟩
  self := fun _ _ _ _ _ st h => wpAny_pyIter_tupleiter st h
theorem turn_range {P : Program} {w : World} {K : PySem.W.Frag} {tg : Expr} (it : Addr) (lo : Int) (n : Nat) : Turn P w K tg (Itr lo n) [it] it (fun i h => IsRangeIter h it (lo + (i : Nat) * 1) ((n : Int) - (i : Nat)) 1) where
  mem := by simp
  obj := fun i h st b hb => by
    have e : b = it := by simpa using hb
    subst e
    exact ⟨_, st, fun v z => by
      have z' : Data.fields _ = Data.cell v := z
      cases z'⟩
  keep := fun i h h' st k => k it (by simp) _ st
  item := by
    intro X hP hw hK hc i pins s σ H E I hf st hg
    subst hP hw hK
    obtain ⟨f0, f1, f2, f3, f4, f5⟩ := hf it (by simp)
    have W := Walks.range (prog := X.prog) (w := X.w) (I.ok.hd hc) it lo 1 n
    refine W.item i s _ _ hg st fun v h' tk hv st' kk => ?_
    obtain ⟨t, rfl⟩ := hv
    have I1 : Inv X pins σ H { s with heap := h', toks := tk } := I.turned (fun b o hb e => kk b o (by simpa using hb) e) f0 f1 f3 f4 f5
    refine ⟨_, rfl, go_of (s := { s with heap := h', toks := tk }) (n := "range_iterator") st' rfl rfl (by decide) ⟨.int (lo + i), H, I1, ⟨t, ?_⟩, ⟨rfl, rfl⟩, st', fun b hb => (hf b hb).1⟩⟩
    rw [Int.mul_one]
  done := by
    intro X hP hw hK hc i pins s σ H E I hf st hg
    subst hP hw hK
    obtain ⟨f0, f1, f2, f3, f4, f5⟩ := hf it (by simp)
    exact wpAny_pyNext_range_end (I.ok.hd hc) st (by have : n ≤ i := hg; omega) fun h' eb => ⟨rfl, I.turned (t' := s.toks) (fun b o hb e => eb b o hb e) f0 f1 f3 f4 f5⟩
  self := fun _ _ _ _ _ st h => wpAny_pyIter_rangeiter st h
end L2
namespace L2
open PySem PySem.Spec PyProof.Rows
section
variable {X : Cx} {tg : Expr}
noncomputable def iList (K : PySem.W.Frag) (tl : TE) : TI := fun σ H R => tl σ H fun x H1 => ∃ a, x = .ref a ∧ (∃ xs, SqL K H1 a xs) ∧ R (Itl K a) H1
noncomputable def iTup (K : PySem.W.Frag) (tl : TE) : TI := fun σ H R => tl σ H fun x H1 => ∃ a, x = .ref a ∧ (∃ xs, SqT K H1 a xs) ∧ R (Itt K a) H1
theorem pi_list {l : Expr} {tl : TE} (hl : PE X l tl) : PI X tg l (iList X.K tl) := by
  intro pins s σ H R I h
  refine thn (hl pins s σ H _ I h) fun v s1 ⟨x, H1, I1, r1, q1⟩ => ?_
  obtain ⟨a, e, ⟨xs, hq⟩, q⟩ := q1
  subst e
  cases r1
  obtain ⟨its, rv, p, hz⟩ := I1.list hq
  refine wpAny_pyIter_list p.isList ?_
  refine ⟨s1.heap.objs.size, [s1.heap.objs.size], _, _, H1, rfl, I1.kept (t' := s1.toks) fun b o e => Heap.get?_push_of_some _ e, turn_list a _, ⟨_, Heap.get?_push_size _ rfl, rfl, rfl⟩, fun b hb => ?_, q⟩
  have e : b = s1.heap.objs.size := by simpa using hb
  subst e
  exact I1.fpOk (Nat.le_refl _) (I1.hok.fresh (Nat.le_refl _))
theorem pi_tup {l : Expr} {tl : TE} (hl : PE X l tl) : PI X tg l (iTup X.K tl) := by
  intro pins s σ H R I h
  refine thn (hl pins s σ H _ I h) fun v s1 ⟨x, H1, I1, r1, q1⟩ => ?_
  obtain ⟨a, e, ⟨xs, hq⟩, q⟩ := q1
  subst e
  cases r1
  obtain ⟨its, rv, p, hz⟩ := I1.tuple hq
  refine wpAny_pyIter_tuple (show s1.heap.IsTuple a its.toArray from p) ?_
  refine ⟨s1.heap.objs.size, [s1.heap.objs.size], _, _, H1, rfl, I1.kept (t' := s1.toks) fun b o e => Heap.get?_push_of_some _ e, turn_tuple a _, ⟨_, Heap.get?_push_size _ rfl, rfl, rfl⟩, fun b hb => ?_, q⟩
  have e : b = s1.heap.objs.size := by simpa using hb
  subst e
  exact I1.fpOk (Nat.le_refl _) (I1.hok.fresh (Nat.le_refl _))
theorem range_it {pins : List (Addr × Obj)} {σ : St} {H : Hp} {s : Shared} {R : It → Hp → Prop} {E : Value → Shared → Prop} {lo hi : Int} {t u v : Tok} {tk : Nat} (I : Inv X pins σ H s) (h1 : -(2 ^ 62) ≤ lo) (h2 : lo < 2 ^ 62) (h3 : -(2 ^ 62) ≤ hi) (h4 : hi < 2 ^ 62)
    (q : R (Itr lo (hi - lo).toNat) H) : wpAny (model X.prog X.w) X.A (pyIter (.ref s.heap.objs.size)) (PIE X pins σ tg R) E { s with heap := s.heap.push { cls := .type "range", data := .fields #[.int lo t, .int hi u, .int 1 v] }, toks := tk } := by
  refine wpAny_pyIter_range (IsRange.new ..) (small_one h1 h2 h3 h4) ?_
  have I1 : Inv X pins σ H { s with heap := s.heap.push { cls := .type "range", data := .fields #[.int lo t, .int hi u, .int 1 v] }, toks := tk } := I.kept fun b o e => Heap.get?_push_of_some _ e
  refine ⟨(s.heap.push { cls := .type "range", data := .fields #[.int lo t, .int hi u, .int 1 v] }).objs.size, [(s.heap.push { cls := .type "range", data := .fields #[.int lo t, .int hi u, .int 1 v] }).objs.size], _, _, H, rfl,
    I1.kept (t' := tk) fun b o e => Heap.get?_push_of_some _ e, turn_range _ lo (hi - lo).toNat, ?_, fun b hb => ?_, q⟩
  · have e1 : lo + ((0 : Nat) : Int) * 1 = lo := by simp
    have e2 : (((hi - lo).toNat : Nat) : Int) - ((0 : Nat) : Int) = Builtin.Range.rangeSize lo hi 1 := by rw [rangeSize_one]; split <;> omega
    show IsRangeIter _ _ (lo + ((0 : Nat) : Int) * 1) ((((hi - lo).toNat : Nat) : Int) - ((0 : Nat) : Int)) 1
    rw [e1, e2]
    exact Heap.get?_push_size _ rfl
  · have e : b = (s.heap.push { cls := .type "range", data := .fields #[.int lo t, .int hi u, .int 1 v] }).objs.size := by simpa using hb
    subst e
    exact I1.fpOk (Nat.le_refl _) (I1.hok.fresh (Nat.le_refl _))
noncomputable def iRng1 (ta : TA) : TI := fun σ H R => ta σ H fun vs H1 => ∃ j : Int, vs = [.int j] ∧ -(2 ^ 62) ≤ j ∧ j < 2 ^ 62 ∧ R (Itr 0 j.toNat) H1
noncomputable def iRng2 (ta : TA) : TI := fun σ H R => ta σ H fun vs H1 => ∃ i j : Int, vs = [.int i, .int j] ∧ (-(2 ^ 62) ≤ i ∧ i < 2 ^ 62 ∧ -(2 ^ 62) ≤ j ∧ j < 2 ^ 62) ∧ R (Itr i (j - i).toNat) H1
theorem pi_range1 {a : Expr} {ta : TA} {p pos : Pos} (hg : Gl X "range") (hm : X.mg "range" = none) (ha : PA X [a] ta) (hs : starEach [a] X.env = [(false, eval a X.env)] := by rfl) : PI X tg (.Call (.Name "range" p) [a] [] pos) (iRng1 ta) := by
  intro pins s σ H R I h
  refine Call_ (ld_blt I hg hm boot_range (PyProof.Rows.callWith_type1 (thn (ha pos pins s σ H _ I h) fun us s1 ⟨vs, H1, I1, r1, q1⟩ => ?_) hs rfl))
  obtain ⟨j, e, q1, q2, q⟩ := q1
  subst e
  cases r1 with
  | cons r rr =>
    cases rr
    obtain ⟨t, rfl⟩ := r
    exact call_range_1 (range_it I1 (by omega) (by omega) q1 q2 (by simpa using q))
theorem pi_range2 {a b : Expr} {ta : TA} {p pos : Pos} (hg : Gl X "range") (hm : X.mg "range" = none) (ha : PA X [a, b] ta) (hs : starEach [a, b] X.env = [(false, eval a X.env), (false, eval b X.env)] := by rfl) (hs2 : starEach [b] X.env = [(false, eval b X.env)] := by rfl) :
    PI X tg (.Call (.Name "range" p) [a, b] [] pos) (iRng2 ta) := by
  intro pins s σ H R I h
  refine Call_ (ld_blt I hg hm boot_range (PyProof.Rows.callWith_type1 (thn (ha pos pins s σ H _ I h) fun us s1 ⟨vs, H1, I1, r1, q1⟩ => ?_) (by rw [hs, hs2]) (by rw [hs2]; rfl)))
  obtain ⟨i, j, e, ⟨q1, q2, q3, q4⟩, q⟩ := q1
  subst e
  cases r1 with
  | cons r rr =>
    cases rr with
    | cons r' rr =>
      cases rr
      obtain ⟨t, rfl⟩ := r
      obtain ⟨t', rfl⟩ := r'
      exact call_range_2 (range_it I1 q1 q2 q3 q4 q)
noncomputable def tFor (wi : TI) (g : TG) (tb : TS) : TS := fun D σ H => wi σ H fun J H1 => ∃ W : Nat → Nat → St → Hp → Prop, (∃ m, W 0 m σ H1) ∧ ∀ i m σ H, W i m σ H →
  (J.stop i H ∧ D.nx σ H) ∨ (J.go i H ∧ ∃ N : St → Hp → Prop, (∀ σ' H', N σ' H' → ∃ m', m' < m ∧ W (i + 1) m' σ' H') ∧ ∀ x H', J.yld i H x H' → g x σ H' fun σ2 H2 => tb { D with nx := N, ct := N, bk := D.nx } σ2 H2)
noncomputable def pinsAt (fp : List Addr) (h : Heap) : List (Addr × Obj) := fp.filterMap fun b => (h.get? b).map fun o => (b, o)
theorem mem_pinsAt {fp : List Addr} {h : Heap} {b : Addr} {o : Obj} (hb : b ∈ fp) (e : h.get? b = some o) : (b, o) ∈ pinsAt fp h := List.mem_filterMap.mpr ⟨b, hb, by rw [e]; rfl⟩
theorem of_pinsAt {fp : List Addr} {h : Heap} {p : Addr × Obj} (hp : p ∈ pinsAt fp h) : p.1 ∈ fp ∧ h.get? p.1 = some p.2 := by
  obtain ⟨b, hb, e⟩ := List.mem_filterMap.mp hp
  cases q : h.get? b with
  | none => rw [q] at e; cases e
  | some o =>
    rw [q] at e
    have e' : (b, o) = p := Option.some.inj e
    subst e'
    exact ⟨hb, q⟩
theorem Inv.pinned {pins : List (Addr × Obj)} {σ : St} {H : Hp} {s : Shared} {fp : List Addr} (I : Inv X pins σ H s) (hf : ∀ b ∈ fp, FpOk X pins H b) (ho : ∀ b ∈ fp, ∃ o, s.heap.get? b = some o ∧ ∀ v, o.data ≠ .cell v) : Inv X (pins ++ pinsAt fp s.heap) σ H s :=
  I.pins_of fun p hp => (List.mem_append.mp hp).elim (fun z => I.pin p (List.mem_append_right _ z)) fun z => by
    obtain ⟨hb, e⟩ := of_pinsAt z
    obtain ⟨f0, f1, f2, _⟩ := hf p.1 hb
    obtain ⟨o, e', d⟩ := ho p.1 hb
    rw [e] at e'; cases e'
    exact ⟨e, f0, f1, f2, d⟩
theorem Inv.unpinned {pins pl : List (Addr × Obj)} {σ : St} {H : Hp} {s : Shared} (I : Inv X (pins ++ pl) σ H s) : Inv X pins σ H s := I.pins_of fun p hp => I.pin p (List.mem_append_right _ (List.mem_append_left _ hp))
theorem ps_for {iter : Expr} {body : List Stmt} {wi : TI} {g : TG} {tb : TS} {pos : Pos} (hp : PassesOwn (model X.prog X.w) X.A X.env X.xe) (hc : X.calm = true) (hi : PI X tg iter wi) (hg : PG X tg g) (hb : PSs X body tb)
    (hs : ∀ x, foldedSetIterable iter X.env x = pure x := by intro _; rfl) : PS X (.For tg iter body [] pos) (tFor wi g tb) := by
  intro pins s σ H D I h
  refine wpAny_For (thn (hi pins s σ H _ I h) fun v s1 h1 => thn h1 fun itv s2 h2 => ?_) hs
  obtain ⟨it, fp, tn, J, H2, e, I2, T, st2, f2, W, ⟨m0, w0⟩, turn⟩ := h2
  subst e
  have stat : ∀ {H' : Hp}, (∀ b ∈ fp, H' b = none) → ∀ b ∈ fp, FpOk X pins H' b := fun hn b hb => ⟨hn b hb, (f2 b hb).2⟩
  refine codeAny_forLoop_any (fun n s' => ∃ i σ' H', Inv X pins σ' H' s' ∧ tn i s'.heap ∧ (∀ b ∈ fp, H' b = none) ∧ W i n σ' H') ?_ m0 ⟨0, σ, H2, I2, st2, fun b hb => (f2 b hb).1, w0⟩
  rintro n s3 ⟨i, σ3, H3, I3, st3, fr3, w3⟩
  rcases turn i n σ3 H3 w3 with ⟨stop, qn⟩ | ⟨go, N, hN, step⟩
  · refine wpAny_passesOwn hp (thn (T.done X rfl rfl rfl hc i pins s3 σ3 H3 X.xe I3 (stat fr3) st3 stop) fun r s4 ⟨hr, I4⟩ => ?_)
    subst hr
    exact wpAny_execs_nil ⟨σ3, H3, I4, qn⟩
  · refine wpAny_passesOwn hp (thn (T.item X rfl rfl rfl hc i pins s3 σ3 H3 X.xe I3 (stat fr3) st3 go) fun r s4 ⟨u, hr, h4⟩ => ?_)
    subst hr
    refine wpAny_passesOwn hp (thn h4 fun _ s5 ⟨x, H5, I5, r5, y5, st5, fr5⟩ => ?_)
    have I5' := I5.pinned (stat fr5) (T.obj _ _ st5)
    refine wpAny_passesOwn hp (thn (hg _ s5 σ3 H5 x u _ I5' r5 (step x H5 y5)) fun _ s6 ⟨σ6, H6, I6, q6⟩ => ?_)
    refine wpAny_passesOwn hp (thn (hb _ s6 σ6 H6 _ I6 q6) fun f s7 q7 => ?_)
    have again : ∀ {σ7 : St} {H7 : Hp}, Inv X (pins ++ pinsAt fp s5.heap) σ7 H7 s7 → N σ7 H7 → ∃ m, m < n ∧ ∃ i σ' H', Inv X pins σ' H' s7 ∧ tn i s7.heap ∧ (∀ b ∈ fp, H' b = none) ∧ W i m σ' H' := fun {σ7 H7} I7 n7 => by
      obtain ⟨m', hm, w7⟩ := hN σ7 H7 n7
      refine ⟨m', hm, i + 1, σ7, H7, I7.unpinned, T.keep _ _ _ st5 fun b hb o e => (I7.pin (b, o) (List.mem_append_right _ (List.mem_append_right _ (mem_pinsAt hb e)))).1, fun b hb => ?_, w7⟩
      obtain ⟨o, e, d⟩ := T.obj _ _ st5 b hb
      exact (I7.pin (b, o) (List.mem_append_right _ (List.mem_append_right _ (mem_pinsAt hb e)))).2.1
    cases f with
    | next => obtain ⟨σ7, H7, I7, n7⟩ := q7; exact again I7 n7
    | cont => obtain ⟨σ7, H7, I7, n7⟩ := q7; exact again I7 n7
    | brk => obtain ⟨σ7, H7, I7, q7⟩ := q7; exact ⟨σ7, H7, I7.unpinned, q7⟩
    | ret v => obtain ⟨x7, σ7, H7, I7, r7, q7⟩ := q7; exact ⟨x7, σ7, H7, I7.unpinned, r7, q7⟩
end
theorem for_list {K : PySem.W.Frag} {a : Addr} {xs : List V} {g : TG} {tb : TS} {D : Ends} {σ : St} {H : Hp} (Pv : Nat → St → Hp → Prop) (h0 : Pv 0 σ H) (hl : ∀ i σ H, i ≤ xs.length → Pv i σ H → SqL K H a xs)
    (hs : ∀ i x σ H, xs[i]? = some x → Pv i σ H → g x σ H fun σ2 H2 => tb { D with nx := Pv (i + 1), ct := Pv (i + 1), bk := D.nx } σ2 H2) (hd : ∀ σ H, Pv xs.length σ H → D.nx σ H) :
    ∃ W : Nat → Nat → St → Hp → Prop, (∃ m, W 0 m σ H) ∧ ∀ i m σ H, W i m σ H →
      ((Itl K a).stop i H ∧ D.nx σ H) ∨ ((Itl K a).go i H ∧ ∃ N : St → Hp → Prop, (∀ σ' H', N σ' H' → ∃ m', m' < m ∧ W (i + 1) m' σ' H') ∧ ∀ x H', (Itl K a).yld i H x H' → g x σ H' fun σ2 H2 => tb { D with nx := N, ct := N, bk := D.nx } σ2 H2) := by
  refine ⟨fun i m σ H => m = xs.length - i ∧ i ≤ xs.length ∧ Pv i σ H, ⟨xs.length, by simp, Nat.zero_le _, h0⟩, ?_⟩
  rintro i m σ H ⟨rfl, hi, p⟩
  have q := hl i σ H hi p
  by_cases hlt : i < xs.length
  · refine .inr ⟨⟨xs, xs[i], q, by simp [hlt]⟩, Pv (i + 1), fun σ' H' p' => ⟨xs.length - (i + 1), by omega, rfl, hlt, p'⟩, fun x H' y => ?_⟩
    obtain ⟨e, y⟩ := y
    subst e
    exact hs i x σ _ (y xs q) p
  · have e : i = xs.length := by omega
    subst e
    exact .inl ⟨⟨xs, q, Nat.le_refl _⟩, hd σ H p⟩
theorem for_tup {K : PySem.W.Frag} {a : Addr} {xs : List V} {g : TG} {tb : TS} {D : Ends} {σ : St} {H : Hp} (Pv : Nat → St → Hp → Prop) (h0 : Pv 0 σ H) (hl : ∀ i σ H, i ≤ xs.length → Pv i σ H → SqT K H a xs)
    (hs : ∀ i x σ H, xs[i]? = some x → Pv i σ H → g x σ H fun σ2 H2 => tb { D with nx := Pv (i + 1), ct := Pv (i + 1), bk := D.nx } σ2 H2) (hd : ∀ σ H, Pv xs.length σ H → D.nx σ H) :
    ∃ W : Nat → Nat → St → Hp → Prop, (∃ m, W 0 m σ H) ∧ ∀ i m σ H, W i m σ H →
      ((Itt K a).stop i H ∧ D.nx σ H) ∨ ((Itt K a).go i H ∧ ∃ N : St → Hp → Prop, (∀ σ' H', N σ' H' → ∃ m', m' < m ∧ W (i + 1) m' σ' H') ∧ ∀ x H', (Itt K a).yld i H x H' → g x σ H' fun σ2 H2 => tb { D with nx := N, ct := N, bk := D.nx } σ2 H2) := by
  refine ⟨fun i m σ H => m = xs.length - i ∧ i ≤ xs.length ∧ Pv i σ H, ⟨xs.length, by simp, Nat.zero_le _, h0⟩, ?_⟩
  rintro i m σ H ⟨rfl, hi, p⟩
  have q := hl i σ H hi p
  by_cases hlt : i < xs.length
  · refine .inr ⟨⟨xs, xs[i], q, by simp [hlt]⟩, Pv (i + 1), fun σ' H' p' => ⟨xs.length - (i + 1), by omega, rfl, hlt, p'⟩, fun x H' y => ?_⟩
    obtain ⟨e, y⟩ := y
    subst e
    exact hs i x σ _ (y xs q) p
  · have e : i = xs.length := by omega
    subst e
    exact .inl ⟨⟨xs, q, Nat.le_refl _⟩, hd σ H p⟩
theorem for_range {lo : Int} {n : Nat} {g : TG} {tb : TS} {D : Ends} {σ : St} {H : Hp} (Pv : Nat → St → Hp → Prop) (h0 : Pv 0 σ H)
    (hs : ∀ i σ H, i < n → Pv i σ H → g (.int (lo + i)) σ H fun σ2 H2 => tb { D with nx := Pv (i + 1), ct := Pv (i + 1), bk := D.nx } σ2 H2) (hd : ∀ σ H, Pv n σ H → D.nx σ H) :
    ∃ W : Nat → Nat → St → Hp → Prop, (∃ m, W 0 m σ H) ∧ ∀ i m σ H, W i m σ H →
      ((Itr lo n).stop i H ∧ D.nx σ H) ∨ ((Itr lo n).go i H ∧ ∃ N : St → Hp → Prop, (∀ σ' H', N σ' H' → ∃ m', m' < m ∧ W (i + 1) m' σ' H') ∧ ∀ x H', (Itr lo n).yld i H x H' → g x σ H' fun σ2 H2 => tb { D with nx := N, ct := N, bk := D.nx } σ2 H2) := by
  refine ⟨fun i m σ H => m = n - i ∧ i ≤ n ∧ Pv i σ H, ⟨n, by simp, Nat.zero_le _, h0⟩, ?_⟩
  rintro i m σ H ⟨rfl, hi, p⟩
  by_cases hlt : i < n
  · refine .inr ⟨hlt, Pv (i + 1), fun σ' H' p' => ⟨n - (i + 1), by omega, rfl, hlt, p'⟩, fun x H' y => ?_⟩
    obtain ⟨e, y⟩ := y
    subst e y
    exact hs i σ _ hlt p
  · have e : i = n := by omega
    subst e
    exact .inl ⟨Nat.le_refl _, hd σ H p⟩
theorem while_by {c : TT} {tb : TS} {D : Ends} {σ : St} {H : Hp} (Pv : St → Hp → Prop) (μ : St → Hp → Nat) (h0 : Pv σ H)
    (hs : ∀ σ H, Pv σ H → c σ H fun b H1 => if b = true then tb { D with nx := fun σ' H' => Pv σ' H' ∧ μ σ' H' < μ σ H, ct := fun σ' H' => Pv σ' H' ∧ μ σ' H' < μ σ H, bk := D.nx } σ H1 else D.nx σ H1)
    (mono : ∀ σ H Q Q', (∀ b H1, Q b H1 → Q' b H1) → c σ H Q → c σ H Q') : tWhile c tb D σ H := by
  refine ⟨fun m σ H => m = μ σ H ∧ Pv σ H, ⟨_, rfl, h0⟩, ?_⟩
  rintro m σ H ⟨rfl, p⟩
  refine mono σ H _ _ (fun b H1 q => ?_) (hs σ H p)
  cases b with
  | true => exact ⟨_, fun σ' H' ⟨p', l⟩ => ⟨_, l, rfl, p'⟩, q⟩
  | false => exact q
end L2
namespace L2
open PySem PySem.Spec PyProof.Rows
noncomputable abbrev R2 := V → V → Hp → VK → Prop
noncomputable def OpR (X : Cx) (f : Value → Value → Sem Value) (r : R2) : Prop :=
  ∀ (pins : List (Addr × Obj)) (s : Shared) (σ : St) (H : Hp) (x y : V) (v u : Value) (Q : VK), Inv X pins σ H s → RelV x v → RelV y u → r x y H Q →
    wpAny (model X.prog X.w) X.A (f v u) (EP X pins σ Q) X.xe s
noncomputable def CallR (X : Cx) (f : Value) (r : List V → Hp → VK → Prop) : Prop :=
  ∀ (pins : List (Addr × Obj)) (s : Shared) (σ : St) (H : Hp) (xs : List V) (us : List Value) (Q : VK), Inv X pins σ H s → Vals xs us → r xs H Q →
    wpAny (model X.prog X.w) X.A (call f us) (EP X pins σ Q) X.xe s
noncomputable def TruR (X : Cx) (r : V → Hp → (Bool → Hp → Prop) → Prop) : Prop :=
  ∀ (pins : List (Addr × Obj)) (s : Shared) (σ : St) (H : Hp) (x : V) (v : Value) (Q : Bool → Hp → Prop), Inv X pins σ H s → RelV x v → r x H Q →
    wpAny (model X.prog X.w) X.A (truthy v) (TP X pins σ Q) X.xe s
noncomputable def tOp (r : R2) (ta tb : TE) : TE := fun σ H Q => ta σ H fun x H1 => tb σ H1 fun y H2 => r x y H2 Q
noncomputable def rI (C : Int → Int → Prop) (g : Int → Int → V) : R2 := fun x y H Q => ∃ i j, x = .int i ∧ y = .int j ∧ C i j ∧ Q (g i j) H
noncomputable def rI0 (g : Int → Int → V) : R2 := fun x y H Q => ∃ i j, x = .int i ∧ y = .int j ∧ Q (g i j) H
section
variable {X : Cx} {a b c : Expr} {ta tb tc : TE} {pos : Pos}
theorem binT (ha : PE X a ta) (hb : PE X b tb) {pins : List (Addr × Obj)} {s : Shared} {σ : St} {H : Hp} {R : V → V → Hp → Prop} (I : Inv X pins σ H s)
    (h : ta σ H fun x H1 => tb σ H1 fun y H2 => R x y H2) {Q : Value → Shared → Prop} {f : Value → Value → Sem Value}
    (hf : ∀ v u s2 x y H2, Inv X pins σ H2 s2 → RelV x v → RelV y u → R x y H2 → wpAny (model X.prog X.w) X.A (f v u) Q X.xe s2) :
    wpAny (model X.prog X.w) X.A (eval a X.env) (fun v s₁ => wpAny (model X.prog X.w) X.A (eval b X.env) (fun u s₂ => wpAny (model X.prog X.w) X.A (f v u) Q X.xe s₂) X.xe s₁) X.xe s := by
  refine thn (ha pins s σ H _ I h) fun v s1 ⟨x, H1, I1, r1, q1⟩ => ?_
  refine thn (hb pins s1 σ H1 _ I1 q1) fun u s2 ⟨y, H2, I2, r2, q2⟩ => ?_
  exact hf v u s2 x y H2 I2 r1 r2 q2
theorem pe_op {op : Operator} {r : R2} (ho : OpR X (binaryOp op) r) (ha : PE X a ta) (hb : PE X b tb) : PE X (.BinOp a op b pos) (tOp r ta tb) := by
  intro pins s σ H Q I h
  exact wpAny_BinOp (binT ha hb I h fun v u s2 x y H2 I2 rx ry q => ho pins s2 σ H2 x y v u Q I2 rx ry q)
theorem opI {f : Value → Value → Sem Value} {C : Int → Int → Prop} {g : Int → Int → Int}
    (rule : ∀ (i j : Int) (t u : Tok) (s : Shared) (Q : Value → Shared → Prop) (E : Value → Shared → Prop), C i j → Q (.int (g i j) s.toks) { s with toks := s.toks + 1 } → wpAny (model X.prog X.w) X.A (f (.int i t) (.int j u)) Q E s) :
    OpR X f (rI C fun i j => .int (g i j)) := by
  intro pins s σ H x y v u Q I rx ry h
  obtain ⟨i, j, rfl, rfl, hc, q⟩ := h
  obtain ⟨t, rfl⟩ := rx
  obtain ⟨t', rfl⟩ := ry
  exact rule i j t t' s _ _ hc ⟨.int (g i j), H, I.tok _, ⟨_, rfl⟩, q⟩
theorem opI0 {f : Value → Value → Sem Value} {g : Int → Int → Int}
    (rule : ∀ (i j : Int) (t u : Tok) (s : Shared) (Q : Value → Shared → Prop) (E : Value → Shared → Prop), Q (.int (g i j) s.toks) { s with toks := s.toks + 1 } → wpAny (model X.prog X.w) X.A (f (.int i t) (.int j u)) Q E s) :
    OpR X f (rI0 fun i j => .int (g i j)) := by
  intro pins s σ H x y v u Q I rx ry h
  obtain ⟨i, j, rfl, rfl, q⟩ := h
  obtain ⟨t, rfl⟩ := rx
  obtain ⟨t', rfl⟩ := ry
  exact rule i j t t' s _ _ ⟨.int (g i j), H, I.tok _, ⟨_, rfl⟩, q⟩
theorem opB0 {f : Value → Value → Sem Value} {g : Int → Int → Bool}
    (rule : ∀ (i j : Int) (t u : Tok) (s : Shared) (Q : Value → Shared → Prop) (E : Value → Shared → Prop), Q (.bool (g i j)) s → wpAny (model X.prog X.w) X.A (f (.int i t) (.int j u)) Q E s) :
    OpR X f (rI0 fun i j => .bl (g i j)) := by
  intro pins s σ H x y v u Q I rx ry h
  obtain ⟨i, j, rfl, rfl, q⟩ := h
  obtain ⟨t, rfl⟩ := rx
  obtain ⟨t', rfl⟩ := ry
  exact rule i j t t' s _ _ ⟨.bl (g i j), H, I, rfl, q⟩
noncomputable def CDiv (i j : Int) : Prop := 0 < j ∧ j < 1073741824
noncomputable def CPow (i j : Int) : Prop := 0 ≤ j ∧ j ≤ 1000000 ∧ i.natAbs < 2 ^ 64
noncomputable def CMul (i j : Int) : Prop := (-(2 ^ 64) < i ∧ i < 2 ^ 64) ∨ (-(2 ^ 64) < j ∧ j < 2 ^ 64)
theorem CMul.ok {i j : Int} (h : CMul i j) : IntMulOk i j := by
  rcases h with ⟨h1, h2⟩ | ⟨h1, h2⟩
  · exact .of_left (intBits_le_64 h1 h2)
  · exact .of_right (intBits_le_64 h1 h2)
theorem two_pow_nn (k : Nat) : (0 : Int) ≤ 2 ^ k := by
  rw [two_pow_cast]
  exact Int.natCast_nonneg _
theorem op_add : OpR X (binaryOp .Add) (rI0 fun i j => .int (i + j)) := opI0 fun _ _ _ _ _ _ _ q => add_int q
theorem op_sub : OpR X (binaryOp .Sub) (rI0 fun i j => .int (i - j)) := opI0 fun _ _ _ _ _ _ _ q => sub_int q
theorem op_mul : OpR X (binaryOp .Mult) (rI CMul fun i j => .int (i * j)) := opI fun _ _ _ _ _ _ _ hc q => mul_int q hc.ok
theorem op_fdiv : OpR X (binaryOp .FloorDiv) (rI CDiv fun i j => .int (i / j)) := opI fun i j _ _ _ _ _ hc q => by
  have h1 : (0 : Int) < j := hc.1
  have h2 : j < 1073741824 := hc.2
  exact floordiv_int (by omega) (by rw [Int.fdiv_eq_ediv_of_nonneg i (by omega)]; exact q) (.inl (PyProof.noPylong_small (by omega)))
theorem op_mod : OpR X (binaryOp .Mod) (rI (fun _ j => 0 < j) fun i j => .int (i % j)) := opI fun i j _ _ _ _ _ hc q => by
  have h1 : (0 : Int) < j := hc
  exact mod_int' (by omega) (by rw [Int.fmod_eq_emod_of_nonneg i (by omega)]; exact q)
theorem op_shl : OpR X (binaryOp .LShift) (rI CPow fun i j => .int (i * 2 ^ j.toNat)) := opI fun _ _ _ _ _ _ _ hc q => lshift_int_small hc.1 hc.2.1 hc.2.2 q
theorem op_shr : OpR X (binaryOp .RShift) (rI (fun _ j => 0 ≤ j) fun i j => .int (i / 2 ^ j.toNat)) := opI fun i j _ _ _ _ _ hc q =>
  rshift_int hc (by rw [Int.fdiv_eq_ediv_of_nonneg i (two_pow_nn _)]; exact q)
theorem op_and : OpR X (binaryOp .BitAnd) (rI0 fun i j => .int (Builtin.bitAnd i j)) := opI0 fun _ _ _ _ _ _ _ q => and_int q
end
noncomputable def scal : V → V → Bool
  | .non, .non => true | .non, .int _ => true | .int _, .non => true | .non, .bl _ => true | .bl _, .non => true | .non, .str _ => true | .str _, .non => true
  | .int _, .int _ => true | .bl _, .bl _ => true | .str _, .str _ => true | .byt _, .byt _ => true
  | .int _, .str _ => true | .str _, .int _ => true | .bl _, .str _ => true | .str _, .bl _ => true
  | _, _ => false
noncomputable def rEq : R2 := fun x y H Q => scal x y = true ∧ Q (.bl (decide (x = y))) H
noncomputable def rNe : R2 := fun x y H Q => scal x y = true ∧ Q (.bl (!decide (x = y))) H
theorem dec_int {i j : Int} : decide (V.int i = V.int j) = (i == j) := by
  rw [Bool.eq_iff_iff]
  simp
theorem dec_bl {i j : Bool} : decide (V.bl i = V.bl j) = (i == j) := by
  rw [Bool.eq_iff_iff]
  simp
theorem dec_str {i j : Str} : decide (V.str i = V.str j) = (i == j) := by
  rw [Bool.eq_iff_iff]
  simp
theorem dec_byt {i j : Array UInt8} : decide (V.byt i = V.byt j) = (i.toList == j.toList) := by
  rw [Bool.eq_iff_iff]
  cases i
  cases j
  simp
section
variable {X : Cx} {a b c : Expr} {ta tb tc : TE} {pos : Pos}
theorem fin_bl {pins : List (Addr × Obj)} {σ : St} {H : Hp} {s : Shared} {Q : VK} {k k' : Bool} (I : Inv X pins σ H s) (q : Q (.bl k) H) (e : k = k') : EP X pins σ Q (.bool k') s := by
  subst e
  exact ⟨.bl k, H, I, rfl, q⟩
theorem op_eq : OpR X (compareOp .Eq) rEq := by
  intro pins s σ H x y v u Q I rx ry h
  obtain ⟨hs, q⟩ := h
  cases x with
  | non =>
    cases rx
    cases y with
    | non => cases ry; exact PySem.EqNone.eq_none_none (fin_bl I q (by simp))
    | bl j => cases ry; exact PySem.EqNone.eq_none_bool (fin_bl I q (by simp))
    | int j => obtain ⟨t', rfl⟩ := ry; exact PySem.EqNone.eq_none_int (fin_bl I q (by simp))
    | str j => obtain ⟨t', rfl⟩ := ry; exact PySem.EqNone.eq_none_str (fin_bl I q (by simp))
    | _ => exact absurd (show false = true from hs) Bool.false_ne_true
  | bl i =>
    cases rx
    cases y with
    | non => cases ry; exact PySem.EqNone.eq_bool_none (fin_bl I q (by simp))
    | bl j => cases ry; exact eq_bool (fin_bl I q dec_bl)
    | str j => obtain ⟨t', rfl⟩ := ry; exact PySem.EqMixed.eq_bool_str (fin_bl I q (by simp))
    | _ => exact absurd (show false = true from hs) Bool.false_ne_true
  | int i =>
    obtain ⟨t, rfl⟩ := rx
    cases y with
    | non => cases ry; exact PySem.EqNone.eq_int_none (fin_bl I q (by simp))
    | int j => obtain ⟨t', rfl⟩ := ry; exact eq_int (fin_bl I q dec_int)
    | str j => obtain ⟨t', rfl⟩ := ry; exact PySem.EqMixed.eq_int_str (fin_bl I q (by simp))
    | _ => exact absurd (show false = true from hs) Bool.false_ne_true
  | str i =>
    obtain ⟨t, rfl⟩ := rx
    cases y with
    | non => cases ry; exact PySem.EqNone.eq_str_none (fin_bl I q (by simp))
    | bl j => cases ry; exact PySem.EqMixed.eq_str_bool (fin_bl I q (by simp))
    | int j => obtain ⟨t', rfl⟩ := ry; exact PySem.EqMixed.eq_str_int (fin_bl I q (by simp))
    | str j => obtain ⟨t', rfl⟩ := ry; exact eq_str (fin_bl I q dec_str)
    | _ => exact absurd (show false = true from hs) Bool.false_ne_true
  | byt i =>
    obtain ⟨t, rfl⟩ := rx
    cases y with
    | byt j => obtain ⟨t', rfl⟩ := ry; exact PySem.W.eq_bytes (fin_bl I q dec_byt)
    | _ => exact absurd (show false = true from hs) Bool.false_ne_true
  | _ => cases y <;> exact absurd (show false = true from hs) Bool.false_ne_true
theorem op_ne : OpR X (compareOp .NotEq) rNe := by
  intro pins s σ H x y v u Q I rx ry h
  obtain ⟨hs, q⟩ := h
  cases x with
  | non =>
    cases rx
    cases y with
    | non => cases ry; exact PySem.EqNone.ne_none_none (fin_bl I q (by simp))
    | bl j => cases ry; exact PySem.EqNone.ne_none_bool (fin_bl I q (by simp))
    | int j => obtain ⟨t', rfl⟩ := ry; exact PySem.EqNone.ne_none_int (fin_bl I q (by simp))
    | str j => obtain ⟨t', rfl⟩ := ry; exact PySem.EqNone.ne_none_str (fin_bl I q (by simp))
    | _ => exact absurd (show false = true from hs) Bool.false_ne_true
  | bl i =>
    cases rx
    cases y with
    | non => cases ry; exact PySem.EqNone.ne_bool_none (fin_bl I q (by simp))
    | bl j => cases ry; exact ne_bool (fin_bl I q (congrArg not dec_bl))
    | str j => obtain ⟨t', rfl⟩ := ry; exact PySem.EqMixed.ne_bool_str (fin_bl I q (by simp))
    | _ => exact absurd (show false = true from hs) Bool.false_ne_true
  | int i =>
    obtain ⟨t, rfl⟩ := rx
    cases y with
    | non => cases ry; exact PySem.EqNone.ne_int_none (fin_bl I q (by simp))
    | int j => obtain ⟨t', rfl⟩ := ry; exact ne_int (fin_bl I q (congrArg not dec_int))
    | str j => obtain ⟨t', rfl⟩ := ry; exact PySem.EqMixed.ne_int_str (fin_bl I q (by simp))
    | _ => exact absurd (show false = true from hs) Bool.false_ne_true
  | str i =>
    obtain ⟨t, rfl⟩ := rx
    cases y with
    | non => cases ry; exact PySem.EqNone.ne_str_none (fin_bl I q (by simp))
    | bl j => cases ry; exact PySem.EqMixed.ne_str_bool (fin_bl I q (by simp))
    | int j => obtain ⟨t', rfl⟩ := ry; exact PySem.EqMixed.ne_str_int (fin_bl I q (by simp))
    | str j => obtain ⟨t', rfl⟩ := ry; exact ne_str (fin_bl I q (congrArg not dec_str))
    | _ => exact absurd (show false = true from hs) Bool.false_ne_true
  | byt i =>
    obtain ⟨t, rfl⟩ := rx
    cases y with
    | byt j => obtain ⟨t', rfl⟩ := ry; exact PySem.W.ne_bytes (fin_bl I q (congrArg not dec_byt))
    | _ => exact absurd (show false = true from hs) Bool.false_ne_true
  | _ => cases y <;> exact absurd (show false = true from hs) Bool.false_ne_true
theorem op_lt : OpR X (compareOp .Lt) (rI0 fun i j => .bl (decide (i < j))) := opB0 fun _ _ _ _ _ _ _ q => lt_int q
theorem op_le : OpR X (compareOp .LtE) (rI0 fun i j => .bl (decide (i ≤ j))) := opB0 fun _ _ _ _ _ _ _ q => le_int q
theorem op_gt : OpR X (compareOp .Gt) (rI0 fun i j => .bl (decide (j < i))) := opB0 fun _ _ _ _ _ _ _ q => gt_int q
theorem nomark (b : Expr) {op : CmpOp} (h : op ≠ .In := by decide) (h2 : op ≠ .NotIn := by decide) : behindInMarks op b = false := by
  have e1 : (op == CmpOp.In) = false := by cases op <;> first | rfl | exact absurd rfl h
  have e2 : (op == CmpOp.NotIn) = false := by cases op <;> first | rfl | exact absurd rfl h2
  cases b <;> simp [behindInMarks, e1, e2]
theorem pe_cmpR {op : CmpOp} {r : R2} (ho : OpR X (compareOp op) r) (ha : PE X a ta) (hb : PE X b tb) (hm : behindInMarks op b = false) : PE X (.Compare a [op] [b] pos) (tOp r ta tb) := by
  intro pins s σ H Q I h
  exact wpAny_Compare1 (binT ha hb I h fun v u s2 x y H2 I2 rx ry q => ho pins s2 σ H2 x y v u Q I2 rx ry q) hm
noncomputable def tTest (t : TE) : TT := fun σ H Q => t σ H fun x H' => ∃ k, x = .bl k ∧ Q k H'
theorem pt_cmpR {op : CmpOp} {r : R2} (ho : OpR X (compareOp op) r) (ha : PE X a ta) (hb : PE X b tb) (hm : behindInMarks op b = false) : PT X (.Compare a [op] [b] pos) (tTest (tOp r ta tb)) := by
  intro pins s σ H Q I h
  refine wpAny_isTrue_Compare1 (thn (ha pins s σ H _ I h) fun v s1 ⟨x, H1, I1, r1, q1⟩ => thn (hb pins s1 σ H1 _ I1 q1) fun u s2 ⟨y, H2, I2, r2, q2⟩ =>
    thn (ho pins s2 σ H2 x y v u _ I2 r1 r2 q2) fun c s3 ⟨z, H3, I3, r3, k, e, q3⟩ => ?_) hm
  subst e
  cases r3
  exact wpAny_truthy_bool ⟨H3, I3, q3⟩
noncomputable def TruV (K : PySem.W.Frag) (x : V) (H : Hp) (k : Bool) : Prop :=
  match x with
  | .non => k = false
  | .bl b => k = b
  | .int i => k = (i != 0)
  | .str y => y.length ≤ sizeLine ∧ k = ((y.length : Int) != 0)
  | .byt y => y.size ≤ sizeLine ∧ k = ((y.size : Int) != 0)
  | .ref p => (∃ xs, SqL K H p xs ∧ k = !xs.isEmpty) ∨ (∃ xs, SqT K H p xs ∧ k = !xs.isEmpty) ∨ ∃ kvs, H p = some (.dK kvs) ∧ k = !kvs.isEmpty
  | _ => False
theorem isEmpty_kv {κ : Type} {kvs : List (κ × V)} {vs : List (κ × Value)} (r : KV kvs vs) : (!vs.isEmpty) = !kvs.isEmpty := by
  cases r <;> rfl
theorem isEmpty_of {xs : List V} {its : List Value} (r : Vals xs its) : (!its.toArray.isEmpty) = !xs.isEmpty := by
  cases r <;> simp
theorem line63 : (sizeLine : Nat) < 2 ^ 63 := by rw [sizeLine_eq]; decide
theorem tru_ok : TruR X (fun x H Q => ∃ k, TruV X.K x H k ∧ Q k H) := by
  intro pins s σ H x v Q I rx h
  obtain ⟨k, e, q⟩ := h
  have hl := line63
  have hs : sizeLine = 16777216 := sizeLine_eq
  cases x with
  | non =>
    cases rx
    have e' : k = false := e
    subst e'
    exact truthy_none ⟨H, I, q⟩
  | bl b =>
    cases rx
    have e' : k = b := e
    subst e'
    exact wpAny_truthy_bool ⟨H, I, q⟩
  | int i =>
    obtain ⟨t, rfl⟩ := rx
    have e' : k = (i != 0) := e
    subst e'
    exact PySem.P.truthy_int ⟨H, I, q⟩
  | str y =>
    obtain ⟨t, rfl⟩ := rx
    obtain ⟨hy, e'⟩ : y.length ≤ sizeLine ∧ k = ((y.length : Int) != 0) := e
    subst e'
    exact PySem.P.truthy_str (by omega) ⟨H, I.tok _, q⟩
  | byt y =>
    obtain ⟨t, rfl⟩ := rx
    obtain ⟨hy, e'⟩ : y.size ≤ sizeLine ∧ k = ((y.size : Int) != 0) := e
    subst e'
    exact PySem.W.truthy_bytes (by omega) ⟨H, I.tok _, q⟩
  | ref p =>
    cases rx
    have e' : (∃ xs, SqL X.K H p xs ∧ k = !xs.isEmpty) ∨ (∃ xs, SqT X.K H p xs ∧ k = !xs.isEmpty) ∨ ∃ kvs, H p = some (.dK kvs) ∧ k = !kvs.isEmpty := e
    rcases e' with ⟨xs, hx, e'⟩ | ⟨xs, hx, e'⟩ | ⟨kvs, hx, e'⟩
    · subst e'
      obtain ⟨its, r, pl, hz⟩ := I.list hx
      have hlen := r.length
      exact wpAny_truthy_list pl.isList (by simp only [List.size_toArray]; omega) ⟨H, I.tok _, by rw [isEmpty_of r]; exact q⟩
    · subst e'
      obtain ⟨its, r, pl, hz⟩ := I.tuple hx
      have hlen := r.length
      exact truthy_tuple pl (by simp only [List.size_toArray]; omega) ⟨H, I.tok _, by rw [isEmpty_of r]; exact q⟩
    · subst e'
      obtain ⟨hz, hS, vs, r, m⟩ : kvs.length ≤ sizeLine ∧ (p == sysModules) = false ∧ ∃ vs, KV kvs vs ∧ s.heap.DictOf (mixKind X.prog X.w) p vs := I.hok p _ hx
      have hlen : kvs.length = vs.length := Paired.length r
      exact wpAny_truthy_dict hS m (by omega) ⟨H, I.tok _, by rw [isEmpty_kv r]; exact q⟩
  | _ => exact (show False from e).elim
theorem pt_truth (ha : PE X a ta) (he : ∀ whole, isTrue a X.env whole = (do let v ← whole; standAt a.pos; holding [v] (truthy v))) :
    PT X a (fun σ H Q => ta σ H fun x H' => ∃ k, TruV X.K x H' k ∧ Q k H') := by
  intro pins s σ H Q I h
  exact isTrue_plain (thn (ha pins s σ H _ I h) fun v s1 ⟨x, H1, I1, r1, q1⟩ => tru_ok pins s1 σ H1 x v Q I1 r1 q1) (he _)
theorem op_add_str : OpR X (binaryOp .Add) (fun x y H Q => ∃ i j, x = .str i ∧ y = .str j ∧ i.length + j.length ≤ sizeLine ∧ Q (.str (i ++ j)) H) := by
  intro pins s σ H x y v u Q I rx ry h
  obtain ⟨i, j, rfl, rfl, hz, q⟩ := h
  obtain ⟨t, rfl⟩ := rx
  obtain ⟨t', rfl⟩ := ry
  exact add_str (fun t' tk => ⟨.str (i ++ j), H, I.tok _, ⟨_, rfl⟩, q⟩) hz
theorem vals1 {x : V} {us : List Value} (r : Vals [x] us) : ∃ u, us = [u] ∧ RelV x u := by
  cases r with
  | cons r1 r2 => cases r2; exact ⟨_, rfl, r1⟩
theorem vals2 {x y : V} {us : List Value} (r : Vals [x, y] us) : ∃ u w', us = [u, w'] ∧ RelV x u ∧ RelV y w' := by
  cases r with
  | cons r1 r2 =>
    cases r2 with
    | cons r3 r4 => cases r4; exact ⟨_, _, rfl, r1, r3⟩
theorem call_min2 (hc : X.calm = true) : CallR X (.builtin "min") (fun xs H Q => ∃ i j, xs = [.int i, .int j] ∧ Q (.int (if j < i then j else i)) H) := by
  intro pins s σ H xs us Q I r h
  obtain ⟨i, j, rfl, q⟩ := h
  obtain ⟨u, w', rfl, ⟨t, rfl⟩, ⟨t', rfl⟩⟩ := vals2 r
  refine min_two_ints (I.ok.hd hc) fun h' tk k => ⟨_, H, I.kept k, ?_, q⟩
  by_cases hj : j < i
  · rw [if_pos hj, if_pos hj]; exact ⟨_, rfl⟩
  · rw [if_neg hj, if_neg hj]; exact ⟨_, rfl⟩
end
end L2
namespace L2
open PySem PySem.Spec PyProof.Rows
structure ObjM (h : Heap) (x dx C : Addr) (mA : Str → Option Value) : Prop where
  obj : h.get? x = some (PySem.W.instObj C dx)
  ns : h.Ns1 dx mA
  ne : dx ≠ x
theorem lookIn_ns {h : Heap} {dx : Addr} {mA : Str → Option Value} (n : h.Ns1 dx mA) : ∃ od, h.get? dx = some od ∧ ∀ name, PySem.W.lookIn name od = some (mA name) := by
  obtain ⟨o, es, ep, ho, hd, hk, _, hm⟩ := n
  refine ⟨o, ho, fun name => ?_⟩
  have e := hm name
  unfold nsFind findBy at e
  rw [← Array.find?_toList] at e
  unfold PySem.W.lookIn
  rw [hd]
  dsimp only
  split
  · rename_i y q
    rw [q] at e
    exact congrArg some e
  · rename_i q
    rw [q] at e
    have a : es.toList.any (·.refKey) = false := by
      rw [List.any_eq_false]
      intro y hy
      obtain ⟨z, t, hkey⟩ := hk y (Array.mem_toList_iff.mp hy)
      simp [DictEntry.refKey, hkey]
    have a' : ¬ es.toList.any (·.refKey) = true := by rw [a]; exact Bool.false_ne_true
    rw [if_neg a']
    exact congrArg some e
theorem ObjM.look {h : Heap} {x dx C : Addr} {mA : Str → Option Value} (I : ObjM h x dx C mA) : ∃ od, PySem.W.InstAt h x (PySem.W.instObj C dx) C (some od) ∧ ∀ name, PySem.W.lookIn name od = some (mA name) :=
  let ⟨od, ho, hl⟩ := lookIn_ns I.ns
  ⟨od, ⟨I.obj, rfl, rfl, ho⟩, hl⟩
section
variable {prog : Program} {w : World} {A : Around} {E : Value → Shared → Prop} {s : Shared} {K : PySem.W.Frag} {x dx C f : Addr} {mA : Str → Option Value} {name : Str} {v : Value}
end
theorem RelO.some_of {v : V} {o : Option Value} (r : RelO (some v) o) : ∃ u, o = some u ∧ RelV v u := by
  cases o with
  | none => exact (show False from r).elim
  | some u => exact ⟨u, rfl, r⟩
section
variable {P : Program} {w : World} {H H' : Hp} {h h' : Heap} {a C dx : Addr} {fs fs' : List (Str × V)}
theorem ins_get (hok : HOk P w H h) (e : H a = some (.ins C dx fs)) : ∃ mA, ObjM h a dx C mA ∧ (∀ f, RelO (fs.lookup f) (mA f)) ∧ PySem.Within mA (fs.map (·.1)) ∧ fs.length ≤ 1000 ∧ H dx = some (.own a) := by
  obtain ⟨d, z, ne, ob, mA, n, r, q⟩ := (show ObjOk P w H h a (.ins C dx fs) from hok a _ e)
  exact ⟨mA, ⟨ob, n, ne⟩, r, q, z, d⟩
end
structure Cls (K : PySem.W.Frag) (C : Addr) : Prop where
  pg : PySem.W.plainGet K C Str.empty = true
  hd : PySem.W.hasDictIn K C = true
  po : PySem.W.plainOver K C = true
  sa : PySem.W.findIn K (.ref C) "__setattr__" = some (some (.builtin "object.__setattr__"))
theorem Cls.get {K : PySem.W.Frag} {C : Addr} (c : Cls K C) (f : Str) : PySem.W.plainGet K C f = true := c.pg
section
variable {X : Cx} {pins : List (Addr × Obj)} {σ : St} {H : Hp} {s : Shared} {a C dx : Addr} {fs : List (Str × V)} {f : Str} {v : V} {A : Around} {E : Value → Shared → Prop}
theorem attr_of {prog : Program} {w : World} {env : Env} {e : Expr} {f : Str} {pos : Pos} {s : Shared} {Q : Value → Shared → Prop} (hb : attributeBase e f env (eval e env) = eval e env)
    (h : wpAny (model prog w) A (eval e env) (fun o s₁ => wpAny (model prog w) A (getAttr o f true) Q E s₁) E s) : wpAny (model prog w) A (eval (.Attribute e f pos) env) Q E s :=
  Attribute_any_ h (by rw [arm_eval_Attribute, hb])
end
section
variable {X : Cx} {o e value : Expr} {f : Str} {pos pos' tpos : Pos} {ta tv : TE}
end
section
variable {X : Cx} {pins : List (Addr × Obj)} {σ : St} {H : Hp} {s : Shared} {A : Around} {E : Value → Shared → Prop} {Q : Value → Shared → Prop} {c : Value} {b : Bool}
inductive TyOf (K : PySem.W.Frag) (H : Hp) : V → Value → Prop where
  | non : TyOf K H .non (.type "NoneType")
  | bl (x : Bool) : TyOf K H (.bl x) (.type "bool")
  | int (i : Int) : TyOf K H (.int i) (.type "int")
  | str (x : Str) : TyOf K H (.str x) (.type "str")
  | flt (x : UInt64) : TyOf K H (.flt x) (.type "float")
  | lst {a : Addr} {xs : List V} (e : H a = some (.lst xs)) : TyOf K H (.ref a) (.type "list")
  | frz {a : Addr} {o : Obj} {xs : List V} (e : H a = some (.frz o (.lst xs))) : TyOf K H (.ref a) (.type "list")
  | tup {a : Addr} {xs : List V} (e : H a = some (.tup xs)) : TyOf K H (.ref a) (.type "tuple")
  | dK {a : Addr} {kvs : List (Key × V)} (e : H a = some (.dK kvs)) : TyOf K H (.ref a) (.type "dict")
  | dT {a : Addr} {kvs : List (List Key × V)} (e : H a = some (.dT kvs)) : TyOf K H (.ref a) (.type "dict")
  | ins {a C dx : Addr} {fs : List (Str × V)} (e : H a = some (.ins C dx fs)) (cl : Cls K C) (ha : PySem.W.findIn K (.ref C) "__class__" = some (some (.builtin "object.__class__")))
      (hn : PySem.W.specialIn K (.builtin "object.__class__") "__get__" = some (some (.builtin "getset_descriptor.__get__"))) (htk : PySem.W.takesIn K (.builtin "object.__class__") = some true)
      (hm : PySem.W.mroIn K C (.type "object") = some true) : TyOf K H (.ref a) (.ref C)
theorem isinst_ok {x : V} {u t : Value} (I : Inv X pins σ H s) (rx : RelV x u) (ty : TyOf X.K H x t) (e : PySem.W.kitOne X.K t c = some b) (h : ∀ tk, Q (.bool b) { s with toks := tk }) :
    wpAny (model X.prog X.w) A (call (.builtin "isinstance") [u, c]) Q E s := by
  cases ty with
  | non => cases (show u = Value.none from rx); exact PySem.W.kia_one PySem.W.kitx_none I.kIn True.intro e (fun z => nomatch z) h
  | bl y => cases (show u = Value.bool y from rx); exact PySem.W.kia_one PySem.W.kitx_bool I.kIn True.intro e (fun z => nomatch z) h
  | int i => obtain ⟨t, q⟩ := (show ∃ t, u = Value.int i t from rx); cases q; exact PySem.W.kia_one PySem.W.kitx_int I.kIn True.intro e (fun z => nomatch z) h
  | str y => obtain ⟨t, q⟩ := (show ∃ t, u = Value.str y t from rx); cases q; exact PySem.W.kia_one PySem.W.kitx_str I.kIn True.intro e (fun z => nomatch z) h
  | flt y => obtain ⟨t, q⟩ := (show ∃ t, u = Value.float y t from rx); cases q; exact PySem.W.kia_one PySem.W.kitx_float I.kIn True.intro e (fun z => nomatch z) h
  | @lst a xs ea =>
    cases (show u = Value.ref a from rx)
    obtain ⟨_, _, n, _, h1⟩ := (show ObjOk X.prog X.w H s.heap a (.lst xs) from I.hok a _ ea)
    exact PySem.W.kia_one PySem.W.kitx_list I.kIn ⟨_, h1, rfl⟩ e (fun z => nomatch z) h
  | @frz a ob xs ea =>
    cases (show u = Value.ref a from rx)
    obtain ⟨_, _, _, n, _, h1⟩ := (show ObjOk X.prog X.w H s.heap a (.frz ob (.lst xs)) from I.hok a _ ea)
    exact PySem.W.kia_one PySem.W.kitx_list I.kIn ⟨_, h1, rfl⟩ e (fun z => nomatch z) h
  | @tup a xs ea =>
    cases (show u = Value.ref a from rx)
    obtain ⟨_, _, _, p⟩ := (show ObjOk X.prog X.w H s.heap a (.tup xs) from I.hok a _ ea)
    obtain ⟨o, h1, h2, _⟩ := p
    exact PySem.W.kia_one PySem.W.kitx_tuple I.kIn ⟨o, h1, h2⟩ e (fun z => nomatch z) h
  | @dK a kvs ea =>
    cases (show u = Value.ref a from rx)
    obtain ⟨_, _, vs, _, p⟩ := (show ObjOk X.prog X.w H s.heap a (.dK kvs) from I.hok a _ ea)
    obtain ⟨o, es, ep, h1, h2, _⟩ := p
    exact PySem.W.kia_one PySem.W.kitx_dict I.kIn ⟨o, h1, h2.1⟩ e (fun z => nomatch z) h
  | @dT a kvs ea =>
    cases (show u = Value.ref a from rx)
    obtain ⟨_, _, xs, _, o, es, ep, h1, h2, _⟩ := (show ObjOk X.prog X.w H s.heap a (.dT kvs) from I.hok a _ ea)
    exact PySem.W.kia_one PySem.W.kitx_dict I.kIn ⟨o, h1, h2.1⟩ e (fun z => nomatch z) h
  | @ins a C dx fs ea cl ha hn htk hm =>
    cases (show u = Value.ref a from rx)
    obtain ⟨mA, O, _⟩ := ins_get I.hok ea
    obtain ⟨od, J, _⟩ := O.look
    exact PySem.W.kia_one (PySem.W.kitx_own (cl.get _) cl.hd ha hn htk hm) I.kIn J e (fun z => nomatch z) h
end
end L2
namespace L2
open PySem PySem.Spec PyProof.Rows
structure Room (k : Nat) (A : Around) : Prop where
  hd : A.handled = none
  dp : A.depth + 3 * k + 5 < recursionLimit
  un : A.units + 16 * k + 200 < cLine
theorem Room.mono {j k : Nat} {A : Around} (r : Room k A) (h : j ≤ k) : Room j A := ⟨r.hd, by have := r.dp; omega, by have := r.un; omega⟩
theorem Room.deeper {k : Nat} {A : Around} (r : Room (k + 1) A) (env : Env) : Room k (A.deeper env) :=
  ⟨r.hd, by have := r.dp; show A.depth + 1 + 3 * k + 5 < _; omega, by have := r.un; show A.units + 3 + 16 * k + 200 < _; omega⟩
theorem make_depth {A : Around} {C : Addr} {us : List Value} {kw : List (Str × Value)} : (A.under (.builtin "type.__call__" ⟨.ref C :: us, kw⟩)).depth = A.depth + 1 := by
  first | rfl | simp [Around.under, Code.weight, Code.isCreation, Code.isGuard, Code.isCaller, Code.frames, Code.isFrame, guardIds]
theorem make_units {A : Around} {C : Addr} {us : List Value} {kw : List (Str × Value)} : (A.under (.builtin "type.__call__" ⟨.ref C :: us, kw⟩)).units = A.units + 1 := by
  first | rfl | simp [Around.under, Code.cUnits, Code.frames, Code.isFrame]
theorem Room.make {k : Nat} {A : Around} (r : Room (k + 1) A) (C : Addr) (us : List Value) (kw : List (Str × Value)) : Room k (A.under (.builtin "type.__call__" ⟨.ref C :: us, kw⟩)) :=
  ⟨r.hd, by have := r.dp; rw [make_depth]; omega, by have := r.un; rw [make_units]; omega⟩
theorem Room.depth {k : Nat} {A : Around} (r : Room k A) : A.depth < recursionLimit := by have := r.dp; omega
theorem Room.units {k : Nat} {A : Around} (r : Room k A) : A.units + 64 < cLine := by have := r.un; omega
noncomputable def tNil : TA := fun _ H Q => Q [] H
noncomputable def tCons (ta : TE) (tr : TA) : TA := fun σ H Q => ta σ H fun x H1 => tr σ H1 fun xs H2 => Q (x :: xs) H2
section
variable {X : Cx} {e : Expr} {es : List Expr} {te : TE} {t : TA} {pos : Pos}
theorem pa_nil : PA X [] tNil := fun _ _ _ _ H Q I h => Calls.spliced_nil ⟨[], H, I, .nil, h⟩
theorem pa_cons (ha : PE X e te) (hr : PA X es t) (hs : starEach (e :: es) X.env = (false, eval e X.env) :: starEach es X.env := by rfl) : PA X (e :: es) (tCons te t) := by
  intro pos pins s σ H Q I h
  rw [hs]
  show wpAny _ _ (spliced ((false, eval e X.env) :: backTo pos (starEach es X.env))) _ _ s
  refine Calls.spliced_cons (thn (ha pins s σ H _ I h) fun u s1 ⟨x, H1, I1, r1, q1⟩ => ?_)
  exact thn (hr pos pins s1 σ H1 _ I1 q1) fun us s2 ⟨xs, H2, I2, r2, q2⟩ => ⟨x :: xs, H2, I2, .cons r1 r2, q2⟩
noncomputable def tTup (t : TA) : TE := fun σ H Q => t σ H fun xs H1 => xs.length ≤ sizeLine ∧ ∀ p, H1 p = none → Q (.ref p) (upd H1 p (.tup xs))
noncomputable def tLst (t : TA) : TE := fun σ H Q => t σ H fun xs H1 => xs.length ≤ sizeLine ∧ ∀ p, H1 p = none → Q (.ref p) (upd H1 p (.lst xs))
theorem pe_tup {x1} (h : PA X es t) : PE X (.Tuple es x1 pos) (tTup t) := by
  intro pins s σ H Q I hq
  refine wpAny_Tuple_spliced (thn (h pos pins s σ H _ I hq) fun us s1 ⟨xs, H1, I1, r, z, q⟩ => ⟨by rw [← r.length]; exact z, ?_⟩)
  have hf : H1 s1.heap.objs.size = none := I1.hok.fresh (Nat.le_refl _)
  refine ⟨.ref s1.heap.objs.size, upd H1 s1.heap.objs.size (.tup xs), I1.laid (t' := s1.toks) (fun b u e => Heap.get?_push_of_some _ e) (Nat.le_refl _) ?_, rfl, q _ hf⟩
  exact ⟨z, us, r, ⟨_, Heap.get?_push_size _ rfl, rfl, _, rfl⟩⟩
theorem pe_lst (h : PA X es t) : PE X (.List es pos) (tLst t) := by
  intro pins s σ H Q I hq
  refine wpAny_List_spliced (thn (h pos pins s σ H _ I hq) fun us s1 ⟨xs, H1, I1, r, z, q⟩ => ⟨by rw [← r.length]; exact z, ?_⟩)
  have hf : H1 s1.heap.objs.size = none := I1.hok.fresh (Nat.le_refl _)
  refine ⟨.ref s1.heap.objs.size, upd H1 s1.heap.objs.size (.lst xs), I1.laid (t' := s1.toks) (fun b u e => Heap.get?_push_of_some _ e) (Nat.le_refl _) ?_, rfl, q _ hf⟩
  exact ⟨z, us, 0, r, Heap.get?_push_size _ rfl⟩
end
noncomputable abbrev Sp := List V → Hp → VK → XK → Prop
noncomputable abbrev CXT := List Env → Hp → Shared → XK → Value → Shared → Prop
structure Env0 (P : Program) (w : World) (K : PySem.W.Frag) (mg : Str → Option Value) (base : Heap) (A : Around) (outer : List Env) (s : Shared) (H : Hp) : Prop where
  frames : A.frames = some outer
  mod : Mod K mg base
  bs : ∀ b o, base.get? b = some o → s.heap.get? b = some o ∧ H b = none
  bsz : base.objs.size ≤ s.heap.objs.size
  funs : s.heap.FunFrames base outer
  frf : ∀ b ∈ frs outer, H b = none
  hok : HOk P w H s.heap
  bare : AllBare s.gens
noncomputable def CE (outer : List Env) (P : Program) (w : World) (H : Hp) (s : Shared) (Q : VK) (u : Value) (s' : Shared) : Prop :=
  ∃ v H', s'.os = s.os ∧ AllBare s'.gens ∧ Un (frs outer) [] H H' s.heap s'.heap ∧ HOk P w H' s'.heap ∧ RelV v u ∧ Q v H'
noncomputable def CR (CX : CXT) (outer : List Env) (P : Program) (w : World) (H : Hp) (s : Shared) (Q : VK) (E : XK) (r : Result) (s' : Shared) : Prop :=
  match r with
  | .ok (.ret u) => CE outer P w H s Q u s'
  | .ok _ => False
  | .error e => CX outer H s E e s'
structure FnOk (P : Program) (w : World) (K : PySem.W.Frag) (mg : Str → Option Value) (base : Heap) (CX : CXT) (k : Nat) (f : Addr) (fd : FuncData) (ps : List Str) (sp : Sp) : Prop where
  len : ∀ vs H Q E, sp vs H Q E → vs.length = ps.length
  run : ∀ (A : Around) (outer : List Env) (s : Shared) (H : Hp) (args : Args) (us : List Value) (vs : List V) (Q : VK) (E : XK), Room k A → Env0 P w K mg base A outer s H → BindsTo s fd args (ps.zip us) → Vals vs us → sp vs H Q E →
    codeAny (model P w) A (.call (.ref f) args) (CR CX outer P w H s Q E) s
theorem Env0.make {P : Program} {w : World} {K : PySem.W.Frag} {mg : Str → Option Value} {base : Heap} {A : Around} {outer : List Env} {s : Shared} {H : Hp} (e : Env0 P w K mg base A outer s H) (C : Addr) (us : List Value) (kw : List (Str × Value)) :
    Env0 P w K mg base (A.under (.builtin "type.__call__" ⟨.ref C :: us, kw⟩)) outer s H := ⟨by first | exact e.frames | (simpa [Around.under, Code.envs, Code.isFrame, pushEnvs] using e.frames), e.mod, e.bs, e.bsz, e.funs, e.frf, e.hok, e.bare⟩
section
variable {X : Cx} {pins : List (Addr × Obj)} {σ : St} {H : Hp} {s s' : Shared}
theorem Inv.env0 (I : Inv X pins σ H s) : Env0 X.prog X.w X.K X.mg X.base X.A X.stack s H :=
  ⟨I.ok.frames, I.ok.mod, I.bs, Nat.le_trans I.ok.bsz I.sz, I.stack, I.stkFree, I.hok, I.bare⟩
theorem Inv.after {Q : VK} {u : Value} (I : Inv X pins σ H s) (h : CE X.stack X.prog X.w H s Q u s') : EP X pins σ Q u s' := by
  obtain ⟨v, H', os, bare, un, hok, r, q⟩ := h
  obtain ⟨hh, g, d, t, os'⟩ := s'
  obtain rfl : os' = s.os := os
  exact ⟨v, H', I.call (h' := hh) (g' := g) (d' := d) (t' := t) (ch := []) un hok bare (fun b z => absurd z (by simp)), r, q⟩
end
noncomputable def tCall (sp : Sp) (dvs : List V) (E : XK) (t : TA) : TE := fun σ H Q => t σ H fun vs H1 => sp (vs ++ dvs) H1 Q E
noncomputable def Binds (K : PySem.W.Frag) (fd : FuncData) (ps : List Str) (ds : List Value) : Prop :=
  ∀ (s : Shared) (us : List Value), K.In s.heap → (us ++ ds).length = ps.length → BindsTo s fd ⟨us, []⟩ (ps.zip (us ++ ds))
theorem Binds.all {K : PySem.W.Frag} {fd : FuncData} {ps : List Str} (h : ∀ us : List Value, us.length = ps.length → bindArgs fd ⟨us, []⟩ = pure (ps.zip us)) : Binds K fd ps [] := fun s us _ hl => by
  rw [List.append_nil] at hl ⊢
  exact .of_eq (h us hl)
noncomputable def Passes (CX : CXT) (X : Cx) (E : XK) : Prop := ∀ (pins : List (Addr × Obj)) (σ : St) (H : Hp) (s : Shared) (e : Value) (s' : Shared), Inv X pins σ H s → CX X.stack H s E e s' → X.xe e s'
section
variable {X : Cx} {CX : CXT} {k : Nat} {f C : Addr} {fd : FuncData} {ps : List Str} {sp : Sp} {dvs : List V} {ds : List Value} {E : XK} {x m : Str} {p pos apos : Pos} {e o : Expr} {es : List Expr} {ta : TE} {t : TA}
theorem run_fn {pins : List (Addr × Obj)} {σ : St} {H : Hp} {s : Shared} {Q : VK} {us : List Value} {vs : List V} (F : FnOk X.prog X.w X.K X.mg X.base CX k f fd ps sp) (hr : Room k X.A) (hb : Binds X.K fd ps ds) (hd : Vals dvs ds) (hx : Passes CX X E)
    (I : Inv X pins σ H s) (r : Vals vs us) (h : sp (vs ++ dvs) H Q E) : wpAny (model X.prog X.w) X.A (call (.ref f) us) (EP X pins σ Q) X.xe s := by
  have r2 : Vals (vs ++ dvs) (us ++ ds) := r.append hd
  have hl : (us ++ ds).length = ps.length := by rw [← r2.length]; exact F.len _ _ _ _ h
  refine wpAny_call (codeAny_mono (F.run X.A X.stack s H ⟨us, []⟩ (us ++ ds) (vs ++ dvs) Q E hr I.env0 (hb s us I.kIn hl) r2 h) fun r s' hq => ?_)
  cases r with
  | error e => exact hx pins σ H s e s' I hq
  | ok fl =>
    cases fl with
    | ret u => exact I.after hq
    | next => exact False.elim hq
    | brk => exact False.elim hq
    | cont => exact False.elim hq
theorem pe_call (F : FnOk X.prog X.w X.K X.mg X.base CX k f fd ps sp) (hr : Room k X.A) (hg : Gl X x) (hm : X.mg x = some (.ref f)) (hk : PySem.W.keepIn X.K (.ref f) = true) (hb : Binds X.K fd ps ds) (hd : Vals dvs ds) (hx : Passes CX X E)
    (ha : PA X (e :: es) t) (hdb : (x == ("__debug__" : Str)) = false := by decide) (he : starEach (e :: es) X.env = (false, eval e X.env) :: starEach es X.env := by rfl) (hpl : (backTo pos (starEach es X.env)).any (·.1) = false := by rfl) :
    PE X (.Call (.Name x p) (e :: es) [] pos) (tCall sp dvs E t) := by
  intro pins s σ H Q I h
  refine wpAny_Call_Name_kw (ld_glob I hg hm ?_ hdb)
  refine PySem.W.callWith_K (h₀ := X.base) I.ok.mod.kin hk (thn (ha pos pins s σ H _ I h) fun us s1 ⟨vs, H1, I1, r, q⟩ => ⟨I1.kIn, ?_⟩) he hpl
  exact run_fn F hr hb hd hx I1 r q
end
section
variable {X : Cx} {CX : CXT} {k : Nat} {f C : Addr} {fd : FuncData} {ps ks : List Str} {sp : Sp} {E : XK} {x m : Str} {p pos apos kpos : Pos} {e o : Expr} {es : List Expr} {kws : List Keyword} {te ta : TE} {t tk : TA} {nm : Option Str}
variable {g : List Value → List Value → List Value} {gV : List V → List V → List V}
end
structure FnScope (N P : List Str) (sc : Scope) : Prop where
  kind : sc.kind = .function
  co : sc.isCoroutine = false
  gen : sc.isGenerator = false
  nd : N.Nodup
  pre : N.take P.length = P
  par : ∀ x ∈ P, sc.names.lookup x = some .local ∨ sc.names.lookup x = some .cell
  nofree : ∀ y ∈ sc.names, y.2 ≠ .free
theorem bindL_out {kindOf : Str → Option NameKind} {x : Str} : ∀ {binds : List (Str × Value)} {m : Str → Option Value}, (∀ v, (x, v) ∉ binds) → bindL kindOf binds m x = m x
  | [], _, _ => rfl
  | (n, v) :: r, m, h => by
    unfold bindL
    rw [bindL_out fun w hw => h w (List.mem_cons_of_mem _ hw)]
    split
    · have : x ≠ n := by rintro rfl; exact h v List.mem_cons_self
      simp [this]
    · rfl
theorem bindC_out {kindOf : Str → Option NameKind} {x : Str} : ∀ {binds : List (Str × Value)} {m : Str → Option Value}, (∀ v, (x, v) ∉ binds) → bindC kindOf binds m x = m x
  | [], _, _ => rfl
  | (n, v) :: r, m, h => by
    unfold bindC
    rw [bindC_out fun w hw => h w (List.mem_cons_of_mem _ hw)]
    split
    · rfl
    · have : x ≠ n := by rintro rfl; exact h v List.mem_cons_self
      simp [this]
theorem bindL_get {kindOf : Str → Option NameKind} {x : Str} {v : Value} : ∀ {P : List Str} {vs : List Value} {i : Nat} {m : Str → Option Value}, P.Nodup → P[i]? = some x → vs[i]? = some v → kindOf x = some .local →
    bindL kindOf (P.zip vs) m x = some v
  | [], _, _, _, _, h, _, _ => by simp at h
  | _ :: _, [], _, _, _, _, h, _ => by simp at h
  | p :: P, w :: vs, 0, m, nd, h1, h2, hk => by
    simp at h1 h2; subst h1; subst h2
    show bindL kindOf ((p, w) :: P.zip vs) m p = _
    unfold bindL
    rw [bindL_out fun v hv => (List.nodup_cons.mp nd).1 (List.of_mem_zip hv).1, if_pos hk]
    simp
  | p :: P, w :: vs, i + 1, m, nd, h1, h2, hk => by
    show bindL kindOf ((p, w) :: P.zip vs) m x = _
    unfold bindL
    exact bindL_get (i := i) (List.nodup_cons.mp nd).2 (by simpa using h1) (by simpa using h2) hk
theorem bindC_get {kindOf : Str → Option NameKind} {x : Str} {v : Value} : ∀ {P : List Str} {vs : List Value} {i : Nat} {m : Str → Option Value}, P.Nodup → P[i]? = some x → vs[i]? = some v → kindOf x ≠ some .local →
    bindC kindOf (P.zip vs) m x = some v
  | [], _, _, _, _, h, _, _ => by simp at h
  | _ :: _, [], _, _, _, _, h, _ => by simp at h
  | p :: P, w :: vs, 0, m, nd, h1, h2, hk => by
    simp at h1 h2; subst h1; subst h2
    show bindC kindOf ((p, w) :: P.zip vs) m p = _
    unfold bindC
    rw [bindC_out fun v hv => (List.nodup_cons.mp nd).1 (List.of_mem_zip hv).1, if_neg hk]
    simp
  | p :: P, w :: vs, i + 1, m, nd, h1, h2, hk => by
    show bindC kindOf ((p, w) :: P.zip vs) m x = _
    unfold bindC
    exact bindC_get (i := i) (List.nodup_cons.mp nd).2 (by simpa using h1) (by simpa using h2) hk
noncomputable def start (N : List Str) (vs : List V) : St := vs.map some ++ List.replicate (N.length - vs.length) none
noncomputable def cxOf (CX : CXT) (P : Program) (w : World) (K : PySem.W.Frag) (mg : Str → Option Value) (base : Heap) (N : List Str) (qual : Str) (scope : Scope) (f : Addr) (cd : Value) (A : Around) (outer : List Env) (s : Shared) (H : Hp) (E : XK) : Cx where
  prog := P
  w := w
  K := K
  mg := mg
  base := base
  A := A.deeper (envOfC qual scope s.heap.objs.size f cd)
  N := N
  s₀ := s
  H₀ := H
  env := envOfC qual scope s.heap.objs.size f cd
  outer := outer
  stack := envOfC qual scope s.heap.objs.size f cd :: outer
  ex := []
  calm := true
  fn := fun _ => true
  pn := []
  xe := fun e s' => wpAny (model P w) (A.deeper (envOfC qual scope s.heap.objs.size f cd)) (leaving (envOfC qual scope s.heap.objs.size f cd) e) (fun _ s'' => CX outer H s E e s'') (fun e' s'' => CX outer H s E e' s'') s'
theorem cell_has {sc : Scope} {n : Nat} {x : Str} (h : sc.names.lookup x = some .cell) : ∃ c, (cellsFrom n sc.names []).lookup x = some c := by
  have q := PySem.W.cellsFrom_some sc.names n [] (.inl h)
  exact Option.isSome_iff_exists.mp q
theorem inv_start {CX : CXT} {P : Program} {w : World} {K : PySem.W.Frag} {mg : Str → Option Value} {base : Heap} {N ps : List Str} {qual : Str} {scope : Scope} {f : Addr} {cd : Value} {A : Around} {outer : List Env} {s s1 : Shared} {H : Hp} {E : XK} {us : List Value} {vs : List V}
    (S : FnScope N ps scope) (hd : A.handled = none) (e0 : Env0 P w K mg base A outer s H) (hl : vs.length = ps.length) (r : Vals vs us)
    (x : InCallC s s.heap.objs.size (bindL (envOfC qual scope s.heap.objs.size f cd).kindOf (ps.zip us) fun _ => none) (cellsFrom (s.heap.objs.size + 1) scope.names []) (bindC (envOfC qual scope s.heap.objs.size f cd).kindOf (ps.zip us) fun _ => none) s1) :
    Inv (cxOf CX P w K mg base N qual scope f cd A outer s H E) [] (start N vs) H s1 := by
  have hpl : ps.length ≤ N.length := by have := congrArg List.length S.pre; rw [List.length_take] at this; omega
  obtain ⟨h1, tk, rfl, hk⟩ := x.done
  have noA : ∀ b : Addr, b ∉ (cxOf CX P w K mg base N qual scope f cd A outer s H E).ex := fun b z => absurd (show b ∈ ([] : List Addr) from z) (by simp)
  refine ⟨⟨e0.mod, S.kind, rfl, rfl, Nat.le_refl _, fun y z c h1 h2 => ?_, fun y hy => ?_, fun y c _ h => ?_, fun _ => hd, Around.frames_deeper e0.frames, .inr ⟨rfl, rfl⟩, fun b z => absurd z (noA b), e0.bs, e0.bsz, fun b _ _ => noA b, fun b z => absurd z (noA b), e0.funs, e0.frf⟩,
    rfl, e0.bare, Un.kept hk, ⟨_, x.toInCall.ns, fun i y v h1 h2 h3 => ?_⟩, fun y c h => ⟨_, x.cell y c h⟩, e0.hok.fresh (Nat.le_refl _), fun y c h => ?_, fun p hp => absurd (show p ∈ ([] : List (Addr × Obj)) from hp) (by simp), e0.hok.kept hk, ?_⟩
  · exact name_of_addr x.apart (PySem.mem_of_lookup h1) (PySem.mem_of_lookup h2)
  · have hy : scope.names.lookup y = some .cell ∨ scope.names.lookup y = some .free := hy
    rcases hy with hy | hy
    · exact cell_has hy
    · exact absurd rfl (S.nofree _ (PySem.mem_of_lookup hy))
  · exact Nat.le_of_lt (x.above y c (PySem.mem_of_lookup h))
  · have hi : i < vs.length := by
      unfold start at h2
      by_cases hi : i < vs.length
      · exact hi
      · rw [List.getElem?_append_right (by simpa using hi)] at h2
        rw [List.getElem?_replicate] at h2
        split at h2 <;> cases h2
    have ha : vs[i]? = some v := by
      unfold start at h2
      rw [List.getElem?_append_left (by simpa using hi), List.getElem?_map] at h2
      cases e : vs[i]? with
      | none => rw [e] at h2; cases h2
      | some a => rw [e] at h2; cases h2; rfl
    obtain ⟨u, hu, rv⟩ := r.get ha
    have hp : ps[i]? = some y := by
      rw [← S.pre, List.getElem?_take_of_lt (by omega)]; exact h1
    have ndP : ps.Nodup := by rw [← S.pre]; exact S.nd.sublist (List.take_sublist _ _)
    refine ⟨u, rv, ?_⟩
    rcases S.par y (List.mem_of_getElem? hp) with k | k
    · exact .inl ⟨k, bindL_get ndP hp hu k⟩
    · obtain ⟨c, e⟩ := cell_has (n := s.heap.objs.size + 1) k
      refine .inr ⟨.inl k, c, e, ?_⟩
      have q := x.cell y c e
      rw [bindC_get ndP hp hu (by show scope.names.lookup y ≠ _; rw [k]; decide)] at q
      exact q
  · exact e0.hok.fresh (Nat.le_of_lt (x.above y c (PySem.mem_of_lookup h)))
  · unfold start
    show _ = N.length
    rw [List.length_append, List.length_map, List.length_replicate]
    omega
theorem fn_of {CX : CXT} {P : Program} {w : World} {K : PySem.W.Frag} {mg : Str → Option Value} {base : Heap} {k : Nat} {f : Addr} {name qual : Str} {params : Arguments} {body : List Stmt} {scope : Scope} {dV kV doc pm cdv ct oc : Value} {an od : Option Addr}
    {osl : Array (Option Value)} {N ps : List Str} {sp : Sp} (lk : K.lookup f = some ⟨oc, od, .func (PySem.W.fnOf name qual params body scope dV kV doc pm an cdv ct), osl⟩) (hcd : PySem.W.codeIn K cdv qual = true) (S : FnScope N ps scope)
    (len : ∀ vs H Q E, sp vs H Q E → vs.length = ps.length)
    (hbody : ∀ (A : Around) (outer : List Env) (s : Shared) (H : Hp) (vs : List V) (Q : VK) (E : XK), Room k (A.deeper (envOfC qual scope s.heap.objs.size f cdv)) → sp vs H Q E →
      ∃ t, PSs (cxOf CX P w K mg base N qual scope f cdv A outer s H E) body t ∧ t { nx := fun _ H' => Q .non H', rt := Q } (start N vs) H) :
    FnOk P w K mg base CX (k + 1) f (PySem.W.fnOf name qual params body scope dV kV doc pm an cdv ct) ps sp := by
  refine ⟨len, fun A outer s H args us vs Q E hr e0 hb r hsp => ?_⟩
  have hl := len _ _ _ _ hsp
  have KX : K.In s.heap := e0.mod.kin.keeps fun b o e => (e0.bs b o e).1
  have lim : s.heap.NoLimit := e0.mod.nolimit.keeps fun b o e => (e0.bs b o e).1
  have hkind : ∀ y ∈ ps.zip us, scope.names.lookup y.1 = some .local ∨ (scope.names.lookup y.1 = some .cell ∧ ((cellsFrom (s.heap.objs.size + 1) scope.names []).lookup y.1).isSome = true) := fun ⟨n, v⟩ hy => by
    rcases S.par n (List.of_mem_zip hy).1 with q | q
    · exact .inl q
    · exact .inr ⟨q, PySem.W.cellsFrom_some _ _ _ (.inl q)⟩
  refine codeAny_call_function hr.depth (KX _ _ lk) rfl S.co S.gen rfl (PySem.W.codeRec_of KX hcd) (hb _ _ _ _ ?_)
  refine wpAny_newFunctionEnv_cells S.kind hkind fun env he s1 x => ?_
  subst he
  refine ⟨lim.keeps x.toInCall.keep, codeAny_func ?_⟩
  obtain ⟨t, ht, hq⟩ := hbody A outer s H vs Q E (hr.deeper _) hsp
  have I : Inv (cxOf CX P w K mg base N qual scope f cdv A outer s H E) [] (start N vs) H s1 := inv_start S hr.hd e0 hl r x
  refine wpAny_mono (ht [] s1 (start N vs) H _ I hq) (fun fl s' hs => ?_) fun e s' hs => hs
  have fin : ∀ {σ' : St} {H' : Hp} {v : V} {u : Value}, Inv (cxOf CX P w K mg base N qual scope f cdv A outer s H E) [] σ' H' s' → RelV v u → Q v H' → CE outer P w H s Q u s' :=
    fun {σ' H' v u} J rv q => ⟨v, H', J.os, J.bare, J.base, J.hok, rv, q⟩
  cases fl with
  | ret u =>
    obtain ⟨v, σ', H', J, rv, q⟩ := hs
    exact fin J rv q
  | next =>
    obtain ⟨σ', H', J, q⟩ := hs
    exact fin (v := V.non) (u := Value.none) J rfl q
  | brk =>
    obtain ⟨_, _, _, q⟩ := hs
    exact False.elim q
  | cont =>
    obtain ⟨_, _, _, q⟩ := hs
    exact False.elim q
end L2
namespace L2
open PySem PySem.Spec PyProof.Rows
section
variable {X : Cx} {x : Str} {p pos : Pos} {e : Expr} {es : List Expr} {t : TA} {id T : String} {r : List V → Hp → VK → Prop}
noncomputable def tCB (r : List V → Hp → VK → Prop) (t : TA) : TE := fun σ H Q => t σ H fun vs H1 => r vs H1 Q
theorem pe_callB (hc : CallR X (.builtin id) r) (hg : Gl X x) (hm : X.mg x = none) (hv : bootBuiltins x = some (.builtin id)) (ha : PA X (e :: es) t) (hn : x ≠ "__name__" := by decide) (hdb : (x == ("__debug__" : Str)) = false := by decide)
    (he : starEach (e :: es) X.env = (false, eval e X.env) :: starEach es X.env := by rfl) (hpl : (backTo pos (starEach es X.env)).any (·.1) = false := by rfl) : PE X (.Call (.Name x p) (e :: es) [] pos) (tCB r t) := by
  intro pins s σ H Q I h
  refine wpAny_Call_Name_kw (ld_blt I hg hm hv ?_ hn hdb)
  exact PyProof.Rows.callWith_builtin1 (thn (ha pos pins s σ H _ I h) fun us s1 ⟨vs, H1, I1, r1, q1⟩ => hc pins s1 σ H1 vs us Q I1 r1 q1) he hpl
theorem pe_callTy (hc : CallR X (.type T) r) (hg : Gl X x) (hm : X.mg x = none) (hv : bootBuiltins x = some (.type T)) (ha : PA X (e :: es) t) (hn : x ≠ "__name__" := by decide) (hdb : (x == ("__debug__" : Str)) = false := by decide)
    (he : starEach (e :: es) X.env = (false, eval e X.env) :: starEach es X.env := by rfl) (hpl : (backTo pos (starEach es X.env)).any (·.1) = false := by rfl) : PE X (.Call (.Name x p) (e :: es) [] pos) (tCB r t) := by
  intro pins s σ H Q I h
  refine wpAny_Call_Name_kw (ld_blt I hg hm hv ?_ hn hdb)
  exact PyProof.Rows.callWith_type1 (thn (ha pos pins s σ H _ I h) fun us s1 ⟨vs, H1, I1, r1, q1⟩ => hc pins s1 σ H1 vs us Q I1 r1 q1) he hpl
end
end L2
namespace HT
open PySem PyProof.Rows
noncomputable def lexLt : List Int → List Int → Bool
  | [], [] => false
  | [], _ :: _ => true
  | _ :: _, [] => false
  | x :: xs, y :: ys => if x = y then lexLt xs ys else decide (x < y)
theorem lexLt_cons (x y : Int) (xs ys : List Int) : lexLt (x :: xs) (y :: ys) = if x = y then lexLt xs ys else decide (x < y) := rfl
theorem lexLt_nil_nil : lexLt [] [] = false := rfl
theorem lexLt_nil_cons (y : Int) (ys : List Int) : lexLt [] (y :: ys) = true := rfl
theorem lexLt_cons_nil (x : Int) (xs : List Int) : lexLt (x :: xs) [] = false := rfl
theorem eqAt_int (A : Around) (s : Shared) (a : Int) (t : Tok) (c : Int) (u : Tok) : ∃ e, SeqAt.EqAt A s (.int a t) (.int c u) e ∧ (e = true ↔ a = c) :=
  ⟨(a == c), SeqAt.EqAt.int_int a t c u, by simp⟩
theorem rcLt_int (A : Around) (s : Shared) (a : Int) (t : Tok) (c : Int) (u : Tok) (prog : Program) (w : World) (E : Value → Shared → Prop) (Q : Value → Shared → Prop) (h : Q (.bool (decide (a < c))) s) :
    wpAny (model prog w) A (richCompare .Lt (.int a t) (.int c u)) Q E s :=
  (PyProof.Rows.lt_int h : wpAny (model prog w) A (compareOp .Lt (.int a t) (.int c u)) Q E s)
section
open PySem.SeqAt
open PySem.AutoSeq1 (wpAny_loadPart')
open PySem.MeetsSeq PySem.MeetsSeq2 PySem.MeetsSeq3
theorem tuple_lt_ints (l b : Addr) (items items2 : Array Value) (n n2 : Nat) (dd dd2 : Option Addr) (sl sl2 : Array (Option Value)) (ns ms : List Int) (hi : IntsAre items.toList ns) (hj : IntsAre items2.toList ms) :
    Meets (Builtin.«tuple.__lt__» ⟨[.ref l, .ref b], []⟩)
      (fun _ R s => s.heap.get? l = some { cls := .type "tuple", dict := dd, data := .seq items n, slots := sl } ∧ s.heap.get? b = some { cls := .type "tuple", dict := dd2, data := .seq items2 n2, slots := sl2 } ∧
        R (.ok (.ret (.bool (lexLt ns ms)))) s) :=
  .of_wp fun prog w A R s h => by
    obtain ⟨hp, g, d, tk, os⟩ := s; obtain ⟨hl, hb, h⟩ := h
    have f2 := AutoSeq1.sub_tuple_tuple
    have z1 : items.size = ns.length := by rw [← hi.length]; simp
    have z2 : items2.size = ms.length := by rw [← hj.length]; simp
    wp_walk using wpAny_loadPart' hl, wpAny_loadPart' hb, wpAny_forIn_list _ (fun rest b s' => b.1 = none ∧ s' = ⟨hp, g, d, tk, os⟩ ∧ ∃ (vs ws : List Value) (ns' ms' : List Int), rest = vs.zip ws ∧
      IntsAre vs ns' ∧ IntsAre ws ms' ∧ ns'.length + items2.size = ms'.length + items.size ∧ R (.ok (.ret (.bool (lexLt ns' ms')))) ⟨hp, g, d, tk, os⟩) _
    case turn =>
      rintro ⟨y, x⟩ rest b s' ⟨hb', rfl, vs, ws, ns', ms', hz, hvi, hwi, hlen, hR⟩
      cases hvi with
      | nil => rw [List.zip_nil_left] at hz; cases hz
      | cons a t hvi' =>
        cases hwi with
        | nil => rw [List.zip_nil_right] at hz; cases hz
        | cons c u hwi' =>
          rw [List.zip_cons_cons] at hz
          injection hz with hyx hrest
          injection hyx with hy hx
          subst hy hx
          rw [lexLt_cons] at hR
          simp only [List.length_cons] at hlen
          obtain ⟨e, he, hiff⟩ := eqAt_int A.in1 ⟨hp, g, d, tk, os⟩ a t c u
          refine wpAny_bind (he prog w _ _ ?_)
          cases e with
          | true =>
            rw [if_pos (hiff.mp rfl)] at hR
            wp_walk
            exact ⟨rfl, rfl, _, _, _, _, hrest, hvi', hwi', by omega, hR⟩
          | false =>
            rw [if_neg (fun q => absurd (hiff.mpr q) Bool.false_ne_true)] at hR
            have hri := rcLt_int A.in1 ⟨hp, g, d, tk, os⟩ a t c u prog w
            wp_walk using hri
            exact ⟨_, rfl, by simpa using hR⟩
    case fin =>
      rintro ⟨b1, b2⟩ s' ⟨hb', rfl, vs, ws, ns', ms', hz, hvi, hwi, hlen, hR⟩
      simp only at hb'
      subst hb'
      have hv : lexLt ns' ms' = decide (items.size < items2.size) := by
        cases hvi with
        | nil =>
          cases hwi with
          | nil =>
            simp only [List.length_nil] at hlen
            rw [lexLt_nil_nil]
            exact (decide_eq_false (by omega)).symm
          | cons c u hw =>
            simp only [List.length_nil, List.length_cons] at hlen
            rw [lexLt_nil_cons]
            exact (decide_eq_true (by omega)).symm
        | cons a t hv =>
          cases hwi with
          | nil =>
            simp only [List.length_nil, List.length_cons] at hlen
            rw [lexLt_cons_nil]
            exact (decide_eq_false (by omega)).symm
          | cons c u hw =>
            rw [List.zip_cons_cons] at hz
            cases hz
      rw [hv] at hR
      wp_walk
      exact ⟨_, rfl, by simpa [Builtin.Tuple.tupleCompareSizes] using hR⟩
    case h =>
      exact ⟨rfl, rfl, items.toList, items2.toList, ns, ms, rfl, hi, hj, by omega, h⟩
end
section
variable {prog : Program} {w : World} {A : Around} {E : Value → Shared → Prop} {s : Shared}
theorem lt_tupInts {l b : Addr} {items items2 : Array Value} {ns ms : List Int} {Q : Value → Shared → Prop} (hl : IsTup s.heap l items) (hb : IsTup s.heap b items2) (hi : IntsAre items.toList ns) (hj : IntsAre items2.toList ms)
    (hu : A.units < cLine) (h : Q (.bool (lexLt ns ms)) s) : wpAny (model prog w) A (compareOp .Lt (.ref l) (.ref b)) Q E s := by
  obtain ⟨⟨cls, dd, data, sl⟩, ho, hc, n, hd⟩ := id hl
  obtain ⟨⟨cls2, dd2, data2, sl2⟩, ho2, hc2, n2, hd2⟩ := id hb
  simp only at hc hd hc2 hd2
  subst hc hd hc2 hd2
  exact richCompare_meets_room (op := .Lt) ⟨_, ho, rfl⟩ ⟨_, ho2, rfl⟩ PySem.F.slot_tuple_lt PySem.F.entry_tuple_lt (PySem.F.args_tuple_lt_2 _ _) (tuple_lt_ints l b items items2 n n2 dd dd2 sl sl2 ns ms hi hj)
    ⟨ho, ho2, show Value.bool (lexLt ns ms) ≠ Value.notImplemented ∧ Q (.bool (lexLt ns ms)) s from ⟨(fun x => nomatch x), h⟩⟩ hu
noncomputable def sIx (n d : Nat) : Option Int → Nat
  | none => d
  | some v => if v < 0 then (v + (n : Int)).toNat else min v.toNat n
theorem sIx_none (n d : Nat) : sIx n d none = d := rfl
theorem sIx_nat (n d k : Nat) : sIx n d (some (k : Int)) = min k n := by
  show (if (k : Int) < 0 then ((k : Int) + (n : Int)).toNat else min (k : Int).toNat n) = min k n
  rw [if_neg (by omega), Int.toNat_natCast]
end
end HT
namespace L2
open PySem PySem.Spec PyProof.Rows
noncomputable abbrev TO := St → Hp → (Option Int → Hp → Prop) → Prop
noncomputable def PO (X : Cx) (e : Option Expr) (t : TO) : Prop :=
  ∀ (pins : List (Addr × Obj)) (s : Shared) (σ : St) (H : Hp) (Q : Option Int → Hp → Prop), Inv X pins σ H s → t σ H Q →
    wpAny (model X.prog X.w) X.A (evalPart e X.env) (fun u s' => ∃ o H', Inv X pins σ H' s' ∧ IsPart u o ∧ Q o H') X.xe s
noncomputable def tNoPart : TO := fun _ H Q => Q none H
noncomputable def tPart (t : TE) : TO := fun σ H Q => t σ H fun x H1 => ∃ i, x = .int i ∧ Q (some i) H1
theorem intsAre_of {ns : List Int} : ∀ {us : List Value}, Vals (ns.map V.int) us → IntsAre us ns := by
  induction ns with
  | nil => intro us r; rw [List.map_nil] at r; cases r; exact .nil
  | cons n ns ih =>
    intro us r
    rw [List.map_cons] at r
    cases r with
    | cons r1 r2 =>
      obtain ⟨t, e⟩ := r1
      subst e
      exact .cons n t (ih r2)
section
variable {X : Cx} {e : Expr} {te : TE} {lo hi : Option Expr} {tl th : TO} {pos p2 : Pos}
theorem po_none : PO X none tNoPart := by
  intro pins s σ H Q I h
  rw [evalPart_none]
  exact wpAny_pure ⟨none, H, I, .none, h⟩
theorem po_some (h : PE X e te) : PO X (some e) (tPart te) := by
  intro pins s σ H Q I hw
  rw [evalPart_some]
  refine thn (h pins s σ H _ I hw) fun u s1 ⟨x, H1, I1, r1, q1⟩ => ?_
  obtain ⟨i, rfl, q⟩ := q1
  obtain ⟨t, rfl⟩ := r1
  exact ⟨some i, H1, I1, .int i t, q⟩
noncomputable def SlR (X : Cx) (r : V → Option Int → Option Int → Hp → VK → Prop) : Prop :=
  ∀ (pins : List (Addr × Obj)) (s : Shared) (σ : St) (H : Hp) (x : V) (v vl vu : Value) (lo hi : Option Int) (sl : Addr) (Q : VK), Inv X pins σ H s → RelV x v → s.heap.IsSliceOf sl vl vu .none → IsPart vl lo → IsPart vu hi → r x lo hi H Q →
    ∃ T id, typeLookup (.type T) "__getitem__" = pure (some (.builtin id)) ∧ s.TypeIs v T ∧ wpAny (model X.prog X.w) X.A (getItem v (.ref sl)) (EP X pins σ Q) X.xe s
noncomputable def tSl (r : V → Option Int → Option Int → Hp → VK → Prop) (te : TE) (tl th : TO) : TE := fun σ H Q => te σ H fun x H1 => tl σ H1 fun l H2 => th σ H2 fun u H3 => r x l u H3 Q
theorem pe_slice {r : V → Option Int → Option Int → Hp → VK → Prop} (hr : SlR X r) (he : PE X e te) (hl : PO X lo tl) (hu : PO X hi th) : PE X (.Subscript e (.Slice lo hi none p2) pos) (tSl r te tl th) := by
  intro pins s σ H Q I h
  refine Subscript_ (thn (he pins s σ H _ I h) fun v s1 ⟨x, H1, I1, r1, q1⟩ => ?_)
  refine wpAny_Slice (thn (hl pins s1 σ H1 _ I1 q1) fun vl s2 ⟨l, H2, I2, pl, q2⟩ => thn (hu pins s2 σ H2 _ I2 q2) fun vu s3 ⟨u, H3, I3, pu, q3⟩ => ?_)
  rw [evalPart_none]
  refine wpAny_pure ?_
  have I4 : Inv X pins σ H3 { s3 with heap := s3.heap.push { cls := .type "slice", data := .fields #[vl, vu, .none] } } := I3.kept (t' := s3.toks) fun b ob q => Heap.get?_push_of_some _ q
  obtain ⟨T, id, hT, ht, hg⟩ := hr pins { s3 with heap := s3.heap.push { cls := .type "slice", data := .fields #[vl, vu, .none] } } σ H3 x v vl vu l u s3.heap.objs.size Q I4 r1 (Heap.IsSliceOf.new ..) pl pu q3
  show wpAny (model X.prog X.w) X.A (subscriptTail e (.Slice lo hi none p2) v (.ref s3.heap.objs.size)) (EP X pins σ Q) X.xe { s3 with heap := s3.heap.push { cls := .type "slice", data := .fields #[vl, vu, .none] } }
  exact tail_any (ops := [.ref s3.heap.objs.size, v]) ht hT hg (by with_unfolding_all rfl)
noncomputable def cutV (xs : List V) (lo hi : Option Int) : List V := (xs.drop (HT.sIx xs.length 0 lo)).take (HT.sIx xs.length xs.length hi - HT.sIx xs.length 0 lo)
theorem cutV_length (xs : List V) (lo hi : Option Int) : (cutV xs lo hi).length ≤ xs.length := by
  unfold cutV
  rw [List.length_take, List.length_drop]
  omega
end
end L2
namespace L2
open PySem PySem.Spec PyProof.Rows
noncomputable def ixN (n : Nat) (i : Int) : Option Nat := if 0 ≤ i then (if i < n then some i.toNat else none) else if -(n : Int) ≤ i then some (i + n).toNat else none
noncomputable def atI {α : Type} (xs : List α) (i : Int) : Option α := (ixN xs.length i).bind fun j => xs[j]?
theorem ixN_seq {n : Nat} {i : Int} {j : Nat} (h : ixN n i = some j) : seqIndex? i n = some j ∧ j < n ∧ -(n : Int) ≤ i ∧ i < n := by
  unfold ixN at h
  by_cases h0 : 0 ≤ i
  · rw [if_pos h0] at h
    by_cases h1 : i < n
    · rw [if_pos h1] at h
      have e : i.toNat = j := Option.some.inj h
      exact ⟨by rw [seqIndex_of h0 h1, e], by omega, by omega, h1⟩
    · rw [if_neg h1] at h; cases h
  · rw [if_neg h0] at h
    by_cases h1 : -(n : Int) ≤ i
    · rw [if_pos h1] at h
      have e : (i + n).toNat = j := Option.some.inj h
      exact ⟨by rw [seqIndex_neg (by omega) h1, e], by omega, h1, by omega⟩
    · rw [if_neg h1] at h; cases h
theorem atI_get {α : Type} {xs : List α} {i : Int} {v : α} (h : atI xs i = some v) : ∃ j, seqIndex? i xs.length = some j ∧ xs[j]? = some v ∧ j < xs.length ∧ -(xs.length : Int) ≤ i ∧ i < xs.length := by
  unfold atI at h
  cases e : ixN xs.length i with
  | none => rw [e] at h; cases h
  | some j =>
    rw [e] at h
    obtain ⟨h1, h2, h3, h4⟩ := ixN_seq e
    exact ⟨j, h1, h, h2, h3, h4⟩
theorem atI_nat {α : Type} {xs : List α} {j : Nat} {v : α} (h : xs[j]? = some v) : atI xs (j : Int) = some v := by
  have hj : j < xs.length := (List.getElem?_eq_some_iff.mp h).1
  have e : ixN xs.length (j : Int) = some j := by
    unfold ixN
    rw [if_pos (by omega), if_pos (by omega)]; simp
  unfold atI; rw [e]; exact h
noncomputable def PlainIx (b : Expr) : Prop := ∀ o i, subscripted b false o i = operate [o, i] (getItem o i)
noncomputable def IxR (X : Cx) (r : R2) : Prop :=
  ∀ (value slice : Expr) (pins : List (Addr × Obj)) (s : Shared) (σ : St) (H : Hp) (x y : V) (v u : Value) (Q : VK), Inv X pins σ H s → RelV x v → RelV y u → r x y H Q →
    subscripted slice false v u = operate [v, u] (getItem v u) → wpAny (model X.prog X.w) X.A (subscriptTail value slice v u) (EP X pins σ Q) X.xe s
noncomputable def MtR (X : Cx) (id : String) (r : V → List V → Hp → VK → Prop) : Prop :=
  ∀ (pins : List (Addr × Obj)) (s : Shared) (σ : St) (H : Hp) (x : V) (xs : List V) (v : Value) (us : List Value) (Q : VK), Inv X pins σ H s → RelV x v → Vals xs us → r x xs H Q →
    wpAny (model X.prog X.w) X.A (call (.builtin id) (v :: us)) (EP X pins σ Q) X.xe s
section
variable {X : Cx} {a b : Expr} {ta tb : TE} {pos : Pos}
theorem pe_ix {r : R2} (hr : IxR X r) (ha : PE X a ta) (hb : PE X b tb) (hs : PlainIx b) : PE X (.Subscript a b pos) (tOp r ta tb) := by
  intro pins s σ H Q I h
  exact Subscript_ (binT ha hb I h fun v u s2 x y H2 I2 rx ry q => hr a b pins s2 σ H2 x y v u Q I2 rx ry q (hs _ _))
noncomputable def rIxL (K : PySem.W.Frag) : R2 := fun x y H Q => ∃ p xs i v, x = .ref p ∧ y = .int i ∧ SqL K H p xs ∧ atI xs i = some v ∧ Q v H
noncomputable def rIxT (K : PySem.W.Frag) : R2 := fun x y H Q => ∃ p xs i v, x = .ref p ∧ y = .int i ∧ SqT K H p xs ∧ atI xs i = some v ∧ Q v H
noncomputable def rIxS : R2 := fun x y H Q => ∃ z i c, x = .str z ∧ y = .int i ∧ z.length ≤ sizeLine ∧ atI z.cps.toList i = some c ∧ Q (.str ⟨#[c]⟩) H
theorem ix_list : IxR X (rIxL X.K) := by
  intro value slice pins s σ H x y v u Q I rx ry h hs
  obtain ⟨p, xs, i, z, rfl, rfl, hq, he, q⟩ := h
  cases rx
  obtain ⟨t, rfl⟩ := ry
  obtain ⟨its, r, pl, hz⟩ := I.list hq
  obtain ⟨j, h1, h2, h3, h4, h5⟩ := atI_get he
  obtain ⟨w, ew, rw'⟩ := r.get h2
  have hl := r.length
  have hn := line63
  have fin : EP X pins σ Q w s := ⟨z, H, I, rw', q⟩
  by_cases h0 : 0 ≤ i
  · have hj : i.toNat = j := by
      rw [seqIndex_of h0 h5] at h1
      exact Option.some.inj h1
    exact item_listR pl.isList h0 (by omega) (by rw [hj]; simpa using ew) fin hs
  · have hj : (i + (its.toArray.size : Int)).toNat = j := by
      rw [seqIndex_neg (by omega) h4] at h1
      rw [List.size_toArray, ← hl]
      exact Option.some.inj h1
    exact subscriptTail_builtinR (x := w) pl.isList.typeIs slot_list_getitem.lookup
      (wpAny_getItem_list_neg (Q := fun r s' => r = w ∧ EP X pins σ Q r s') pl.isList (by omega) (by rw [List.size_toArray] <;> omega) (by omega) (by rw [hj]; simpa using ew) ⟨rfl, fin⟩) hs
theorem ix_tup : IxR X (rIxT X.K) := by
  intro value slice pins s σ H x y v u Q I rx ry h hs
  obtain ⟨p, xs, i, z, rfl, rfl, hq, he, q⟩ := h
  cases rx
  obtain ⟨t, rfl⟩ := ry
  obtain ⟨its, r, pl, hz⟩ := I.tuple hq
  obtain ⟨j, h1, h2, h3, h4, h5⟩ := atI_get he
  obtain ⟨w, ew, rw'⟩ := r.get h2
  have hl := r.length
  have hn := line63
  have fin : EP X pins σ Q w s := ⟨z, H, I, rw', q⟩
  exact subscriptTail_builtinR (x := w) pl.typeIs slot_tuple_getitem.lookup
    (getItem_tuple (j := j) (Q := fun r s' => r = w ∧ EP X pins σ Q r s') pl (by omega) (by omega) (by rw [List.size_toArray, ← hl]; exact h1) (by simpa using ew) ⟨rfl, fin⟩) hs
theorem ix_str : IxR X rIxS := by
  intro value slice pins s σ H x y v u Q I rx ry h hs
  obtain ⟨z, i, c, rfl, rfl, hz, he, q⟩ := h
  obtain ⟨t, rfl⟩ := rx
  obtain ⟨t', rfl⟩ := ry
  obtain ⟨j, h1, h2, h3, h4, h5⟩ := atI_get he
  have hl : z.cps.toList.length = z.length := by simp [Str.length]
  rw [hl] at h1 h4 h5
  have hn := line63
  exact tail_any (typeIs_str s z t) slot_str_getitem.lookup (getItem_str (c := c) (by
    have e1 : decide (i < -(2 ^ 63 : Int)) = false := decide_eq_false (by omega)
    have e2 : decide (i ≥ 2 ^ 63) = false := decide_eq_false (by omega)
    rw [e1, e2, Bool.or_false]) (by rw [h1]; simpa using h2) ⟨.str ⟨#[c]⟩, H, I.tok _, ⟨_, rfl⟩, q⟩) hs
theorem slice_bounds (lo hi : Option Int) (n : Nat) : (sliceBounds lo hi none n).1 = ((HT.sIx n 0 lo : Nat) : Int) ∧ (sliceBounds lo hi none n).2.1 = ((HT.sIx n n hi : Nat) : Int) ∧ (sliceBounds lo hi none n).2.2 = 1 := by
  refine ⟨?_, ?_, rfl⟩
  · cases lo with
    | none => simp [sliceBounds, HT.sIx]
    | some i =>
      simp only [sliceBounds, HT.sIx, Option.getD_none, show (1 : Int) > 0 by decide, if_true]
      by_cases h : i < 0
      · simp only [h, if_true] <;> omega
      · simp only [h, if_false] <;> omega
  · cases hi with
    | none => simp [sliceBounds, HT.sIx]
    | some i =>
      simp only [sliceBounds, HT.sIx, Option.getD_none, show (1 : Int) > 0 by decide, if_true]
      by_cases h : i < 0
      · simp only [h, if_true] <;> omega
      · simp only [h, if_false] <;> omega
theorem slicePick_cut (its : List Value) (lo hi : Option Int) : slicePick its.toArray lo hi none = ((its.drop (HT.sIx its.length 0 lo)).take (HT.sIx its.length its.length hi - HT.sIx its.length 0 lo)).toArray := by
  obtain ⟨h1, h2, h3⟩ := slice_bounds lo hi its.toArray.size
  unfold slicePick
  rw [h1, h2, h3]
  simp only [sliceRange_one, pick_run, List.size_toArray] <;> rfl
noncomputable def rSlL (K : PySem.W.Frag) : V → Option Int → Option Int → Hp → VK → Prop := fun x lo hi H Q => ∃ a xs, x = .ref a ∧ SqL K H a xs ∧ ∀ p, H p = none → Q (.ref p) (upd H p (.lst (cutV xs lo hi)))
theorem sl_list : SlR X (rSlL X.K) := by
  intro pins s σ H x v vl vu lo hi sl Q I rx hs pl pu h
  obtain ⟨a, xs, rfl, hx, q⟩ := h
  cases rx
  obtain ⟨its, r, ht, hz⟩ := I.list hx
  have hlen := r.length
  refine ⟨"list", _, slot_list_getitem.lookup, ht.isList.typeIs, ?_⟩
  refine wpAny_getItem_list_slice ht.isList hs pl pu .none (by simp) ?_ (by rw [List.size_toArray] <;> omega)
  rw [slicePick_cut, ← hlen]
  refine ⟨.ref s.heap.objs.size, _, I.laid (t' := s.toks) (o := .lst (cutV xs lo hi)) (fun b ob q => Heap.get?_push_of_some _ q) (Nat.le_refl _) ?_, rfl, q _ (I.hok.fresh (Nat.le_refl _))⟩
  exact ⟨Nat.le_trans (cutV_length xs lo hi) hz, _, 0, (r.drop (HT.sIx xs.length 0 lo)).take (HT.sIx xs.length xs.length hi - HT.sIx xs.length 0 lo), Heap.get?_push_size _ rfl⟩
noncomputable def flatV : V → Bool
  | .non => true
  | .bl _ => true
  | .int _ => true
  | .str _ => true
  | _ => false
noncomputable def eqV : V → V → Bool
  | .non, .non => true
  | .bl a, .bl b => a == b
  | .bl a, .int b => (if a then 1 else 0) == b
  | .int a, .bl b => a == (if b then 1 else 0)
  | .int a, .int b => a == b
  | .str a, .str b => a == b
  | _, _ => false
theorem eqAt_V {A : Around} {s : Shared} {y x : V} {u v : Value} (ry : RelV y u) (rx : RelV x v) (fy : flatV y = true) (fx : flatV x = true) : SeqAt.EqAt A s u v (eqV y x) := by
  cases y with
  | non =>
    cases ry
    cases x with
    | non => cases rx; exact SeqAt.EqAt.same _
    | bl b => cases rx; exact SeqAt.EqAt.none_bool b
    | int b => obtain ⟨t, rfl⟩ := rx; exact SeqAt.EqAt.none_int b t
    | str b => obtain ⟨t, rfl⟩ := rx; exact SeqAt.EqAt.none_str b t
    | _ => exact absurd (show false = true from fx) Bool.false_ne_true
  | bl a =>
    cases ry
    cases x with
    | non => cases rx; exact SeqAt.EqAt.bool_none a
    | bl b => cases rx; exact SeqAt.EqAt.bool_bool a b
    | int b => obtain ⟨t, rfl⟩ := rx; exact SeqAt.EqAt.bool_int a b t
    | str b => obtain ⟨t, rfl⟩ := rx; exact SeqAt.EqAt.bool_str a b t
    | _ => exact absurd (show false = true from fx) Bool.false_ne_true
  | int a =>
    obtain ⟨t', rfl⟩ := ry
    cases x with
    | non => cases rx; exact SeqAt.EqAt.int_none a t'
    | bl b => cases rx; exact SeqAt.EqAt.int_bool a t' b
    | int b => obtain ⟨t, rfl⟩ := rx; exact SeqAt.EqAt.int_int a t' b t
    | str b => obtain ⟨t, rfl⟩ := rx; exact SeqAt.EqAt.int_str a t' b t
    | _ => exact absurd (show false = true from fx) Bool.false_ne_true
  | str a =>
    obtain ⟨t', rfl⟩ := ry
    cases x with
    | non => cases rx; exact SeqAt.EqAt.str_none a t'
    | bl b => cases rx; exact SeqAt.EqAt.str_bool a t' b
    | int b => obtain ⟨t, rfl⟩ := rx; exact SeqAt.EqAt.str_int a t' b t
    | str b => obtain ⟨t, rfl⟩ := rx; exact SeqAt.EqAt.str_str a t' b t
    | _ => exact absurd (show false = true from fx) Bool.false_ne_true
  | _ => exact absurd (show false = true from fy) Bool.false_ne_true
noncomputable def eqU (x : V) (u : Value) : Bool := match u with
  | .none => eqV .non x
  | .bool b => eqV (.bl b) x
  | .int i _ => eqV (.int i) x
  | .str z _ => eqV (.str z) x
  | _ => false
theorem eqU_of {x y : V} {u : Value} (r : RelV y u) (f : flatV y = true) : eqU x u = eqV y x := by
  cases y with
  | non => cases r; rfl
  | bl b => cases r; rfl
  | int i => obtain ⟨t, rfl⟩ := r; rfl
  | str z => obtain ⟨t, rfl⟩ := r; rfl
  | _ => exact absurd (show false = true from f) Bool.false_ne_true
theorem any_eqU {x : V} : ∀ {xs : List V} {us : List Value}, Vals xs us → xs.all flatV = true → us.any (eqU x) = xs.any fun y => eqV y x
  | _, _, .nil, _ => rfl
  | y :: xs, u :: us, .cons r t, f => by
    rw [List.all_cons, Bool.and_eq_true] at f
    rw [List.any_cons, List.any_cons, eqU_of r f.1, any_eqU t f.2]
theorem mem_eqAt {A : Around} {s : Shared} {x : V} {v : Value} (rx : RelV x v) (fx : flatV x = true) : ∀ {xs : List V} {us : List Value}, Vals xs us → xs.all flatV = true → ∀ u ∈ us, SeqAt.EqAt A s u v (eqU x u)
  | _, _, .nil, _ => fun u hu => by cases hu
  | y :: xs, u :: us, .cons r t, f => fun u' hu => by
    rw [List.all_cons, Bool.and_eq_true] at f
    rcases List.mem_cons.mp hu with rfl | hu
    · rw [eqU_of r f.1]; exact eqAt_V r rx f.1 fx
    · exact mem_eqAt rx fx t f.2 u' hu
noncomputable def inV (x : V) (xs : List V) : Bool := xs.any fun y => eqV y x
noncomputable def rIn (K : PySem.W.Frag) (neg : Bool) : R2 := fun x y H Q => ∃ p xs, y = .ref p ∧ (SqL K H p xs ∨ SqT K H p xs) ∧ flatV x = true ∧ xs.all flatV = true ∧ Q (.bl (if neg then !inV x xs else inV x xs)) H
theorem op_in_seq : OpR X (compareOp .In) (rIn X.K false) := by
  intro pins s σ H x y v u Q I rx ry h
  obtain ⟨p, xs, rfl, hq, fx, fs, q⟩ := h
  cases ry
  rcases hq with hq | hq
  · obtain ⟨its, r, pl, hz⟩ := I.list hq
    refine SeqAt.in_listAt (eqU x) pl.isList (fun w hw => mem_eqAt rx fx r fs w (by simpa using hw)) ⟨.bl _, H, I, rfl, ?_⟩
    rw [show its.toArray.any (eqU x) = its.any (eqU x) by simp, any_eqU r fs]
    exact q
  · obtain ⟨its, r, pl, hz⟩ := I.tuple hq
    refine SeqAt.in_tupleAt (eqU x) pl (fun w hw => mem_eqAt rx fx r fs w (by simpa using hw)) ⟨.bl _, H, I, rfl, ?_⟩
    rw [show its.toArray.any (eqU x) = its.any (eqU x) by simp, any_eqU r fs]
    exact q
theorem call_len_seq : CallR X (.builtin "len") (fun xs H Q => ∃ p ys, xs = [.ref p] ∧ (SqL X.K H p ys ∨ SqT X.K H p ys) ∧ Q (.int ys.length) H) := by
  intro pins s σ H xs us Q I r h
  obtain ⟨p, ys, rfl, hq, q⟩ := h
  obtain ⟨u, rfl, rx⟩ := vals1 r
  cases rx
  have hn := line63
  rcases hq with hq | hq
  · obtain ⟨its, r', pl, hz⟩ := I.list hq
    have hlen := r'.length
    exact Calls.call_len_list pl.isList (by simp only [List.size_toArray] <;> omega) ⟨.int ys.length, H, I.tok _, ⟨s.toks + 1, by rw [List.size_toArray, hlen]⟩, q⟩
  · obtain ⟨its, r', pl, hz⟩ := I.tuple hq
    have hlen := r'.length
    exact len_tuple pl (by simp only [List.size_toArray] <;> omega) ⟨.int ys.length, H, I.tok _, ⟨s.toks + 1, by rw [List.size_toArray, hlen]⟩, q⟩
theorem call_list_of : CallR X (.type "list") (fun xs H Q => ∃ p ys, xs = [.ref p] ∧ (SqL X.K H p ys ∨ SqT X.K H p ys) ∧ ∀ l, H l = none → Q (.ref l) (upd H l (.lst ys))) := by
  intro pins s σ H xs us Q I r h
  obtain ⟨p, ys, rfl, hq, q⟩ := h
  obtain ⟨u, rfl, rx⟩ := vals1 r
  cases rx
  have fin : ∀ (its : List Value), Vals ys its → ys.length ≤ sizeLine → ∀ (h' : Heap) (c' : Nat), (∀ b o', s.heap.get? b = some o' → h'.get? b = some o') →
      h'.get? s.heap.objs.size = some { cls := .type "list", dict := none, data := .seq its.toArray c', slots := #[] } → EP X pins σ Q (.ref s.heap.objs.size) { s with heap := h' } := fun its r' hz h' c' kp e =>
    ⟨.ref s.heap.objs.size, _, I.laid (t' := s.toks) kp (Nat.le_refl _) (show ObjOk X.prog X.w _ h' _ (.lst ys) from ⟨hz, its, c', r', e⟩), rfl, q _ (I.hok.fresh (Nat.le_refl _))⟩
  rcases hq with hq | hq
  · obtain ⟨its, r', pl, hz⟩ := I.list hq
    have hlen := r'.length
    obtain ⟨o, ho, hc, n, hd⟩ := pl.isList
    exact call_list_seq p (.inl rfl) ho hc hd (fun h' c' kp e => fin its r' hz h' c' kp e) (by simp only [List.size_toArray] <;> omega)
  · obtain ⟨its, r', pl, hz⟩ := I.tuple hq
    have hlen := r'.length
    obtain ⟨o, ho, hc, n, hd⟩ := pl
    exact call_list_seq p (.inr rfl) ho hc hd (fun h' c' kp e => fin its r' hz h' c' kp e) (by simp only [List.size_toArray] <;> omega)
theorem call_tuple_of : CallR X (.type "tuple") (fun xs H Q => ∃ p ys, xs = [.ref p] ∧ ((SqL X.K H p ys ∧ ∀ l, H l = none → Q (.ref l) (upd H l (.tup ys))) ∨ (SqT X.K H p ys ∧ Q (.ref p) H))) := by
  intro pins s σ H xs us Q I r h
  obtain ⟨p, ys, rfl, h⟩ := h
  obtain ⟨u, rfl, rx⟩ := vals1 r
  cases rx
  rcases h with ⟨hq, q⟩ | ⟨hq, q⟩
  · obtain ⟨its, r', pl, hz⟩ := I.list hq
    have hlen := r'.length
    refine call_tuple_list pl.isList (fun h' kp => ?_) (by simp only [List.size_toArray] <;> omega)
    have I1 : Inv X pins σ H { s with heap := h' } := I.kept (t' := s.toks) kp
    have I2 : Inv X pins σ (upd H h'.objs.size (.tup ys)) { s with heap := h'.push { cls := .type "tuple", data := .seq its.toArray } } :=
      I1.laid (t' := s.toks) (fun b o e => Heap.get?_push_of_some _ e) (Nat.le_refl _) (show ObjOk X.prog X.w _ _ _ (.tup ys) from ⟨hz, its, r', IsTup.new _ _⟩)
    exact ⟨.ref h'.objs.size, _, I2, rfl, q _ (I1.hok.fresh (Nat.le_refl _))⟩
  · obtain ⟨its, r', pl, hz⟩ := I.tuple hq
    exact call_tuple_same pl ⟨.ref p, H, I, rfl, q⟩
noncomputable def tyV (K : PySem.W.Frag) (T : String) (x : V) (H : Hp) : Prop := match x with
  | .str _ => T = "str"
  | .int _ => T = "int"
  | .ref p => (T = "list" ∧ ∃ xs, SqL K H p xs) ∨ (T = "tuple" ∧ ∃ o, K.lookup p = some o ∧ o.cls = .type "tuple" ∧ o.dict = none) ∨
      (T = "dict" ∧ ((∃ kvs, H p = some (.dK kvs)) ∨ ∃ kvs, H p = some (.dT kvs))) ∨ (T = "set" ∧ ∃ S n, H p = some (.set S n))
  | _ => False
theorem tyV_is {pins : List (Addr × Obj)} {σ : St} {H : Hp} {s : Shared} {T : String} {x : V} {v : Value} (I : Inv X pins σ H s) (r : RelV x v) (ty : tyV X.K T x H) :
    s.TypeIs v T ∧ ∀ a, v = .ref a → ∃ ob, s.heap.get? a = some ob ∧ ob.dict = none := by
  cases x with
  | str z =>
    obtain ⟨t, rfl⟩ := r
    cases (show T = "str" from ty)
    exact ⟨typeIs_str s z t, fun _ e => nomatch e⟩
  | int i =>
    obtain ⟨t, rfl⟩ := r
    cases (show T = "int" from ty)
    exact ⟨typeIs_int s i t, fun _ e => nomatch e⟩
  | ref p =>
    cases r
    rcases ty with ⟨rfl, xs, hq⟩ | ⟨rfl, o, hk, hc, hd⟩ | ⟨rfl, hk⟩ | ⟨rfl, S, n, hk⟩
    · obtain ⟨its, _, pl, _⟩ := I.list hq
      refine ⟨pl.isList.typeIs, fun a e => ?_⟩
      cases e
      obtain ⟨o, n, e, c, hd, _⟩ := pl
      exact ⟨o, e, hd⟩
    · refine ⟨⟨o, I.kIn p o hk, hc⟩, fun a e => ?_⟩
      cases e
      exact ⟨o, I.kIn _ o hk, hd⟩
    · have z : ∃ o, s.heap.get? p = some o ∧ o.ExactDict := by
        rcases hk with ⟨kvs, hk⟩ | ⟨kvs, hk⟩
        · obtain ⟨_, _, _, _, o, _, _, e, ex, _⟩ := I.hok p _ hk
          exact ⟨o, e, ex⟩
        · obtain ⟨_, _, _, _, o, _, _, e, ex, _⟩ := I.hok p _ hk
          exact ⟨o, e, ex⟩
      obtain ⟨o, e, ex⟩ := z
      refine ⟨⟨o, e, ex.1⟩, fun a e2 => ?_⟩
      cases e2
      exact ⟨o, e, ex.2.1⟩
    · obtain ⟨o, _, _, _, e, ex, _⟩ := I.hok p _ hk
      refine ⟨⟨o, e, ex.1⟩, fun a e2 => ?_⟩
      cases e2
      exact ⟨o, e, ex.2.1⟩
  | _ => exact False.elim ty
noncomputable def tBM0 (K : PySem.W.Frag) (T : String) (r : V → List V → Hp → VK → Prop) (to : TE) : TE := fun σ H Q => to σ H fun x H1 => tyV K T x H1 ∧ r x [] H1 Q
noncomputable def tBM (K : PySem.W.Frag) (T : String) (r : V → List V → Hp → VK → Prop) (to : TE) (t : TA) : TE := fun σ H Q => to σ H fun x H1 => tyV K T x H1 ∧ t σ H1 fun xs H2 => r x xs H2 Q
variable {o e : Expr} {es : List Expr} {to : TE} {t : TA} {name : Str} {apos cpos : Pos} {T id : String} {r : V → List V → Hp → VK → Prop}
theorem pe_bm0 (pa : PlainAttrs T) (slot : Slot T name id) (hty : typeOf (.builtin id) = pure (.type "method_descriptor")) (hm : MtR X id r) (ho : PE X o to)
    (hbase : attributeBase o name X.env (eval o X.env) = eval o X.env := by rfl) (hline : (apos.endLine == cpos.line) = true := by rfl) : PE X (.Call (.Attribute o name apos) [] [] cpos) (tBM0 X.K T r to) := by
  intro pins s σ H Q I h
  refine wpAny_Call_method0_late hbase hline (thn (ho pins s σ H _ I h) fun v s1 ⟨x, H1, I1, r1, ty, q1⟩ => ?_)
  obtain ⟨h1, h2⟩ := tyV_is I1 r1 ty
  exact ⟨T, id, pa, slot, hty, h1, h2, Calls.callWith_builtin rfl (PySem.evalArgs_none (hm pins s1 σ H1 x [] v [] Q I1 r1 .nil q1))⟩
theorem pe_bm (pa : PlainAttrs T) (slot : Slot T name id) (hty : typeOf (.builtin id) = pure (.type "method_descriptor")) (hm : MtR X id r) (ho : PE X o to) (ha : PA X (e :: es) t)
    (hbase : attributeBase o name X.env (eval o X.env) = eval o X.env := by rfl)
    (hfew : ((backTo cpos (starEach (e :: es) X.env)).all (fun x => !x.1) && (backToKw cpos (keywordEach [] X.env)).all (fun x => x.1.isSome)
      && decide ((e :: es).length + ([] : List Keyword).length + (if ([] : List Keyword).isEmpty then 0 else 1) < 30)) = true := by rfl)
    (hline : (apos.endLine == cpos.line) = true := by rfl) (hs : starEach (e :: es) X.env = (false, eval e X.env) :: starEach es X.env := by rfl) (hplain : (backTo cpos (starEach es X.env)).any (·.1) = false := by rfl) :
    PE X (.Call (.Attribute o name apos) (e :: es) [] cpos) (tBM X.K T r to t) := by
  intro pins s σ H Q I h
  refine wpAny_Call_method_late hbase hfew hline rfl (thn (ho pins s σ H _ I h) fun v s1 ⟨x, H1, I1, r1, ty, q1⟩ => ?_)
  obtain ⟨h1, h2⟩ := tyV_is I1 r1 ty
  refine ⟨T, id, pa, slot, hty, h1, h2, ?_⟩
  have hA := ha cpos pins s1 σ H1 _ I1 q1
  rw [hs] at hA ⊢
  refine Calls.callWith_builtin (by show (false || (backTo cpos (starEach es X.env)).any (·.1)) = false; rw [hplain] <;> rfl) (Calls.evalArgs_plain ?_)
  exact thn hA fun us s2 ⟨vs, H2, I2, r2, q2⟩ => hm pins s2 σ H2 x vs v us Q I2 r1 r2 q2
end
end L2
namespace L2
open PySem PySem.Spec PyProof.Rows
noncomputable def MtM (X : Cx) (id : String) (r : V → List V → Hp → VK → Prop) : Prop :=
  ∀ (pins : List (Addr × Obj)) (s : Shared) (σ : St) (H : Hp) (x : V) (xs : List V) (v : Value) (us : List Value) (Q : VK), Inv X pins σ H s → RelV x v → Vals xs us → r x xs H Q →
    wpAny (model X.prog X.w) X.A (call (.builtin id) (v :: us)) (EP X pins σ Q) X.xe s
theorem Vals.one : ∀ {x : V} {us : List Value}, Vals [x] us → ∃ u, us = [u] ∧ RelV x u
  | _, _, .cons r .nil => ⟨_, rfl, r⟩
theorem Vals.zero : ∀ {us : List Value}, Vals [] us → us = []
  | _, .nil => rfl
theorem Vals.dropLast {xs : List V} {us : List Value} (h : Vals xs us) : Vals xs.dropLast us.dropLast := by
  induction h with
  | nil => exact .nil
  | cons r t ih =>
    cases t with
    | nil => exact .nil
    | cons q t' => exact .cons r ih
theorem Vals.eraseIdx : ∀ {xs : List V} {us : List Value} (i : Nat), Vals xs us → Vals (xs.eraseIdx i) (us.eraseIdx i)
  | _, _, _, .nil => .nil
  | _, _, 0, .cons _ t => t
  | _, _, i + 1, .cons r t => .cons r (Vals.eraseIdx i t)
theorem Vals.reverse {xs : List V} {us : List Value} (h : Vals xs us) : Vals xs.reverse us.reverse := by
  induction h with
  | nil => exact .nil
  | cons r t ih => rw [List.reverse_cons, List.reverse_cons]; exact Vals.append ih (.cons r .nil)
theorem erase_last {α : Type} (l : List α) : l.eraseIdx (l.length - 1) = l.dropLast := by
  induction l with
  | nil => rfl
  | cons a r ih =>
    cases r with
    | nil => rfl
    | cons b r =>
      have e : (a :: b :: r).length - 1 = ((b :: r).length - 1) + 1 := by
        have h1 : (a :: b :: r).length = r.length + 2 := rfl
        have h2 : (b :: r).length = r.length + 1 := rfl
        omega
      rw [e, List.eraseIdx_cons_succ, ih]
      all_goals rfl
theorem len_erase {α : Type} : ∀ (l : List α) (i : Nat), (l.eraseIdx i).length ≤ l.length
  | [], _ => Nat.le_refl _
  | _ :: _, 0 => Nat.le_succ _
  | _ :: r, i + 1 => Nat.succ_le_succ (len_erase r i)
section
variable {X : Cx} {pins : List (Addr × Obj)} {σ : St} {H : Hp} {s : Shared} {l b : Addr} {xs ys zs : List V}
theorem Inv.lset {its its' : List Value} {n : Nat} {f : Array Value → Array Value} {t' : Nat} (I : Inv X pins σ H s) (hH : H l = some (.lst xs))
    (e : s.heap.get? l = some { cls := .type "list", data := .seq its.toArray n }) (hf : f its.toArray = its'.toArray) (hv : Vals ys its') (hz : ys.length ≤ sizeLine) :
    Inv X pins σ (upd H l (.lst ys)) { s with heap := s.heap.update l (Obj.mapSeq f), toks := t' } := by
  have q := PySem.IsL.update e f
  rw [hf] at q
  refine I.write (x := l) (e := l) (by rw [hH]; exact trivial) (.inl rfl) (fun b' u hb hu => (Heap.get?_update_other s.heap (Obj.mapSeq f) (Ne.symm hb)).trans hu) ⟨_, q⟩ ?_
  exact ⟨hz, its', _, hv, q⟩
theorem Inv.lstM (I : Inv X pins σ H s) (hH : H l = some (.lst xs)) : xs.length ≤ sizeLine ∧ ∃ (its : List Value) (n : Nat), Vals xs its ∧ xs.length = its.length ∧ s.heap.get? l = some { cls := .type "list", data := .seq its.toArray n } := by
  obtain ⟨z, its, n, r, e⟩ := I.hok l _ hH
  exact ⟨z, its, n, r, r.length, e⟩
theorem notLongL {n : Nat} (h : n ≤ sizeLine) : Builtin.List.listTooLong n = false := by
  unfold Builtin.List.listTooLong
  exact decide_eq_false (by omega)
end
section
variable {X : Cx}
noncomputable def rAppend : V → List V → Hp → VK → Prop := fun x vs H Q => ∃ l xs y, x = .ref l ∧ vs = [y] ∧ H l = some (.lst xs) ∧ xs.length < sizeLine ∧ Q .non (upd H l (.lst (xs ++ [y])))
theorem mt_append : MtM X "list.append" rAppend := by
  intro pins s σ H x vs v us Q I rx rv h
  obtain ⟨l, xs, y, rfl, rfl, hH, hz, q⟩ := h
  cases rx
  obtain ⟨u, rfl, ru⟩ := rv.one
  obtain ⟨z, its, n, r, hl, e⟩ := I.lstM hH
  refine call_meets F.slot_list_append ⟨_, e, rfl⟩ F.entry_list_append (F.args_list_append_2 _ _) (PySem.list_append l its.toArray n u (by rw [List.size_toArray]; omega)) ⟨e, ?_⟩
  refine ⟨.non, _, I.lset (its' := its ++ [u]) hH e (by simp) (r.append (.cons ru .nil)) ?_, rfl, q⟩
  rw [List.length_append, List.length_singleton]
  omega
noncomputable def rExtend : V → List V → Hp → VK → Prop := fun x vs H Q => ∃ l b xs zs, x = .ref l ∧ vs = [.ref b] ∧ H l = some (.lst xs) ∧ H b = some (.lst zs) ∧ xs.length + zs.length ≤ sizeLine ∧ Q .non (upd H l (.lst (xs ++ zs)))
theorem mt_extend : MtM X "list.extend" rExtend := by
  intro pins s σ H x vs v us Q I rx rv h
  obtain ⟨l, b, xs, zs, rfl, rfl, hH, hB, hz, q⟩ := h
  cases rx
  obtain ⟨u, rfl, ru⟩ := rv.one
  cases ru
  obtain ⟨z, its, n, r, hl, e⟩ := I.lstM hH
  obtain ⟨z2, its2, n2, r2, hl2, e2⟩ := I.lstM hB
  have hsz : its.toArray.size + its2.toArray.size ≤ sizeLine := by rw [List.size_toArray, List.size_toArray]; omega
  have hlong : ¬ (!its.toArray.isEmpty && Builtin.List.listTooLong (its.toArray.size + its2.toArray.size)) = true := by
    rw [notLongL hsz, Bool.and_false]
    exact Bool.false_ne_true
  refine call_meets F.slot_list_extend ⟨_, e, rfl⟩ F.entry_list_extend (F.args_list_extend_2 _ _)
    (AutoSeq1.list_extend_list_list_0 l its.toArray n b its2.toArray n2 hlong (by rw [List.size_toArray]; omega) (by omega)) ⟨e, e2, ?_⟩
  refine ⟨.non, _, I.lset (its' := its ++ its2) hH e (by simp) (r.append r2) ?_, rfl, q⟩
  rw [List.length_append]
  omega
noncomputable def rPop : V → List V → Hp → VK → Prop := fun x vs H Q => ∃ l xs y, x = .ref l ∧ vs = [] ∧ H l = some (.lst xs) ∧ xs[xs.length - 1]? = some y ∧ Q y (upd H l (.lst xs.dropLast))
theorem mt_pop : MtM X "list.pop" rPop := by
  intro pins s σ H x vs v us Q I rx rv h
  obtain ⟨l, xs, y, rfl, rfl, hH, hy, q⟩ := h
  cases rx
  have hus := rv.zero
  subst hus
  obtain ⟨z, its, n, r, hl, e⟩ := I.lstM hH
  obtain ⟨u, hu, ru⟩ := r.get hy
  have hy' : its.toArray[its.toArray.size - 1]? = some u := by
    show its.toArray[its.length - 1]? = some u
    rw [← Array.getElem?_toList, ← hl]
    exact hu
  refine call_meets F.slot_list_pop ⟨_, e, rfl⟩ F.entry_list_pop (F.args_list_pop_1 _) (MeetsSeq.list_pop_last l its.toArray n u hy' (by rw [List.size_toArray]; omega)) ⟨e, ?_⟩
  refine ⟨y, _, I.lset (its' := its.dropLast) hH e ?_ r.dropLast ?_, ru, q⟩
  · show its.toArray.eraseIdxIfInBounds (its.toArray.size - 1) = its.dropLast.toArray
    rw [List.size_toArray, List.eraseIdxIfInBounds_toArray, erase_last]
  · rw [List.length_dropLast]
    omega
noncomputable def rPopAt : V → List V → Hp → VK → Prop := fun x vs H Q => ∃ l xs i k y, x = .ref l ∧ vs = [.int i] ∧ H l = some (.lst xs) ∧ -(2 ^ 63) ≤ i ∧ i < 2 ^ 63 ∧ seqIndex? i xs.length = some k ∧ xs[k]? = some y ∧ Q y (upd H l (.lst (xs.eraseIdx k)))
theorem mt_popAt : MtM X "list.pop" rPopAt := by
  intro pins s σ H x vs v us Q I rx rv h
  obtain ⟨l, xs, i, k, y, rfl, rfl, hH, h1, h2, hk, hy, q⟩ := h
  cases rx
  obtain ⟨u, rfl, ru⟩ := rv.one
  obtain ⟨t, rfl⟩ := ru
  obtain ⟨z, its, n, r, hl, e⟩ := I.lstM hH
  obtain ⟨w, hw, rw'⟩ := r.get hy
  refine call_meets F.slot_list_pop ⟨_, e, rfl⟩ F.entry_list_pop (F.args_list_pop_2 _ _)
    (MeetsSeq.list_pop_at l its.toArray n i t k w (fitsIndex_both h1 h2) (by rw [List.size_toArray, ← hl]; exact hk) (by rw [← Array.getElem?_toList]; exact hw) (by rw [List.size_toArray]; omega)) ⟨e, ?_⟩
  refine ⟨y, _, I.lset (its' := its.eraseIdx k) hH e ?_ (r.eraseIdx k) ?_, rw', q⟩
  · show its.toArray.eraseIdxIfInBounds k = (its.eraseIdx k).toArray
    rw [List.eraseIdxIfInBounds_toArray]
  · have := len_erase xs k
    omega
noncomputable def rReverse : V → List V → Hp → VK → Prop := fun x vs H Q => ∃ l xs, x = .ref l ∧ vs = [] ∧ H l = some (.lst xs) ∧ Q .non (upd H l (.lst xs.reverse))
theorem mt_reverse : MtM X "list.reverse" rReverse := by
  intro pins s σ H x vs v us Q I rx rv h
  obtain ⟨l, xs, rfl, rfl, hH, q⟩ := h
  cases rx
  have hus := rv.zero
  subst hus
  obtain ⟨z, its, n, r, hl, e⟩ := I.lstM hH
  refine call_meets F.slot_list_reverse ⟨_, e, rfl⟩ F.entry_list_reverse (F.args_list_reverse_1 _) (AutoSeq1.list_reverse_list_0 l its.toArray n (by rw [List.size_toArray]; omega)) ⟨e, ?_⟩
  refine ⟨.non, _, I.lset (its' := its.reverse) hH e (by simp) r.reverse ?_, rfl, q⟩
  rw [List.length_reverse]
  omega
end
section
variable {prog : Program} {w : World} {A : Around} {E : Value → Shared → Prop} {s : Shared}
set_option maxRecDepth 100000 in
end
section
variable {X : Cx}
end
end L2
namespace Att
open PySem PySem.W PySem.Calls PyProof.Rows
theorem ints_of_wellAll {P : Params} {h : Heap} : ∀ (ns : List Int) (vs : List Value), WellAll P h vs (ns.map WData.int) → IntsAre vs ns := by
  intro ns
  induction ns with
  | nil =>
    intro vs w
    rw [List.map_nil] at w
    cases w
    exact .nil
  | cons n ns ih =>
    intro vs w
    rw [List.map_cons] at w
    cases w with
    | cons a b =>
      cases a
      exact .cons _ _ (ih _ b)
theorem script_of {l : OpenLaw} {n : Nat} (hn : l.most = some n) {P : Params} {h : Heap} {args : List WData} {vals : List Value}
    (hpre : l.row.toRowW.claim.pre args = true) (hwl : WellAll P h vals args) :
    ∃ a vs ns, vals = [Value.ref a] ∧ args = [WData.list (ns.map WData.int)] ∧ h.get? a = some { cls := .type "list", data := .seq vs.toArray } ∧ IntsAre vs ns ∧ ns.length ≤ n := by
  have hsh : WShape.hasAll [] args [.list .int] = true := (pre_splitW hpre).1
  have hc : l.pre.holds [] { args := args } = true := (pre_splitW hpre).2
  obtain ⟨d, r, rfl, h1, h2⟩ := hasAllW_cons hsh
  obtain rfl := hasAllW_nil h2
  obtain ⟨xs, rfl, h3⟩ := hasW_list h1
  obtain ⟨ns, rfl⟩ := items_int h3
  have hlen : ns.length ≤ n := by
    unfold OpenLaw.pre at hc
    have h4 : (WTm.not (.lt (.lit (.int (n : Int))) (.len (.arg 0)))).holds [] { args := [.list (ns.map .int)] } = true := by
      have h4 := (holds_andW hc).1
      rw [hn] at h4
      exact h4
    have h5 := condW_of h4 (w_not (w_lt w_lit (w_len_list (w_arg rfl))))
    rw [List.length_map] at h5
    refine Nat.le_of_not_lt fun q => ?_
    have q' : (n : Int) < ((ns.length : Nat) : Int) := by omega
    first
      | (rw [decide_eq_true q'] at h5; exact absurd h5 (by decide))
      | (simp at h5; omega)
  cases hwl with
  | cons w1 w2 =>
    cases w2
    cases w1 with
    | list ho hall => exact ⟨_, _, ns, rfl, rfl, ho, ints_of_wellAll ns _ hall, hlen⟩
theorem post_true (l : OpenLaw) (args : List WData) : l.row.toRowW.claim.post args (.bool true) args = true :=
  postW_of (r := l.row.toRowW) (X := (true == true))
    (show WShape.has [] (.bool true) .bool = true by first | rfl | decide | simp [WShape.has, WShape.arms, WShape.armsAll])
    (show (WTm.eq .res (.lit (.bool true))).value [] { args := args, res := some (.bool true), after := args } = some (.bool (true == true)) from w_eq_bool (w_res rfl) w_lit) rfl
theorem attach_call {l : OpenLaw} {n : Nat} {q : Program} {loose : List Str} {XP : (Str → Option Value) → Heap → Prop} {YP : World → Heap → Prop} {d : DefRec}
    (hn : l.most = some n) (hdf : d.params.defaults = [])
    (call : ∀ (w : World) (s₀ s₁ : Shared) (mg mb : Str → Option Value) (fa : Addr) (o : Obj) (pm cd doc : Value) (a : Addr) (vs : List Value) (ns : List Int),
      Ground q loose [] XP w s₀ mg mb s₁.heap → YP w s₁.heap →
      s₁.heap.get? fa = some o → o.data = .func (docDef d.name d.params d.body d.scope pm cd doc) → s₁.heap.CodeRec cd d.name → mg d.name = some (.ref fa) →
      s₁.heap.get? a = some { cls := .type "list", data := .seq vs.toArray } → IntsAre vs ns → ns.length ≤ n → s₁.gens = #[] →
      codeAny (model l.prog w) callerA (.call (.ref fa) ⟨[.ref a], []⟩) (fun r s' => r = .ok (.ret (.bool true)) ∧ OldK s₁.heap s'.heap ∧ s'.os = s₁.os ∧ AllBare s'.gens) s₁) :
    WalkO q loose XP YP l.row.toRowW d [] (fun f vs => PySem.call f vs) := by
  intro w s₀ s₁ mg mb G Y fa o pm cd doc dV kV ho hd hcd hD hmg hg args vals as hpre hlay hrd hwl hlo
  obtain rfl : dV = .none := Dflts.none hD hdf
  obtain rfl : kV = .none := Dflts.noKw hD
  obtain ⟨a, vs, ns, rfl, rfl, hobj, hints, hlen⟩ := script_of hn hpre hwl
  refine enter_call (codeAny_mono (call w s₀ s₁ mg mb fa o pm cd doc a vs ns G Y ho (fd_plain hd) hcd hmg hobj hints hlen hg) fun r s' hq => ?_)
  obtain ⟨rfl, h2, h3, h4⟩ := hq
  exact ⟨.inl ⟨.bool true, .bool true, [], rfl, fun _ => rfl, .bool true, post_true l _, fun _ => ⟨List.Pairwise.nil, fun _ hm => (nomatch hm)⟩⟩, h2, h3, h4⟩
section
variable {prog : Program} {w : World} {A : Around} {E : Value → Shared → Prop} {s : Shared} {K : Frag}
end
end Att
namespace L2
open PySem PySem.Spec PyProof.Rows
theorem vals_ints : ∀ {vs : List Value} {ns : List Int}, IntsAre vs ns → Vals (ns.map V.int) vs
  | _, _, .nil => .nil
  | _, _, .cons n t h => .cons ⟨t, rfl⟩ (vals_ints h)
noncomputable def Only (H : Hp) : Prop := ∀ b, H b = none ∨ ∃ o xs, H b = some (.frz o (.lst xs))
theorem law_call {P : Program} {w : World} {K : PySem.W.Frag} {mg mb : Str → Option Value} {CX : CXT} {k : Nat} {fa a : Addr} {fd : FuncData} {x : Str} {sp : Sp} {s₁ : Shared} {vs : List Value} {ns : List Int}
    (KX : K.In s₁.heap) (hns : s₁.heap.Ns mainGlobals mg) (hb : s₁.heap.Ns builtinsNs mb) (hbb : ∀ x : Str, x ≠ "__name__" → mb x = bootBuiltins x) (hlim : s₁.heap.NoLimit) (hg : s₁.gens = #[])
    (ha : s₁.heap.get? a = some { cls := .type "list", data := .seq vs.toArray }) (hi : IntsAre vs ns) (hl : ns.length ≤ sizeLine) (hr : Room k callerA)
    (F : ∀ base : Heap, K.In base → base.Ns mainGlobals mg → FnOk P w K mg base CX k fa fd [x] sp) (hbind : ∀ (s : Shared) (u : Value), BindsTo s fd ⟨[u], []⟩ [(x, u)])
    (hsp : ∀ H : Hp, Only H → SqL K H a (ns.map V.int) → sp [.ref a] H (fun v _ => v = .bl true) fun _ _ _ => False)
    (hCX : ∀ H e s', CX [] H s₁ (fun _ _ _ => False) e s' → False) :
    codeAny (model P w) callerA (.call (.ref fa) ⟨[.ref a], []⟩) (fun r s' => r = .ok (.ret (.bool true)) ∧ OldK s₁.heap s'.heap ∧ s'.os = s₁.os ∧ AllBare s'.gens) s₁ := by
  have rv := vals_ints hi
  have lenV := hi.length
  have core : ∀ H : Hp, Only H → SqL K H a (ns.map V.int) → HOk P w H s₁.heap → (∀ b, H b ≠ none → b = a) → (H a ≠ none → K.lookup a = none) →
      codeAny (model P w) callerA (.call (.ref fa) ⟨[.ref a], []⟩) (fun r s' => r = .ok (.ret (.bool true)) ∧ OldK s₁.heap s'.heap ∧ s'.os = s₁.os ∧ AllBare s'.gens) s₁ := by
    intro H hO hS hok hA hK
    have base_of : ∀ {b : Addr} {o : Obj}, s₁.heap.get? b = some o → H b = none → (hidT s₁.heap H).get? b = some o := fun e n => hidT_get e n
    have noA : ∀ {b : Addr} {o : Obj} {es : Array DictEntry} {ep : Nat}, s₁.heap.get? b = some o → o.data = .dict es ep → H b = none := fun {b o es ep} e d => by
      cases q : H b with
      | none => rfl
      | some u =>
        have e' : b = a := hA b (by rw [q]; simp)
        subst e'
        rw [ha] at e; cases e
        have d' : Data.seq vs.toArray _ = Data.dict es ep := d
        cases d'
    have nsK : ∀ {b : Addr} {m : Str → Option Value}, s₁.heap.Ns b m → (hidT s₁.heap H).Ns b m := fun {b m} ⟨o, es, ep, e, d, r⟩ => ⟨o, es, ep, base_of e (noA e d), d, r⟩
    have hKb : K.In (hidT s₁.heap H) := fun b o e => base_of (KX b o e) (by
      cases q : H b with
      | none => rfl
      | some u =>
        have e' : b = a := hA b (by rw [q]; simp)
        subst e'
        rw [hK (by rw [q]; simp)] at e; cases e)
    have hM : Mod K mg (hidT s₁.heap H) := ⟨hKb, nsK hns, ⟨mb, nsK hb, hbb⟩, let ⟨mc, h1, h2⟩ := hlim; ⟨mc, nsK h1, h2⟩⟩
    have e0 : Env0 P w K mg (hidT s₁.heap H) callerA [] s₁ H := ⟨rfl, hM, fun b o e => of_hidT e, Nat.le_of_eq (hidT_size _ _), trivial, fun b hb => absurd (show b ∈ ([] : List Addr) from hb) (by simp), hok, .of_eq hg⟩
    refine codeAny_mono ((F _ hKb (nsK hns)).run callerA [] s₁ H ⟨[.ref a], []⟩ [.ref a] [.ref a] _ _ hr e0 (hbind s₁ (.ref a)) (.cons rfl .nil) (hsp H hO hS)) fun r s' h => ?_
    cases r with
    | error e => exact (hCX H e s' h).elim
    | ok fl =>
      cases fl with
      | next => exact False.elim h
      | brk => exact False.elim h
      | cont => exact False.elim h
      | ret u =>
        obtain ⟨v, H', os, bare, un, hok', r', q⟩ := h
        have q' : v = .bl true := q
        subst q'
        obtain rfl : u = Value.bool true := r'
        refine ⟨rfl, OldK.of_keep fun b o e => ?_, os, bare⟩
        cases q : H b with
        | none => exact un.keep b o e q (by intro z; exact absurd (show b ∈ ([] : List Addr) from z) (by simp)) (by simp)
        | some u =>
          rcases hO b with z | ⟨ob, xs, z⟩
          · rw [q] at z; cases z
          · have z2 := un.frzs b ob _ z
            obtain ⟨e1, _⟩ := hok b _ z
            obtain ⟨e2, _⟩ := hok' b _ z2
            rw [e] at e1; cases e1
            exact e2
  cases hk : K.lookup a with
  | some o =>
    have e := KX a o hk
    rw [ha] at e
    cases e
    refine core (fun _ => none) (fun _ => .inl rfl) (.inr ⟨_, vs.toArray, _, hk, rfl, rfl, rfl, by rw [List.size_toArray, lenV]; exact hl, by simpa using rv⟩) (fun b u z => by have z' : (none : Option HO) = some u := z; cases z') (fun b z => absurd rfl z) fun z => absurd rfl z
  | none =>
    refine core (fun b => if b = a then some (.frz { cls := .type "list", data := .seq vs.toArray } (.lst (ns.map V.int))) else none) (fun b => ?_) (.inl (.inr ⟨{ cls := .type "list", data := .seq vs.toArray }, if_pos rfl⟩)) (fun b u z => ?_) (fun b z => ?_) fun _ => hk
    · by_cases hb : b = a
      · exact .inr ⟨_, _, if_pos hb⟩
      · exact .inl (if_neg hb)
    · by_cases hb : b = a
      · have z' := (if_pos hb).symm.trans z
        cases z'
        subst hb
        exact ⟨ha, by rw [List.length_map]; exact hl, vs, _, rv, ha⟩
      · have z' := (if_neg hb).symm.trans z
        cases z'
    · by_cases hb : b = a
      · exact hb
      · exact absurd (if_neg hb) z
end L2
namespace L2
open PySem PySem.Spec PyProof.Rows
noncomputable abbrev KOf {K : PySem.W.Frag} {h : Heap} (_ : K.In h) : PySem.W.Frag := K
theorem walk_of {l : PySem.W.OpenLaw} {n k : Nat} {q : Program} {loose : List Str} {XP : (Str → Option Value) → Heap → Prop} {YP : World → Heap → Prop} {d : DefRec} {K : Params → PySem.W.Frag} {CX : World → CXT} {sp : World → Sp} {x : Str}
    (hn : l.most = some n) (hn2 : n ≤ sizeLine) (hdf : d.params.defaults = []) (hr : Room k callerA)
    (hY : ∀ (w : World) (h : Heap), YP w h → (K w.params).In h)
    (F : ∀ (w : World) (mg : Str → Option Value) (fa : Addr) (h : Heap), (K w.params).In h → h.Ns mainGlobals mg → mg d.name = some (.ref fa) →
      ∃ fd : FuncData, (∀ (s : Shared) (u : Value), BindsTo s fd ⟨[u], []⟩ [(x, u)]) ∧
        ∀ base : Heap, (K w.params).In base → base.Ns mainGlobals mg → FnOk l.prog w (K w.params) mg base (CX w) k fa fd [x] (sp w))
    (hsp : ∀ (w : World) (H : Hp) (a : Addr) (ns : List Int), ns.length ≤ n → Only H → SqL (K w.params) H a (ns.map V.int) → sp w [.ref a] H (fun v _ => v = .bl true) fun _ _ _ => False)
    (hCX : ∀ (w : World) (H : Hp) (s : Shared) (e : Value) (s' : Shared), CX w [] H s (fun _ _ _ => False) e s' → False) :
    PySem.W.WalkO q loose XP YP l.row.toRowW d [] (fun f vs => PySem.call f vs) := by
  refine Att.attach_call hn hdf fun w s₀ s₁ mg mb fa o pm cd doc a vs ns G Y ho hd hcd hmg hobj hints hlen hg => ?_
  have KX := hY w _ Y
  obtain ⟨fd, hb, hF⟩ := F w mg fa _ KX G.T.g hmg
  exact law_call KX G.T.g G.T.b G.T.builtins G.T.nolimit hg hobj hints (Nat.le_trans hlen hn2) hr hF hb (fun H hO hS => hsp w H a ns hlen hO hS) fun H e s' => hCX w H s₁ e s'
end L2
namespace L2
open PySem PySem.Spec PyProof.Rows
noncomputable def inClass (s : Stmt) (j : Nat) : Stmt := match s with
  | .ClassDef _ _ _ body _ _ _ _ _ _ _ => body.getD j (.Pass ⟨0, 0, 0, 0⟩)
  | _ => .Pass ⟨0, 0, 0, 0⟩
noncomputable def defArgs (s : Stmt) : Arguments := match s with
  | .FunctionDef _ a _ _ _ _ _ _ _ _ => a
  | _ => { posonlyargs := [], args := [], vararg := none, kwonlyargs := [], kw_defaults := [], kwarg := none, defaults := [] }
noncomputable def defBody (s : Stmt) : List Stmt := match s with
  | .FunctionDef _ _ b _ _ _ _ _ _ _ => b
  | _ => []
noncomputable def defScope (s : Stmt) : Scope := match s with
  | .FunctionDef _ _ _ _ _ _ sc _ _ _ => sc
  | _ => { kind := .function, names := [], isGenerator := false, isCoroutine := false }
noncomputable abbrev CX0 : CXT := fun _ _ _ _ _ _ => False
noncomputable abbrev E0 : XK := fun _ _ _ => False
theorem pass0 {X : Cx} : Passes CX0 X E0 := fun _ _ _ _ _ _ _ h => h.elim
structure Fun (K : PySem.W.Frag) (x qual : Str) (st : Stmt) (f : Addr) (fd : FuncData) : Prop where
  ex : ∃ (oc : Value) (od : Option Addr) (kV doc pm : Value) (an : Option Addr) (cdv ct : Value) (osl : Array (Option Value)),
    fd = PySem.W.fnOf x qual (defArgs st) (defBody st) (defScope st) .none kV doc pm an cdv ct ∧ K.lookup f = some ⟨oc, od, .func fd, osl⟩ ∧ PySem.W.codeIn K cdv qual = true
  kp : PySem.W.keepIn K (.ref f) = true
section
variable {P : Program} {w : World} {K : PySem.W.Frag} {mg : Str → Option Value} {base : Heap}
theorem Fun.ok {x qual : Str} {st : Stmt} {f : Addr} {fd : FuncData} {N ps : List Str} {k : Nat} {sp : Sp} (F : Fun K x qual st f fd) (S : FnScope N ps (defScope st)) (len : ∀ vs H Q E, sp vs H Q E → vs.length = ps.length)
    (hbody : ∀ (cdv : Value) (A : Around) (outer : List Env) (s : Shared) (H : Hp) (vs : List V) (Q : VK) (E : XK), Room k (A.deeper (envOfC qual (defScope st) s.heap.objs.size f cdv)) → sp vs H Q E →
      ∃ t, PSs (cxOf CX0 P w K mg base N qual (defScope st) f cdv A outer s H E).nox (defBody st) t ∧ t { nx := fun _ H' => Q .non H', rt := Q } (start N vs) H) : FnOk P w K mg base CX0 (k + 1) f fd ps sp := by
  obtain ⟨oc, od, kV, doc, pm, an, cdv, ct, osl, rfl, lk, hcd⟩ := F.ex
  refine fn_of lk hcd S len fun A outer s H vs Q E hr hsp => ?_
  obtain ⟨t, h, q⟩ := hbody cdv A outer s H vs Q E hr hsp
  exact ⟨t, h.nox, q⟩
theorem Fun.binds {x qual : Str} {st : Stmt} {f : Addr} {fd : FuncData} {ps : List Str} (F : Fun K x qual st f fd)
    (h : ∀ (kV doc pm : Value) (an : Option Addr) (cdv ct : Value) (us : List Value), us.length = ps.length → bindArgs (PySem.W.fnOf x qual (defArgs st) (defBody st) (defScope st) .none kV doc pm an cdv ct) ⟨us, []⟩ = pure (ps.zip us)) : Binds K fd ps [] := by
  obtain ⟨oc, od, kV, doc, pm, an, cdv, ct, osl, rfl, lk, hcd⟩ := F.ex
  exact .all (h kV doc pm an cdv ct)
theorem fun_mk {x qual : Str} {st : Stmt} {f : Addr} {oc : Value} {od an : Option Addr} {osl : Array (Option Value)} {kV doc pm cdv ct : Value} (l : K.lookup f = some ⟨oc, od, .func (PySem.W.fnOf x qual (defArgs st) (defBody st) (defScope st) .none kV doc pm an cdv ct), osl⟩)
    (c : PySem.W.codeIn K cdv qual = true) (k : PySem.W.keepIn K (.ref f) = true) : Fun K x qual st f (PySem.W.fnOf x qual (defArgs st) (defBody st) (defScope st) .none kV doc pm an cdv ct) := ⟨⟨oc, od, kV, doc, pm, an, cdv, ct, osl, rfl, l, c⟩, k⟩
end
theorem hu_of {A : Around} {k : Nat} (hr : Room k A) : A.units + 1 < cLine := Nat.lt_of_le_of_lt (Nat.add_le_add_left (by decide : 1 ≤ 64) _) hr.units
theorem small1000 {n : Nat} (h : n ≤ 1000) : n < sizeLine := Nat.lt_of_le_of_lt h (by decide)
section
variable {X : Cx}
theorem pv (i : Nat) {x : Str} {pos : Pos} (hN : X.N[i]? = some x := by rfl) (hv : Vis X.env.scope x := by first | exact Or.inl rfl | exact Or.inr (Or.inl rfl) | exact Or.inr (Or.inr rfl)) (hd : (x == ("__debug__" : Str)) = false := by decide)
    (hcd : (x == ("__classdict__" : Str)) = false := by decide) : PE X (.Name x pos) (tVar i) := pe_var hN hv hd hcd
end
theorem iteF {A B : Prop} (h : B) : if false = true then A else B := by
  rw [if_neg Bool.false_ne_true]
  exact h
theorem iteT {A B : Prop} (h : A) : if true = true then A else B := by
  rw [if_pos rfl]
  exact h
theorem ite2 {c A B : Prop} [Decidable c] (h1 : c → A) (h2 : ¬ c → B) : if c then A else B := by
  by_cases h : c
  · rw [if_pos h]
    exact h1 h
  · rw [if_neg h]
    exact h2 h
noncomputable def Same (H H' : Hp) : Prop := ∀ b o, H b = some o → H' b = some o
theorem Same.refl (H : Hp) : Same H H := fun _ _ h => h
theorem Same.trans {H H1 H2 : Hp} (a : Same H H1) (b : Same H1 H2) : Same H H2 := fun c o h => b c o (a c o h)
theorem Same.free {H H' : Hp} (e : Same H H') {l : Addr} (h : H' l = Option.none) : H l = Option.none := by
  cases q : H l with
  | none => rfl
  | some o =>
    rw [e l o q] at h
    cases h
theorem Same.seq {K : PySem.W.Frag} {H H' : Hp} {a : Addr} {xs : List V} (e : Same H H') (h : SqL K H a xs) : SqL K H' a xs := by
  rcases h with (h | ⟨o, h⟩) | h
  · exact .inl (.inl (e _ _ h))
  · exact .inl (.inr ⟨o, e _ _ h⟩)
  · exact .inr h
end L2
set_option Elab.async false
set_option linter.all false
set_option maxRecDepth 100000
set_option maxHeartbeats 16000000
namespace L2
open PySem PySem.Spec PyProof.Rows
section
variable {X : Cx} {pins : List (Addr × Obj)} {σ : List (Option V)} {H : Hp} {s : Shared} {h' : Heap}
theorem Inv.turnedL {t' : Nat} {ch : List Addr} (I : Inv X pins σ H s) (k : ∀ b o, b ∉ ch → s.heap.get? b = some o → h'.get? b = some o) (hf : ∀ b ∈ ch, FpOk X pins H b) :
    Inv X pins σ H { s with heap := h', toks := t' } := by
  have nit : ∀ b u, H b = some u → b ∉ ch := fun b u e z => by rw [(hf b z).1] at e; cases e
  refine I.step (g' := s.gens) (d' := s.drawn) (ch := ch) (fun b hb => ?_) (fun b o _ _ hc e _ => k b o hc e) (fun b o _ _ hc e _ => ⟨o.slots, k b o hc e⟩) (fun _ _ _ _ n => n)
    (fun b o hc e => ⟨o, k b o hc e⟩) (fun _ _ e => e) (fun _ _ _ e => e) (fun b ps e => ⟨#[], by rw [e]; simp⟩) (fun m hm => ?_) (fun b u e => ?_) I.bare
  · obtain ⟨_, h1, _, h2, h3, h4⟩ := hf b hb
    exact ⟨h2, h1, h3, h4⟩
  · obtain ⟨o, es, ep, ho, r⟩ := hm
    exact ⟨o, es, ep, k _ o (fun z => (hf _ z).2.1 rfl) ho, r⟩
  · refine (I.hok b u e).stay (fun c v hc q => k c v ?_ q) (fun _ q => q) fun _ _ q => q
    rcases hc with z | z
    · rw [z]; exact nit b u e
    · exact nit c _ z
theorem Inv.track {T : Addr} {o : HO} (I : Inv X pins σ H s) (hf : FpOk X pins H T) (new : ObjOk X.prog X.w (upd H T o) s.heap T o) : Inv X pins σ (upd H T o) s := by
  obtain ⟨h0, h1, h5, h2, h3, h4⟩ := hf
  have nT : ∀ b u, H b = some u → b ≠ T := fun b u e z => by rw [z, h0] at e; cases e
  refine I.step (h' := s.heap) (g' := s.gens) (d' := s.drawn) (t' := s.toks) (ch := [T]) (fun b hb => ?_) (fun b o _ _ hc e _ => e) (fun b o _ _ hc e _ => ⟨o.slots, e⟩)
    (fun b o hc _ n => by rw [upd_ne (fun z => hc (by simp [z]))]; exact n)
    (fun b o hc e => ⟨o, e⟩) (fun b xs e => by rw [upd_ne (nT _ _ e)]; exact e) (fun b ob u e => by rw [upd_ne (nT _ _ e)]; exact e) (fun b ps e => ⟨#[], by rw [upd_ne (nT _ _ e), e]; simp⟩) (fun m hm => hm) (fun b u e => ?_) I.bare
  · have e : b = T := by simpa using hb
    subst e
    exact ⟨h2, h1, h3, h4⟩
  · by_cases hb : b = T
    · subst hb; rw [upd_same] at e; cases e; exact new
    · rw [upd_ne hb] at e
      exact (I.hok b u e).stay (fun c v _ q => q) (fun c q => by rw [upd_ne (nT _ _ q)]; exact q) fun c xs q => by rw [upd_ne (nT _ _ q)]; exact q
end
section
variable {X : Cx}
theorem call_isinst : CallR X (.builtin "isinstance") (fun xs H Q => ∃ x t T b, xs = [x, .ty T] ∧ TyOf X.K H x t ∧ PySem.W.kitOne X.K t (.type T) = some b ∧ Q (.bl b) H) := by
  intro pins s σ H xs us Q I r h
  obtain ⟨x, t, T, b, rfl, ty, e, q⟩ := h
  obtain ⟨u, w', rfl, rx, ry⟩ := vals2 r
  cases (show w' = Value.type T from ry)
  exact isinst_ok I rx ty e fun tk => ⟨.bl b, H, I.tok _, rfl, q⟩
theorem eqV_refl : ∀ {x : V}, flatV x = true → eqV x x = true
  | .non, _ => by rfl
  | .bl b, _ => by simp [eqV]
  | .int i, _ => by simp [eqV]
  | .str z, _ => by simp [eqV]
  | .byt _, h => by first | exact absurd (show false = true from h) Bool.false_ne_true | simp [eqV]
  | .flt _, h => by first | exact absurd (show false = true from h) Bool.false_ne_true | simp [eqV]
  | .ref _, h => by first | exact absurd (show false = true from h) Bool.false_ne_true | simp [eqV]
  | .ty _, h => by first | exact absurd (show false = true from h) Bool.false_ne_true | simp [eqV]
end
end L2
namespace ET
open PySem PySem.Spec
open PySem.AutoSeq1 (wpAny_loadPart')
section
variable {prog : Program} {w : World} {A : Around} {E : Value → Shared → Prop} {s : Shared}
theorem nextOf_tuple_item {it l : Addr} {i : Nat} {items : Array Value} {x : Value} {Q : Value → Shared → Prop} (hit : s.heap.IsTupleIter it l i)
    (hl : s.heap.IsTuple l items) (hx : items[i]? = some x)
    (hQ : ∀ h', h'.IsTupleIter it l (i + 1) → Heap.SameBut it s.heap h' → Q x { s with heap := h' }) :
    wpAny (model prog w) A (Builtin.SmallTypes.nextOf (.ref it)) Q E s := by
  obtain ⟨o, ho, hc, hd⟩ := id hit
  obtain ⟨ol, hol, _, nl, hdl⟩ := hl
  unfold Builtin.SmallTypes.nextOf
  refine wpAny_bind (wpAny_callSpecial?_slot (name := Str.ofString "__next__") hit.typeIs F.slot_tuple_iterator_next
    (wpAny_call_entry F.slot_tuple_iterator_next hit.typeIs F.entry_tuple_iterator_next ?_ (F.args_tuple_iterator_next_1 _)))
  show wpAny _ _ (field (.ref it) 0 >>= _) _ _ s
  refine wpAny_bind (wpAny_field ho hd (x := .ref l) rfl ?_)
  show wpAny _ _ (if (Value.ref l == Value.none) = true then _ else _) _ _ s
  rw [if_neg (show ¬ ((Value.ref l == Value.none) = true) from Bool.false_ne_true)]
  show wpAny _ _ (field (.ref it) 1 >>= _) _ _ s
  refine wpAny_bind (wpAny_field ho hd (x := .int i 0) rfl ?_)
  show wpAny _ _ (seqItems? (.ref l) >>= _) _ _ s
  refine wpAny_bind (wpAny_seqItems hol hdl ?_)
  simp only [Int.toNat_natCast, hx]
  refine wpAny_bind (wpAny_setField ho hd (by simp) (wpAny_pure ⟨x, rfl, wpAny_pure (hQ _ ?_ (Heap.SameBut.update ..))⟩))
  exact ⟨_, Heap.get?_update_self _ ho (Obj.isFreed_of_fields (Obj.data_mapFields hd _)), (Obj.cls_mapFields ..).trans hc, by
    rw [Obj.data_mapFields hd]; simp [rawInt]⟩
theorem nextOf_tuple_end {it l : Addr} {i : Nat} {items : Array Value} {Q : Value → Shared → Prop} (hh : A.handled = none)
    (hit : s.heap.IsTupleIter it l i) (hl : s.heap.IsTuple l items) (hx : items[i]? = none)
    (hE : ∀ h' e, Heap.ExtBut it s.heap h' → (∃ o, h'.get? e = some o ∧ o.cls = .type "StopIteration") → E (.ref e) { s with heap := h' }) :
    wpAny (model prog w) A (Builtin.SmallTypes.nextOf (.ref it)) Q E s := by
  obtain ⟨o, ho, hc, hd⟩ := id hit
  obtain ⟨ol, hol, _, nl, hdl⟩ := hl
  unfold Builtin.SmallTypes.nextOf
  refine wpAny_bind (wpAny_callSpecial?_slot (name := Str.ofString "__next__") hit.typeIs F.slot_tuple_iterator_next
    (wpAny_call_entry F.slot_tuple_iterator_next hit.typeIs F.entry_tuple_iterator_next ?_ (F.args_tuple_iterator_next_1 _)))
  show wpAny _ _ (field (.ref it) 0 >>= _) _ _ s
  refine wpAny_bind (wpAny_field ho hd (x := .ref l) rfl ?_)
  show wpAny _ _ (if (Value.ref l == Value.none) = true then _ else _) _ _ s
  rw [if_neg (show ¬ ((Value.ref l == Value.none) = true) from Bool.false_ne_true)]
  show wpAny _ _ (field (.ref it) 1 >>= _) _ _ s
  refine wpAny_bind (wpAny_field ho hd (x := .int i 0) rfl ?_)
  show wpAny _ _ (seqItems? (.ref l) >>= _) _ _ s
  refine wpAny_bind (wpAny_seqItems hol hdl ?_)
  simp only [Int.toNat_natCast, hx]
  refine wpAny_bind (wpAny_rule (wpAny_bind (wpAny_setField ho hd (by simp) ?_)))
  show wpAny _ _ (newExc (.type "StopIteration") [] >>= _) _ _ _
  refine wpAny_bind ?_
  simp only [newExc, newTuple]
  refine wpAny_bind (wpAny_newObj_type ?_ (by size_fits))
  refine wpAny_bind (m := firstArgMember _ _) (wpAny_of_eq (a := Value.none) (by first | rfl | (simp only [firstArgMember]; rfl)) ?_)
  refine wpAny_newObj_type ?_ (by size_fits)
  simp only [raiseNew]
  refine wpAny_bind (wpAny_handled ?_)
  first | rw [show A.in1.handled = none from hh] | rw [hh]
  refine wpAny_bind (wpAny_pure (wpAny_throw ?_))
  exact hE _ _ (((Heap.SameBut.update ..).extBut.push _).push _) ⟨_, Heap.get?_push_size _ rfl, rfl⟩
end
theorem draws_tuple {prog : Program} {w : World} {A : Around} (hh : A.handled = none) (it l : Addr) (hne : l ≠ it) (items : Array Value) :
    Draws prog w A it [it, l] items.size (fun i v => items[i]? = some v) (fun i h => h.IsTupleIter it l i ∧ h.IsTuple l items) where
  live := fun _ _ st => let ⟨o, ho, _⟩ := st.1; ⟨o, ho⟩
  frame := fun _ _ _ st hk => ⟨let ⟨o, ho, r⟩ := st.1; ⟨o, hk it (by simp) o ho, r⟩, let ⟨o, ho, r⟩ := st.2; ⟨o, hk l (by simp) o ho, r⟩⟩
  item := fun i s Q E hi st hQ => by
    refine nextOf_tuple_item st.1 st.2 (x := items[i]) (by simp [hi]) fun h' hit' hs' => ?_
    exact hQ _ h' s.toks (by simp [hi]) ⟨hit', st.2.extBut hs'.extBut hne⟩ hs'
  done := fun s Q E st hE => nextOf_tuple_end hh st.1 st.2 (by simp) hE
theorem meets_enumerate_newT (l : Addr) (items : Array Value) (n : Nat) (dct : Option Addr) (sl : Array (Option Value)) :
    Meets (Builtin.«enumerate.__new__» ⟨[.type "enumerate", .ref l], []⟩) (fun _ R s => s.heap.get? l = some { cls := .type "tuple", dict := dct, data := .seq items n, slots := sl } ∧
      R (.ok (.ret (.ref (s.heap.push { cls := .type "tuple_iterator", data := .fields #[.ref l, .int 0 0] }).objs.size)))
        { s with heap := (s.heap.push { cls := .type "tuple_iterator", data := .fields #[.ref l, .int 0 0] }).push { cls := .type "enumerate", data := .fields #[.none, .bool false, .ref s.heap.objs.size, rawInt 0, .none, .none] } }) :=
  .of_wp fun prog w A R s h => by
    obtain ⟨hp, g, d, tk, os⟩ := s; obtain ⟨hl, h⟩ := h
    have hsub := sub_enumerate
    have hL : Heap.IsTuple (Shared.heap ⟨hp, g, d, tk, os⟩) l items := ⟨_, hl, rfl, n, rfl⟩
    wp_walk using wpAny_loadPart' hl
    refine wpAny_stack_any fun st => wpAny_pure ?_
    split
    · rename_i c _ _ _ _ _
      cases (c == Value.type "enumerate")
      · wp_walk using wpAny_loadPart' hl, wpAny_pyIter_tuple hL
        exact ⟨_, rfl, h⟩
      · wp_walk using wpAny_loadPart' hl, wpAny_pyIter_tuple hL
        exact ⟨_, rfl, h⟩
    · wp_walk using wpAny_loadPart' hl, wpAny_pyIter_tuple hL
      exact ⟨_, rfl, h⟩
theorem call_enumerate_tuple {prog : Program} {w : World} {A : Around} {E : Value → Shared → Prop} {s : Shared} {l : Addr} {items : Array Value} {Q : Value → Shared → Prop} (hL : s.heap.IsTuple l items)
    (h : ∀ h', IsEnum h' (s.heap.objs.size + 1) s.heap.objs.size 0 .none → h'.IsTupleIter s.heap.objs.size l 0 → h'.objs.size = s.heap.objs.size + 2 →
      (∀ b o, s.heap.get? b = some o → h'.get? b = some o) → Q (.ref (s.heap.objs.size + 1)) { s with heap := h' }) :
    wpAny (model prog w) A (call (.type "enumerate") [.ref l]) Q E s := by
  obtain ⟨⟨c, dct, dt, sl⟩, hl, hc, n, hd⟩ := hL
  replace hc : c = .type "tuple" := hc
  replace hd : dt = .seq items n := hd
  subst hc hd
  refine callType_new F.called_enumerate (by decide) (F.typeCall_enumerate_1 _) (F.newCall_enumerate_1 _) (fun obj => F.args_object_init_2 obj _) F.entry_enumerate_new
    (meets_enumerate_newT l items n dct sl) ⟨hl, ?_⟩
  have hz : (s.heap.push { cls := .type "tuple_iterator", data := .fields #[.ref l, .int 0 0] }).objs.size = s.heap.objs.size + 1 := Heap.size_push ..
  show _ ∧ _
  rw [hz]
  have he : IsEnum ((s.heap.push { cls := .type "tuple_iterator", data := .fields #[.ref l, .int 0 0] }).push
      { cls := .type "enumerate", data := .fields #[.none, .bool false, .ref s.heap.objs.size, rawInt 0, .none, .none] }) (s.heap.objs.size + 1) s.heap.objs.size 0 .none := by
    have := Heap.get?_push_size (s.heap.push { cls := .type "tuple_iterator", data := .fields #[.ref l, .int 0 0] })
      (o := { cls := .type "enumerate", data := .fields #[.none, .bool false, .ref s.heap.objs.size, rawInt 0, .none, .none] }) rfl
    rw [hz] at this; exact this
  refine ⟨⟨_, he, rfl⟩, h _ he ⟨_, Heap.get?_push_of_some _ (Heap.get?_push_size _ rfl), rfl, rfl⟩ (by rw [Heap.size_push, hz]) fun b o x => Heap.get?_push_of_some _ (Heap.get?_push_of_some _ x)⟩
end ET
namespace L2
open PySem PySem.Spec PyProof.Rows
noncomputable def Ite (K : PySem.W.Frag) (a : Addr) : It :=
  ⟨fun i H => ∃ xs x, SqT K H a xs ∧ xs[i]? = some x,
   fun i H x H' => ∃ p v, (∀ xs, SqT K H a xs → xs[i]? = some v) ∧ H p = none ∧ x = .ref p ∧ H' = upd H p (.tup [.int i, v]),
   fun i H => ∃ xs, SqT K H a xs ∧ xs.length = i⟩
theorem turn_enumT {P : Program} {w : World} {K : PySem.W.Frag} {elts : List Expr} {k : Nat} {pos : Pos} (a e it : Addr) (hei : e ≠ it) :
    Turn P w K (.Tuple elts k pos) (Ite K a) [e, it] e (fun i h => (∃ old, IsEnum h e it i old) ∧ h.IsTupleIter it a i) where
  mem := by simp
  obj := fun i h st b hb => by
    obtain ⟨⟨old, he⟩, o, ho, hc, hd⟩ := st
    rcases List.mem_cons.mp hb with z | hb
    · subst z
      exact ⟨_, he, fun v z => by
        have z' : Data.fields _ = Data.cell v := z
        cases z'⟩
    · obtain z := List.mem_singleton.mp hb
      subst z
      exact ⟨o, ho, fun v z => by rw [hd] at z; cases z⟩
  keep := fun i h h' st kk => by
    obtain ⟨⟨old, he⟩, o, ho, r⟩ := st
    exact ⟨⟨old, kk e (by simp) _ he⟩, o, kk it (by simp) o ho, r⟩
  item := by
    intro X hP hw hK hc i pins s σ H E I hf st hg
    subst hP hw hK
    obtain ⟨xs, x, hq, hx⟩ := hg
    obtain ⟨its, rv, p, hz⟩ := I.tuple hq
    obtain ⟨u, hu, ru⟩ := rv.get hx
    obtain ⟨⟨old, he⟩, hit⟩ := st
    have ht : s.heap.IsTuple a its.toArray := p
    have hai : a ≠ it := by
      intro z
      obtain ⟨o, ho, hc1, _⟩ := id hit
      obtain ⟨o2, ho2, hc2, _⟩ := id ht
      rw [z, ho] at ho2
      cases ho2
      rw [hc1] at hc2
      exact absurd hc2 (by decide)
    have hae : a ≠ e := by
      intro z
      obtain ⟨o2, ho2, hc2, _⟩ := id ht
      have he' := he
      unfold IsEnum at he'
      rw [z, he'] at ho2
      cases ho2
      exact absurd (show Value.type "enumerate" = Value.type "tuple" from hc2) (by decide)
    have D := ET.draws_tuple (prog := X.prog) (w := X.w) (A := X.A.in1) (show X.A.in1.handled = none from I.ok.hd hc) it a hai its.toArray
    have hef : e ∉ [it, a] := by
      intro z
      rcases List.mem_cons.mp z with z | z
      · exact hei z
      · exact hae (List.mem_singleton.mp z).symm
    have W := WalksT.enumerateD D e hei hef (by simp)
    have hlt : i < its.toArray.size := by
      have h1 := (List.getElem?_eq_some_iff.mp hu).1
      simpa using h1
    refine W.item i s _ _ hlt ⟨⟨old, he⟩, hit, ht⟩ fun T vals h' tk hP hT hTup hM hk => ?_
    obtain ⟨t, y, hy, rfl⟩ := hP
    have ey : y = u := by
      have : its[i]? = some y := by simpa using hy
      rw [hu] at this
      exact (Option.some.inj this).symm
    subst ey
    have I1 : Inv X pins σ H { s with heap := h', toks := tk } := I.turnedL (ch := [e, it]) hk hf
    have hHT : H T = none := I.hok.fresh hT
    have fT : FpOk X pins H T := I.fpOk hT hHT
    refine ⟨_, rfl, ?_⟩
    refine W.go elts k pos i T { s with heap := h', toks := tk } _ _ hM fun h2 st2 hk2 => ?_
    have I2' := I1.turnedL (h' := h2) (t' := tk) (ch := [e, it]) hk2 hf
    have I2 : Inv X pins σ H { s with heap := h2, toks := tk } := I2'
    have hT2 : h2.IsTuple T #[.int i t, y] := by
      obtain ⟨o, ho, r⟩ := hTup
      exact ⟨o, hk2 T o (W.apart i T h' hM) ho, r⟩
    have I3 : Inv X pins σ (upd H T (.tup [.int i, x])) { s with heap := h2, toks := tk } :=
      I2.track fT ⟨by show 2 ≤ sizeLine; decide, [.int i t, y], .cons ⟨t, rfl⟩ (.cons ru .nil), hT2⟩
    refine ⟨.ref T, _, I3, rfl, ⟨T, x, fun ys hy' => by rw [I.tuple_inj hy' hq]; exact hx, hHT, rfl, rfl⟩, ⟨by simpa using st2.1, st2.2.1⟩, fun b hb => ?_⟩
    rw [upd_ne (fun z => W.apart i T h' hM (by rw [← z]; exact hb))]
    exact (hf b hb).1
  done := by
    intro X hP hw hK hc i pins s σ H E I hf st hg
    subst hP hw hK
    obtain ⟨xs, hq, hx⟩ := hg
    obtain ⟨its, rv, p, hz⟩ := I.tuple hq
    obtain ⟨⟨old, he⟩, hit⟩ := st
    have ht : s.heap.IsTuple a its.toArray := p
    have hai : a ≠ it := by
      intro z
      obtain ⟨o, ho, hc1, _⟩ := id hit
      obtain ⟨o2, ho2, hc2, _⟩ := id ht
      rw [z, ho] at ho2
      cases ho2
      rw [hc1] at hc2
      exact absurd hc2 (by decide)
    have hae : a ≠ e := by
      intro z
      obtain ⟨o2, ho2, hc2, _⟩ := id ht
      have he' := he
      unfold IsEnum at he'
      rw [z, he'] at ho2
      cases ho2
      exact absurd (show Value.type "enumerate" = Value.type "tuple" from hc2) (by decide)
    have D := ET.draws_tuple (prog := X.prog) (w := X.w) (A := X.A.in1) (show X.A.in1.handled = none from I.ok.hd hc) it a hai its.toArray
    have hef : e ∉ [it, a] := by
      intro z
      rcases List.mem_cons.mp z with z | z
      · exact hei z
      · exact hae (List.mem_singleton.mp z).symm
    have W := WalksT.enumerateD D e hei hef (by simp)
    have hl := rv.length
    have hn : i = its.toArray.size := by simp; omega
    refine W.done s _ _ ⟨⟨old, by rw [← hn]; exact he⟩, by rw [← hn]; exact hit, ht⟩ fun h' tk hk => ⟨rfl, ?_⟩
    exact I.turnedL (ch := [e, it]) hk hf
  self := fun _ _ _ _ _ st h => by
    obtain ⟨⟨old, he⟩, _⟩ := st
    exact wpAny_pyIter_enum he h
section
variable {X : Cx} {elts : List Expr} {k : Nat} {tpos : Pos}
noncomputable def iEnum (K : PySem.W.Frag) (ta : TA) : TI := fun σ H R => ta σ H fun vs H1 => ∃ a, vs = [.ref a] ∧ (∃ xs, SqT K H1 a xs) ∧ R (Ite K a) H1
theorem pi_enumT {a : Expr} {ta : TA} {p pos : Pos} (hg : Gl X "enumerate") (hm : X.mg "enumerate" = none) (ha : PA X [a] ta) (hs : starEach [a] X.env = [(false, eval a X.env)] := by rfl) :
    PI X (.Tuple elts k tpos) (.Call (.Name "enumerate" p) [a] [] pos) (iEnum X.K ta) := by
  intro pins s σ H R I h
  refine Call_ (ld_blt I hg hm boot_enumerate (PyProof.Rows.callWith_type1 (thn (ha pos pins s σ H _ I h) fun us s1 ⟨vs, H1, I1, r1, q1⟩ => ?_) hs rfl))
  obtain ⟨a, e, ⟨xs, hq⟩, q⟩ := q1
  subst e
  cases r1 with
  | cons r rr =>
    cases rr
    cases r
    obtain ⟨its, rv, p, hz⟩ := I1.tuple hq
    refine ET.call_enumerate_tuple (show s1.heap.IsTuple a its.toArray from p) fun h' he hit hsz hk => ?_
    have I2 : Inv X pins σ H1 { s1 with heap := h' } := I1.kept (t' := s1.toks) hk
    refine wpAny_pyIter_enum he ?_
    refine ⟨s1.heap.objs.size + 1, [s1.heap.objs.size + 1, s1.heap.objs.size], _, _, H1, rfl, I2, turn_enumT a (s1.heap.objs.size + 1) s1.heap.objs.size (Nat.succ_ne_self _), ⟨⟨_, he⟩, hit⟩, fun b hb => ?_, q⟩
    have hb' : s1.heap.objs.size ≤ b := by
      rcases List.mem_cons.mp hb with z | z
      · rw [z]; exact Nat.le_succ _
      · rw [List.mem_singleton.mp z]; exact Nat.le_refl _
    exact I1.fpOk hb' (I1.hok.fresh hb')
end
end L2
set_option Elab.async false
set_option linter.all false
set_option maxRecDepth 100000
set_option maxHeartbeats 16000000
namespace L2
open PySem PySem.Spec PyProof.Rows
structure Cl (P : Program) (w : World) (K : PySem.W.Frag) (mg : Str → Option Value) (base : Heap) (k : Nat) (x : Str) (ps : List Str) (sp : Sp) : Prop where
  ex : ∃ f fd, FnOk P w K mg base CX0 k f fd ps sp ∧ mg x = some (.ref f) ∧ PySem.W.keepIn K (.ref f) = true ∧ Binds K fd ps []
theorem pe_fn {X : Cx} {j k : Nat} {x : Str} {ps : List Str} {sp : Sp} {e : Expr} {es : List Expr} {t : TA} {p pos : Pos} (C : Cl X.prog X.w X.K X.mg X.base j x ps sp) (hr : Room k X.A) (hg : Gl X x) (ha : PA X (e :: es) t) (hjk : j ≤ k := by decide)
    (hdb : (x == ("__debug__" : Str)) = false := by decide) (he : starEach (e :: es) X.env = (false, eval e X.env) :: starEach es X.env := by rfl) (hpl : (backTo pos (starEach es X.env)).any (·.1) = false := by rfl) :
    PE X (.Call (.Name x p) (e :: es) [] pos) (tCall sp [] E0 t) := by
  obtain ⟨f, fd, F, hm, hk, hb⟩ := C.ex
  exact pe_call F (hr.mono hjk) hg hm hk hb .nil pass0 ha hdb he hpl
noncomputable def HasDef (K : PySem.W.Frag) (mg : Str → Option Value) (x : Str) (st : Stmt) : Prop := ∃ f fd, Fun K x x st f fd ∧ mg x = some (.ref f)
theorem hasDef_mk {K : PySem.W.Frag} {mg : Str → Option Value} {h : Heap} {x : Str} {st : Stmt} {f : Addr} {oc : Value} {od an : Option Addr} {osl : Array (Option Value)} {kV doc pm cdv ct : Value} (X : K.In h) (G : h.Ns mainGlobals mg)
    (a : PySem.W.nsIn K mainGlobals x = some (some (.ref f))) (l : K.lookup f = some ⟨oc, od, .func (PySem.W.fnOf x x (defArgs st) (defBody st) (defScope st) .none kV doc pm an cdv ct), osl⟩)
    (c : PySem.W.codeIn K cdv x = true) (k : PySem.W.keepIn K (.ref f) = true) : HasDef K mg x st :=
  ⟨f, _, fun_mk l c k, PySem.W.mg_of X G a⟩
theorem Cl.of {P : Program} {w : World} {K : PySem.W.Frag} {mg : Str → Option Value} {base : Heap} {x : Str} {st : Stmt} {N ps : List Str} {k : Nat} {sp : Sp} (T : HasDef K mg x st) (S : FnScope N ps (defScope st)) (len : ∀ vs H Q E, sp vs H Q E → vs.length = ps.length)
    (hb : ∀ (kV doc pm : Value) (an : Option Addr) (cdv ct : Value) (us : List Value), us.length = ps.length → bindArgs (PySem.W.fnOf x x (defArgs st) (defBody st) (defScope st) .none kV doc pm an cdv ct) ⟨us, []⟩ = pure (ps.zip us))
    (hbody : ∀ (f : Addr) (cdv : Value) (A : Around) (outer : List Env) (s : Shared) (H : Hp) (vs : List V) (Q : VK) (E : XK), Room k (A.deeper (envOfC x (defScope st) s.heap.objs.size f cdv)) → sp vs H Q E →
      ∃ t, PSs (cxOf CX0 P w K mg base N x (defScope st) f cdv A outer s H E).nox (defBody st) t ∧ t { nx := fun _ H' => Q .non H', rt := Q } (start N vs) H) : Cl P w K mg base (k + 1) x ps sp := by
  obtain ⟨f, fd, F, m⟩ := T
  exact ⟨f, fd, F.ok S len (fun cdv A outer s H vs Q E => hbody f cdv A outer s H vs Q E), m, F.kp, F.binds hb⟩
noncomputable def Tups (H H' : Hp) : Prop := ∀ b xs, H b = some (.tup xs) → H' b = some (.tup xs)
section
variable {H H1 H2 : Hp} {l p : Addr} {o : HO} {xs ys : List V}
theorem Same.tups (e : Same H H1) : Tups H H1 := fun b xs q => e b _ q
theorem Tups.trans (a : Tups H H1) (b : Tups H1 H2) : Tups H H2 := fun c xs q => b c xs (a c xs q)
theorem Tups.lst (h : H l = some (.lst xs)) : Tups H (upd H l (.lst ys)) := fun b zs q => by
  rw [upd_ne (ne_of q h (by intro z; cases z))]; exact q
theorem Tups.new (h : H p = none) : Tups H (upd H p o) := fun b zs q => by
  rw [upd_ne (ne_of_none q h)]; exact q
theorem Same.put (s : Same H H1) (h : H l = none) : Same H (upd H1 l o) := fun b u q => by
  rw [upd_ne (ne_of_none q h)]; exact s b u q
theorem Same.new (s : Same H H1) (h : H1 p = none) : Same H (upd H1 p o) := s.put (s.free h)
theorem upd_keep {u : HO} (h : H l = some u) (hp : H p = none) : upd H p o l = some u := by
  rw [upd_ne (ne_of_none h hp)]; exact h
end
theorem atI_getD {α : Type} (xs : List α) (d : α) {i : Int} (h0 : 0 ≤ i) (h1 : i < (xs.length : Int)) : atI xs i = some (xs.getD i.toNat d) := by
  have e : i = ((i.toNat : Nat) : Int) := by omega
  have hl : i.toNat < xs.length := by omega
  have hx : xs[i.toNat]? = some (xs.getD i.toNat d) := by
    rw [List.getD_eq_getElem?_getD]
    simp [hl]
  have := atI_nat hx
  rw [← e] at this
  exact this
theorem atI_mem {α : Type} (xs : List α) {i : Int} (h0 : 0 ≤ i) (h1 : i < (xs.length : Int)) : ∃ v, v ∈ xs ∧ atI xs i = some v := by
  have e : i = ((i.toNat : Nat) : Int) := by omega
  have hl : i.toNat < xs.length := by omega
  have hx : xs[i.toNat]? = some xs[i.toNat] := by simp [hl]
  refine ⟨xs[i.toNat], List.getElem_mem hl, ?_⟩
  have := atI_nat hx
  rw [← e] at this
  exact this
theorem atI_map {α : Type} (f : α → V) (xs : List α) (d : α) {i : Int} (h0 : 0 ≤ i) (h1 : i < (xs.length : Int)) : atI (xs.map f) i = some (f (xs.getD i.toNat d)) := by
  have := atI_getD (xs.map f) (f d) h0 (by simpa using h1)
  rw [this, List.getD_eq_getElem?_getD, List.getElem?_map, List.getD_eq_getElem?_getD]
  have hl : i.toNat < xs.length := by omega
  simp [hl]
theorem iteSE {x : Str} {A B : Prop} (h : A) : if decide (V.str x = V.str x) = true then A else B := by
  rw [if_pos (decide_eq_true rfl)]; exact h
theorem iteSN {x y : Str} {A B : Prop} (e : ¬ x = y) (h : B) : if decide (V.str x = V.str y) = true then A else B := by
  rw [if_neg (by rw [decide_eq_false (fun q => e (V.str.inj q))]; exact Bool.false_ne_true)]; exact h
theorem ite2I {i j : Int} {A B : Prop} (h1 : i = j → A) (h2 : ¬ i = j → B) : if decide (V.int i = V.int j) = true then A else B :=
  ite2 (fun h => h1 (V.int.inj (of_decide_eq_true h))) fun h => h2 fun e => h (decide_eq_true (congrArg V.int e))
theorem kit_same (K : PySem.W.Frag) (T : String) : PySem.W.kitOne K (.type T) (.type T) = some true := by
  unfold PySem.W.kitOne
  rw [if_pos (by simp)]
noncomputable def isLet (c : Nat) : Bool := decide (97 ≤ c) && decide (c ≤ 122)
noncomputable def isFig (c : Nat) : Bool := decide (48 ≤ c) && decide (c ≤ 57)
noncomputable def isSg (c : Nat) : Bool := isLet c || isFig c
noncomputable def isNm : List Nat → Bool
  | [] => false
  | c :: r => isLet c && r.all isSg && decide (r.length ≤ 7)
noncomputable def NameOk (x : Str) : Prop := isNm x.cps.toList = true
noncomputable instance (x : Str) : Decidable (NameOk x) := inferInstanceAs (Decidable (_ = true))
inductive Th where
  | num (n : Int)
  | nam (x : Str)
noncomputable def thV : Th → V
  | .num n => .int n
  | .nam x => .str x
noncomputable def ThOk : Th → Prop
  | .num n => 0 ≤ n ∧ n < 10 ^ 60
  | .nam x => NameOk x
noncomputable def TermAt (H : Hp) (v : V) (t : Int × Th) : Prop := ∃ p, v = .ref p ∧ H p = some (.tup [.int t.1, thV t.2]) ∧ ThOk t.2
noncomputable abbrev Terms (H : Hp) : List V → List (Int × Th) → Prop := Paired (TermAt H)
theorem Paired.get? {α β : Type} {F : α → β → Prop} : ∀ {xs : List α} {ys : List β} {i : Nat} {x : α}, Paired F xs ys → xs[i]? = some x → ∃ y, ys[i]? = some y ∧ F x y
  | _, _, _, _, .nil, e => by simp at e
  | _, _, 0, _, .cons r _, e => by simp at e; subst e; exact ⟨_, rfl, r⟩
  | _, _, i + 1, x, .cons _ t, e => by
    obtain ⟨u, h1, h2⟩ := Paired.get? (i := i) (x := x) t (by simpa using e)
    exact ⟨u, by simpa using h1, h2⟩
theorem Paired.get?' {α β : Type} {F : α → β → Prop} : ∀ {xs : List α} {ys : List β} {i : Nat} {y : β}, Paired F xs ys → ys[i]? = some y → ∃ x, xs[i]? = some x ∧ F x y
  | _, _, _, _, .nil, e => by simp at e
  | _, _, 0, _, .cons r _, e => by simp at e; subst e; exact ⟨_, rfl, r⟩
  | _, _, i + 1, x, .cons _ t, e => by
    obtain ⟨u, h1, h2⟩ := Paired.get?' (i := i) (y := x) t (by simpa using e)
    exact ⟨u, by simpa using h1, h2⟩
theorem TermAt.mono {H H' : Hp} (s : Tups H H') {v : V} {t : Int × Th} (h : TermAt H v t) : TermAt H' v t := by
  obtain ⟨p, e, h, o⟩ := h
  exact ⟨p, e, s p _ h, o⟩
theorem Terms.mono {H H' : Hp} (s : Tups H H') {vs : List V} {ts : List (Int × Th)} (h : Terms H vs ts) : Terms H' vs ts := Paired.mapP h fun _ _ q => q.mono s
structure TermsAt (H : Hp) (t : Addr) (ts : List (Int × Th)) : Prop where
  ex : ∃ vs, H t = some (.tup vs) ∧ Terms H vs ts
  lo : 1 ≤ ts.length
  hi : ts.length ≤ 6
theorem TermsAt.mono {H H' : Hp} (s : Tups H H') {t : Addr} {ts : List (Int × Th)} (h : TermsAt H t ts) : TermsAt H' t ts := by
  obtain ⟨⟨vs, h1, h2⟩, lo, hi⟩ := h
  exact ⟨⟨vs, s t _ h1, h2.mono s⟩, lo, hi⟩
theorem take_succ_get {α : Type} {l : List α} {i : Nat} {x : α} (h : l[i]? = some x) : l.take (i + 1) = l.take i ++ [x] := by
  rw [List.take_succ, h]; rfl
end L2
set_option Elab.async false
set_option linter.all false
set_option maxRecDepth 100000
set_option maxHeartbeats 16000000
namespace L2
open PySem PySem.Spec PyProof.Rows
theorem strsAre_of {ys : List Str} : ∀ {us : List Value}, Vals (ys.map V.str) us → StrsAre us ys := by
  induction ys with
  | nil => intro us r; cases r; exact .nil
  | cons y r ih =>
    intro us h
    cases h with
    | cons h1 h2 =>
      obtain ⟨t, rfl⟩ := h1
      exact .cons y t (ih h2)
section
variable {X : Cx}
theorem mt_join : MtR X "str.join" (fun x vs H Q => ∃ sep p ys, x = .str sep ∧ vs = [.ref p] ∧ (SqT X.K H p (ys.map V.str) ∨ SqL X.K H p (ys.map V.str)) ∧ sep.length ≤ 16 ∧ (ys.map (·.length)).sum + ys.length ≤ 1048576 ∧ Q (.str (Str.join sep ys)) H) := by
  intro pins s σ H x xs v us Q I rx rs h
  obtain ⟨sep, p, ys, rfl, rfl, hq, hs, hw, q⟩ := h
  obtain ⟨t, rfl⟩ := rx
  obtain ⟨u, rfl, ru⟩ := vals1 rs
  cases ru
  rcases hq with hq | hq
  · obtain ⟨its, r', pl, hz⟩ := I.tuple hq
    exact join_tupleW pl (strsAre_of r') hs hw fun t' k => ⟨.str (Txt.join sep ys), H, I.tok _, ⟨_, rfl⟩, by rw [show Txt.join sep ys = Str.join sep ys from StrLaws.glued_eq_join sep ys]; exact q⟩
  · obtain ⟨its, r', pl, hz⟩ := I.list hq
    exact join_listW pl.isList (strsAre_of r') hs hw fun t' k => ⟨.str (Txt.join sep ys), H, I.tok _, ⟨_, rfl⟩, by rw [show Txt.join sep ys = Str.join sep ys from StrLaws.glued_eq_join sep ys]; exact q⟩
end
theorem str_ext {x y : Str} (h : x.cps.toList = y.cps.toList) : x = y := by
  obtain ⟨⟨a⟩⟩ := x
  obtain ⟨⟨b⟩⟩ := y
  have h' : a = b := h
  rw [h']
section
variable {X : Cx}
end
end L2
set_option Elab.async false
set_option linter.all false
set_option maxRecDepth 100000
set_option maxHeartbeats 16000000
namespace L2
open PySem PySem.Spec PyProof.Rows
noncomputable def closL (cells : List (Str × Addr)) : List (Str × NameKind) → List (Str × Addr) → List (Str × Addr)
  | [], cs => cs
  | (n, k) :: r, cs => closL cells r (if k == .free then (n, (cells.lookup n).getD 0) :: cs else cs)
theorem closL_pure {cells : List (Str × Addr)} {env : Env} (he : env.cells = cells) : ∀ (l : List (Str × NameKind)) (cs : List (Str × Addr)), (∀ y ∈ l, y.2 = .free → ∃ c, cells.lookup y.1 = some c) →
    (forIn l cs fun p cs => (do if p.2 == .free then (do let a ← cellOf env p.1; pure (ForInStep.yield ((p.1, a) :: cs))) else pure (ForInStep.yield cs) : Sem (ForInStep (List (Str × Addr))))) = pure (closL cells l cs) := by
  intro l
  induction l with
  | nil => intro cs _; rfl
  | cons p r ih =>
    intro cs h
    obtain ⟨n, k⟩ := p
    rw [List.forIn_cons]
    have hr : ∀ y ∈ r, y.2 = .free → ∃ c, cells.lookup y.1 = some c := fun y hy => h y (List.mem_cons_of_mem _ hy)
    by_cases hk : k = .free
    · subst hk
      obtain ⟨c, hc⟩ := h (n, .free) List.mem_cons_self rfl
      have hc' : env.cells.lookup n = some c := by rw [he]; exact hc
      have e : cellOf env n = pure c := by unfold cellOf; rw [hc']
      simp only [beq_self_eq_true, if_true, e, pure_bind]
      rw [ih _ hr]
      unfold closL
      rw [if_pos (by simp), show (cells.lookup n).getD 0 = c by rw [show cells.lookup n = some c from hc]; rfl]
      conv => rhs; unfold closL
    · have hb : (k == NameKind.free) = false := by simpa using hk
      simp only [hb, Bool.false_eq_true, if_false, pure_bind]
      rw [ih _ hr]
      conv => rhs; unfold closL
      rw [if_neg (by rw [hb]; exact Bool.false_ne_true)]
theorem closL_lookup {cells : List (Str × Addr)} {x : Str} {c : Addr} : ∀ (l : List (Str × NameKind)) (cs : List (Str × Addr)), (∀ y ∈ l, y.2 = .free → ∃ c, cells.lookup y.1 = some c) → (closL cells l cs).lookup x = some c → cells.lookup x = some c ∨ cs.lookup x = some c
  | [], cs, _, h => .inr h
  | (n, k) :: r, cs, hy, h => by
    unfold closL at h
    rcases closL_lookup r _ (fun y q => hy y (List.mem_cons_of_mem _ q)) h with h | h
    · exact .inl h
    · by_cases hk : k = .free
      · subst hk
        obtain ⟨c', hc⟩ := hy (n, .free) List.mem_cons_self rfl
        have hc : cells.lookup n = some c' := hc
        rw [if_pos (by simp), List.lookup_cons] at h
        split at h
        · rename_i e
          have e' : x = n := by simpa using e
          subst e'
          rw [hc] at h
          cases h
          exact .inl hc
        · exact .inr h
      · rw [if_neg (by simpa using hk)] at h
        exact .inr h
theorem closL_keep {cells : List (Str × Addr)} {x : Str} : ∀ (l : List (Str × NameKind)) (cs : List (Str × Addr)), (∃ c, cs.lookup x = some c) → ∃ c, (closL cells l cs).lookup x = some c
  | [], _, h => h
  | (n, k) :: r, cs, h => by
    unfold closL
    refine closL_keep r _ ?_
    split
    · rw [List.lookup_cons]
      split
      · exact ⟨_, rfl⟩
      · exact h
    · exact h
theorem closL_has {cells : List (Str × Addr)} {x : Str} : ∀ (l : List (Str × NameKind)) (cs : List (Str × Addr)), (x, NameKind.free) ∈ l → ∃ c, (closL cells l cs).lookup x = some c
  | (n, k) :: r, cs, h => by
    unfold closL
    rcases List.mem_cons.mp h with e | h
    · cases e
      refine closL_keep r _ ?_
      rw [if_pos (by simp), List.lookup_cons]
      simp
    · exact closL_has r _ h
theorem closure_pure {sc : Scope} {env : Env} (h : ∀ y ∈ sc.names, y.2 = .free → ∃ c, env.cells.lookup y.1 = some c) : closureFor sc env = pure (closL env.cells sc.names []) := by
  have := closL_pure (env := env) rfl sc.names [] h
  unfold closureFor
  simp only [bind_pure]
  exact this
theorem relabel_free {env : Env} {x : Str} : ∀ {names : List (Str × NameKind)}, names.lookup x = some .free →
    (names.map fun (n, k) => if (k == NameKind.free && env.scope.kind == .function && env.kindOf n == some .cell) then (n, NameKind.cell) else (n, k)).lookup x = some .cell ∨
    (names.map fun (n, k) => if (k == NameKind.free && env.scope.kind == .function && env.kindOf n == some .cell) then (n, NameKind.cell) else (n, k)).lookup x = some .free
  | [], h => by simp at h
  | (n, k) :: r, h => by
    have ih := @relabel_free env x r
    simp only [List.map_cons]
    by_cases hc : (k == NameKind.free && env.scope.kind == .function && env.kindOf n == some .cell) = true
    · rw [if_pos hc]
      simp only [List.lookup_cons] at h ⊢
      cases hx : x == n with
      | true => exact .inl rfl
      | false => simp only [hx] at h ⊢; exact ih h
    · rw [if_neg hc]
      simp only [List.lookup_cons] at h ⊢
      cases hx : x == n with
      | true => simp only [hx] at h ⊢; exact .inr h
      | false => simp only [hx] at h ⊢; exact ih h
theorem relabel_back {env : Env} {x : Str} : ∀ {names : List (Str × NameKind)},
    (names.map fun (n, k) => if (k == NameKind.free && env.scope.kind == .function && env.kindOf n == some .cell) then (n, NameKind.cell) else (n, k)).lookup x = some .cell ∨
    (names.map fun (n, k) => if (k == NameKind.free && env.scope.kind == .function && env.kindOf n == some .cell) then (n, NameKind.cell) else (n, k)).lookup x = some .free →
    (x, NameKind.free) ∈ names ∨ (x, NameKind.cell) ∈ names
  | [], h => by simp at h
  | (n, k) :: r, h => by
    have ih := @relabel_back env x r
    simp only [List.map_cons] at h
    have tl : (x, NameKind.free) ∈ r ∨ (x, NameKind.cell) ∈ r → (x, NameKind.free) ∈ (n, k) :: r ∨ (x, NameKind.cell) ∈ (n, k) :: r := fun q => q.imp (List.mem_cons_of_mem _) (List.mem_cons_of_mem _)
    by_cases hc : (k == NameKind.free && env.scope.kind == .function && env.kindOf n == some .cell) = true
    · rw [if_pos hc] at h
      have hk : k = .free := by
        simp only [Bool.and_eq_true] at hc
        simpa using hc.1.1
      simp only [List.lookup_cons] at h
      cases hx : x == n with
      | true =>
        have e : x = n := by simpa using hx
        subst e hk
        exact .inl List.mem_cons_self
      | false => simp only [hx] at h; exact tl (ih h)
    · rw [if_neg hc] at h
      simp only [List.lookup_cons] at h
      cases hx : x == n with
      | true =>
        have e : x = n := by simpa using hx
        subst e
        simp only [hx] at h
        rcases h with h | h
        · cases h; exact .inr List.mem_cons_self
        · cases h; exact .inl List.mem_cons_self
      | false => simp only [hx] at h; exact tl (ih h)
structure CompScope (osc : Scope) (N : List Str) (sc : Scope) (M : List Str) (ρ : List (Option Nat)) : Prop where
  kind : sc.kind = .function
  nocell : ∀ y ∈ sc.names, y.2 ≠ .cell
  own : ∀ y ∈ sc.names, y.2 = .local → sc.names.lookup y.1 = some .local
  fre : ∀ y ∈ sc.names, y.2 = .free → osc.names.lookup y.1 = some .cell ∨ osc.names.lookup y.1 = some .free
  len : ρ.length = M.length
  ren : ∀ p ∈ ρ.zip M, (match p.1 with | none => true | some i => decide (N[i]? = some p.2 ∧ sc.names.lookup p.2 = some .free)) = true
  nd : M.Nodup
noncomputable def subS (ρ : List (Option Nat)) (σ : St) : St := ρ.map fun o => match o with | none => none | some i => (σ[i]?).join
noncomputable def cxComp (X : Cx) (sc : Scope) (cl : List (Str × Addr)) (C : Addr) (M : List Str) (s : Shared) (H : Hp) (fp : List Addr) (xe : Value → Shared → Prop) : Cx where
  prog := X.prog
  w := X.w
  K := X.K
  mg := X.mg
  base := X.base
  A := X.A
  N := M
  s₀ := s
  H₀ := H
  env := compEnvC sc cl C X.env
  outer := X.stack
  stack := X.stack
  ex := fp
  fn := fun _ => false
  calm := X.calm
  pn := []
  xe := xe
theorem comp_loop {P : Program} {w : World} {A : Around} {R : Result → Shared → Prop} {s : Shared} {elt tg iter : Expr} {ifs : List Expr} {sc : Scope} {pos : Pos} {it acc : Value} {env : Env} (J : Nat → Shared → Prop)
    (turn : ∀ n s, J n s → wpAny (model P w) A (pyNext it) (fun r s1 => match r with
      | none => R (.ok .next) s1
      | some v => wpAny (model P w) A (letOwnedTupleGo tg it v) (fun _ s2 => wpAny (model P w) A (assign tg env v) (fun _ s3 =>
          wpAny (model P w) A (forIn ifs true fun c r => if r = true then do let ok ← isTrue c env (eval c env); pure (ForInStep.yield ok) else pure (ForInStep.yield r)) (fun ok s4 =>
            if ok = true then wpAny (model P w) A (eval elt env) (fun x s5 => wpAny (model P w) A (call (.builtin "list.append") [acc, x]) (fun _ s6 => ∃ m, m < n ∧ J m s6) (notedBy (model P w) A env fun e s' => R (.error e) s') s5)
              (notedBy (model P w) A env fun e s' => R (.error e) s') s4
            else ∃ m, m < n ∧ J m s4) (notedBy (model P w) A env fun e s' => R (.error e) s') s3) (notedBy (model P w) A env fun e s' => R (.error e) s') s2) (notedBy (model P w) A env fun e s' => R (.error e) s') s1)
      (notedBy (model P w) A env fun e s' => R (.error e) s') s)
    (n : Nat) (h : J n s) : codeAny (model P w) A (.compLoop (.ListComp elt [⟨tg, iter, ifs, 0⟩] sc pos) 0 it acc env) R s := by
  refine codeAny_loop rfl J (fun n s hJ => ?_) n h
  show wpAny (model P w) A ((compTurn (.ListComp elt [⟨tg, iter, ifs, 0⟩] sc pos) 0 it acc env).onRaise fun x => do noteFrame x env; theTreesLotGoes x) _ _ s
  refine wpAny_noted ?_
  rw [compTurn_list]
  refine wpAny_bind (wpAny_standAt (wpAny_bind (thn (turn n s hJ) fun r s1 h1 => ?_)))
  cases r with
  | none => exact wpAny_pure h1
  | some v =>
    refine wpAny_bind (thn h1 fun _ s2 h2 => wpAny_bind (thn h2 fun _ s3 h3 => wpAny_bind (thn h3 fun ok s4 h4 => ?_)))
    cases ok with
    | false => exact wpAny_pure ⟨rfl, h4⟩
    | true => exact wpAny_bind (wpAny_bind (thn h4 fun x s5 h5 => wpAny_bind (thn h5 fun _ s6 h6 => wpAny_pure (wpAny_pure ⟨rfl, h6⟩))))
noncomputable def PTs (X : Cx) (ifs : List Expr) (t : TT) : Prop :=
  ∀ (pins : List (Addr × Obj)) (s : Shared) (σ : St) (H : Hp) (Q : Bool → Hp → Prop), Inv X pins σ H s → t σ H Q →
    wpAny (model X.prog X.w) X.A (forIn ifs true fun c r => if r = true then do let ok ← isTrue c X.env (eval c X.env); pure (ForInStep.yield ok) else pure (ForInStep.yield r)) (TP X pins σ Q) X.xe s
noncomputable def tNoTest : TT := fun _ H Q => Q true H
theorem nt {σ : St} {H : Hp} {A B : Hp → Prop} (h : A H) : tNoTest σ H (fun b H5 => if b = true then A H5 else B H5) := by
  show if true = true then A H else B H
  exact iteT h
theorem ntG {i : Nat} {v : V} {σ : St} {H : Hp} {A B : St → Hp → Prop} (h : A (σ.set i (some v)) H) : gName i v σ H (fun σ4 H4 => tNoTest σ4 H4 fun b H5 => if b = true then A σ4 H5 else B σ4 H5) := by
  show if true = true then A (σ.set i (some v)) H else B (σ.set i (some v)) H
  exact iteT h
theorem pts_nil {X : Cx} : PTs X [] tNoTest := fun _ _ _ H _ I h => wpAny_tests_nil ⟨H, I, h⟩
theorem pts_one {X : Cx} {c : Expr} {t : TT} (h : PT X c t) : PTs X [c] t := fun pins s σ H Q I q => wpAny_tests_one (h pins s σ H Q I q)
noncomputable def tComp (wi : TI) (ρ : List (Option Nat)) (g : TG) (tt : TT) (te : TE) : TE := fun σ H Q => wi σ H fun J H1 => ∀ D, H1 D = none → ∃ W : Nat → Nat → St → Hp → Prop, (∃ m, W 0 m (subS ρ σ) (upd H1 D (.lst []))) ∧ ∀ i m σ2 H2, W i m σ2 H2 →
  (J.stop i H2 ∧ Q (.ref D) H2) ∨ (J.go i H2 ∧ ∃ N : St → Hp → Prop, (∀ σ' H', N σ' H' → ∃ m', m' < m ∧ W (i + 1) m' σ' H') ∧ ∀ x H3, J.yld i H2 x H3 → g x σ2 H3 fun σ4 H4 => tt σ4 H4 fun b H5 =>
    if b = true then te σ4 H5 fun y H6 => ∃ ys, H6 D = some (.lst ys) ∧ ys.length < sizeLine ∧ N σ4 (upd H6 D (.lst (ys ++ [y])))
    else N σ4 H5)
theorem comp_by {J : It} {g : TG} {tt : TT} {te : TE} {Q : Hp → Prop} {σ : St} {H : Hp} {D : Addr} (n : Nat) (Pv : Nat → St → Hp → Prop) (h0 : Pv 0 σ (upd H D (.lst [])))
    (hs : ∀ i σ2 H2, i < n → Pv i σ2 H2 → J.go i H2 ∧ ∀ x H3, J.yld i H2 x H3 → g x σ2 H3 fun σ4 H4 => tt σ4 H4 fun b H5 =>
      if b = true then te σ4 H5 fun y H6 => ∃ ys, H6 D = some (.lst ys) ∧ ys.length < sizeLine ∧ Pv (i + 1) σ4 (upd H6 D (.lst (ys ++ [y]))) else Pv (i + 1) σ4 H5)
    (hd : ∀ σ2 H2, Pv n σ2 H2 → J.stop n H2 ∧ Q H2) :
    ∃ W : Nat → Nat → St → Hp → Prop, (∃ m, W 0 m σ (upd H D (.lst []))) ∧ ∀ i m σ2 H2, W i m σ2 H2 →
      (J.stop i H2 ∧ Q H2) ∨ (J.go i H2 ∧ ∃ N : St → Hp → Prop, (∀ σ' H', N σ' H' → ∃ m', m' < m ∧ W (i + 1) m' σ' H') ∧ ∀ x H3, J.yld i H2 x H3 → g x σ2 H3 fun σ4 H4 => tt σ4 H4 fun b H5 =>
        if b = true then te σ4 H5 fun y H6 => ∃ ys, H6 D = some (.lst ys) ∧ ys.length < sizeLine ∧ N σ4 (upd H6 D (.lst (ys ++ [y]))) else N σ4 H5) := by
  refine ⟨fun i m σ H => m = n - i ∧ i ≤ n ∧ Pv i σ H, ⟨n, by simp, Nat.zero_le _, h0⟩, ?_⟩
  rintro i m σ2 H2 ⟨rfl, hi, p⟩
  by_cases hlt : i < n
  · obtain ⟨h1, h2⟩ := hs i σ2 H2 hlt p
    exact .inr ⟨h1, Pv (i + 1), fun σ' H' p' => ⟨n - (i + 1), by omega, rfl, hlt, p'⟩, h2⟩
  · have e : i = n := by omega
    subst e
    exact .inl (hd σ2 H2 p)
section
variable {X : Cx} {tg elt iter : Expr} {ifs : List Expr} {sc : Scope} {pos : Pos} {M : List Str} {ρ : List (Option Nat)} {wi : TI} {g : TG} {tt : TT} {te : TE}
theorem comp_block (osc : Scope) (hosc : X.env.scope = osc) (N : List Str) (hN : X.N = N) (S : CompScope osc N sc M ρ) (hc : X.calm = true)
    (hg : ∀ cl C s H fp xe, PG (cxComp X sc cl C M s H fp xe) tg g) (ht : ∀ cl C s H fp xe, PTs (cxComp X sc cl C M s H fp xe) ifs tt) (he : ∀ cl C s H fp xe, PE (cxComp X sc cl C M s H fp xe) elt te)
    {pins : List (Addr × Obj)} {σ : St} {H : Hp} {s : Shared} {itv : Value} {Q : VK} {RR : Value → Addr → Result → Shared → Prop} (I : Inv X pins σ H s)
    (h2 : PIE X pins σ tg (fun J H1 => ∀ D, H1 D = none → ∃ W : Nat → Nat → St → Hp → Prop, (∃ m, W 0 m (subS ρ σ) (upd H1 D (.lst []))) ∧ ∀ i m σ2 H2, W i m σ2 H2 →
      (J.stop i H2 ∧ Q (.ref D) H2) ∨ (J.go i H2 ∧ ∃ N : St → Hp → Prop, (∀ σ' H', N σ' H' → ∃ m', m' < m ∧ W (i + 1) m' σ' H') ∧ ∀ x H3, J.yld i H2 x H3 → g x σ2 H3 fun σ4 H4 => tt σ4 H4 fun b H5 =>
        if b = true then te σ4 H5 fun y H6 => ∃ ys, H6 D = some (.lst ys) ∧ ys.length < sizeLine ∧ N σ4 (upd H6 D (.lst (ys ++ [y])))
        else N σ4 H5)) itv s)
    (hR : ∀ (D C : Addr) (H' : Hp) (s' : Shared) (mC : Str → Option Value), Inv X pins σ H' s' → s'.heap.Ns C mC → FpOk X pins H' C → Q (.ref D) H' → RR (.ref D) C (.ok .next) s') :
    wpAny (model X.prog X.w) X.A (newList []) (fun acc s3 => wpAny (model X.prog X.w) X.A (newFunctionEnv sc X.env.globals (closL X.env.cells sc.names []) [] X.env.qual none .none (some X.env)) (fun cenv s4 =>
      codeAny (model X.prog X.w) X.A (.compStart (.ListComp elt [⟨tg, iter, ifs, 0⟩] sc pos) 0 itv acc { cenv with scope := relabel sc X.env }) (RR acc cenv.locals) s4) X.xe s3) X.xe s := by
  subst hosc hN
  obtain ⟨it, fp, tn, J, H2, rfl, I2, T, st2, f2, q2⟩ := h2
  have hcells : ∀ y ∈ sc.names, y.2 = .free → ∃ c, X.env.cells.lookup y.1 = some c := fun y hy hf => I2.ok.has y.1 (S.fre y hy hf)
  have hclx : ∀ {x c}, (closL X.env.cells sc.names []).lookup x = some c → X.env.cells.lookup x = some c := fun {x c} e => (closL_lookup _ _ hcells e).elim id fun z => by simp at z
  generalize hcl : closL X.env.cells sc.names [] = cl at hclx ⊢
  refine wpAny_newObj_type (wpAny_newFunctionEnv S.nocell (by intro y hy; simp at hy) (fun h1 hns hsb => ?_) S.kind)
  dsimp only at hns hsb ⊢
  generalize hG : s.heap.push { cls := .type "list", dict := none, data := .seq ([] : List Value).toArray } = G at hns hsb ⊢
  have hC : G.objs.size = s.heap.objs.size + 1 := by rw [← hG, Heap.size_push]
  have old : ∀ b o, s.heap.get? b = some o → h1.get? b = some o := fun b o e =>
    hsb.extBut b o (Nat.ne_of_lt (by rw [hC]; exact Nat.lt_succ_of_lt (Heap.lt_size e))) (Heap.get?_push_of_some _ (hG ▸ Heap.get?_push_of_some _ e))
  have hD1 : h1.get? s.heap.objs.size = some { cls := .type "list", dict := none, data := .seq ([] : List Value).toArray } :=
    hsb.extBut _ _ (by rw [hC]; exact Nat.ne_of_lt (Nat.lt_succ_self _)) (Heap.get?_push_of_some _ (hG ▸ Heap.get?_push_size _ rfl))
  have hDn : H2 s.heap.objs.size = none := I2.hok.fresh (Nat.le_refl _)
  obtain ⟨W, ⟨m0, w0⟩, turn⟩ := q2 s.heap.objs.size hDn
  have hCle : s.heap.objs.size ≤ G.objs.size := by rw [hC]; exact Nat.le_succ _
  have hCD : G.objs.size ≠ s.heap.objs.size := by rw [hC]; exact Nat.succ_ne_self _
  generalize hxe : notedBy (model X.prog X.w) X.A (compEnvC sc cl G.objs.size X.env) (fun e s' => RR (.ref s.heap.objs.size) G.objs.size (.error e) s') = xe
  have fpC : ∀ b ∈ fp, b ≠ G.objs.size := fun b hb => by
    obtain ⟨o, e, _⟩ := T.obj 0 _ st2 b hb
    have := Heap.lt_size e
    exact Nat.ne_of_lt (Nat.lt_of_lt_of_le this hCle)
  have fpS : ∀ b ∈ fp, b ∉ frs X.stack := fun b hb z => by
    obtain ⟨f0, f1, f3, _⟩ := f2 b hb
    rcases List.mem_cons.mp (I2.stkSub b z) with e | e
    · exact f1 e
    · exact f3 e
  have hok : (cxComp X sc cl G.objs.size M s H2 fp xe).Ok := by
    refine ⟨I2.ok.mod, S.kind, I2.ok.glob, I2.ok.blt, hCle, fun x y c e1 e2 => I2.ok.inj x y c (hclx e1) (hclx e2), fun x hx => ?_, (fun x c e _ => absurd (show false = true from e) Bool.false_ne_true), I2.ok.hd, I2.ok.frames, .inl rfl, fun b hb => ⟨fpC b hb, fun x c e => (f2 b hb).2.2.2.2.1 x c (hclx e)⟩,
      I2.bs, Nat.le_trans I2.ok.bsz I2.sz, fun b o e hb => ?_, fpS, I2.stack, I2.stkFree⟩
    · rcases relabel_back (names := sc.names) (env := X.env) hx with q | q
      · rw [← hcl]; exact closL_has _ _ q
      · exact absurd rfl (S.nocell _ q)
    · rcases (f2 b hb).2.2.2.1 with z | z
      · exact I2.ok.noex b o e z
      · exact absurd (Nat.lt_of_lt_of_le (Heap.lt_size e) (Nat.le_trans I2.ok.bsz z)) (Nat.lt_irrefl _)
  have I4 : Inv (cxComp X sc cl G.objs.size M s H2 fp xe) [] (subS ρ σ) (upd H2 s.heap.objs.size (.lst [])) { s with heap := h1, toks := s.toks + ([] : List (Str × Value)).length } := by
    refine ⟨hok, rfl, I2.bare, Un.laid old (Nat.le_refl _) hDn, ⟨_, hns, fun j x v e1 e2 _ => ?_⟩, fun x c e => ?_, ?_, fun x c e => ?_, fun p hp => absurd (show p ∈ ([] : List (Addr × Obj)) from hp) (by simp), I2.hok.laid old (Nat.le_refl _) ⟨by show 0 ≤ sizeLine; decide, [], 0, .nil, hD1⟩, ?_⟩
    · unfold subS at e2
      rw [List.getElem?_map] at e2
      cases q : ρ[j]? with
      | none => rw [q] at e2; cases e2
      | some o =>
        rw [q] at e2
        cases o with
        | none => cases e2
        | some i =>
          have e2' : (σ[i]?).join = some v := Option.some.inj e2
          have e3 : σ[i]? = some (some v) := by
            cases z : σ[i]? with
            | none => rw [z] at e2'; cases e2'
            | some y => rw [z] at e2'; cases y with
              | none => cases e2'
              | some y => cases e2'; rfl
          have hz : (ρ.zip M)[j]? = some (some i, x) := List.getElem?_zip_eq_some.mpr ⟨q, e1⟩
          have hr := S.ren (some i, x) (List.mem_of_getElem? hz)
          obtain ⟨r1, r2⟩ := of_decide_eq_true hr
          obtain ⟨m, hn, hl⟩ := I2.loc
          have hfr := S.fre _ (PySem.mem_of_lookup r2) rfl
          obtain ⟨u, ru, lk⟩ := hl i x v r1 e3 (hfr.elim (fun z => .inr (.inl z)) fun z => .inr (.inr z))
          refine ⟨u, ru, ?_⟩
          rcases lk with ⟨k, _⟩ | ⟨_, c, hcc, cell⟩
          · have k' : X.env.scope.names.lookup x = some .local := k
            rcases hfr with z | z
            · rw [k'] at z; cases z
            · rw [k'] at z; cases z
          · obtain ⟨c', hc'⟩ := closL_has (cells := X.env.cells) sc.names [] (PySem.mem_of_lookup r2)
            rw [hcl] at hc'
            have := hclx hc'
            rw [hcc] at this
            cases this
            obtain ⟨oc, ho, hd⟩ := cell
            exact .inr ⟨relabel_free r2, _, hc', oc, old _ _ ho, hd⟩
    · obtain ⟨v, oc, ho, hd⟩ := I2.cell x c (hclx e)
      exact ⟨v, oc, old _ _ ho, hd⟩
    · show upd H2 s.heap.objs.size (.lst []) G.objs.size = none
      rw [upd_ne hCD]
      exact I2.hok.fresh hCle
    · show upd H2 s.heap.objs.size (.lst []) c = none
      obtain ⟨v, oc, ho, hd⟩ := I2.cell x c (hclx e)
      rw [upd_ne (Nat.ne_of_lt (Heap.lt_size ho))]
      exact I2.freeC x c (hclx e)
    · show (subS ρ σ).length = M.length
      unfold subS
      rw [List.length_map, S.len]
  have st4 : tn 0 h1 := T.keep 0 _ _ st2 fun b _ o e => old b o e
  have fr4 : ∀ b ∈ fp, upd H2 s.heap.objs.size (.lst []) b = none := fun b hb => by
    obtain ⟨o, e, _⟩ := T.obj 0 _ st2 b hb
    rw [upd_ne (Nat.ne_of_lt (Heap.lt_size e))]
    exact (f2 b hb).1
  have stat : ∀ {H' : Hp}, (∀ b ∈ fp, H' b = none) → ∀ b ∈ fp, FpOk (cxComp X sc cl G.objs.size M s H2 fp xe) [] H' b := fun hn b hb =>
    ⟨hn b hb, fpC b hb, fpS b hb, .inl hb, fun x c e => (f2 b hb).2.2.2.2.1 x c (hclx e), fun p hp => absurd (show p ∈ ([] : List (Addr × Obj)) from hp) (by simp)⟩
  have loop : codeAny (model X.prog X.w) X.A (.compLoop (.ListComp elt [⟨tg, iter, ifs, 0⟩] sc pos) 0 (.ref it) (.ref s.heap.objs.size) (compEnvC sc cl G.objs.size X.env)) (RR (.ref s.heap.objs.size) G.objs.size)
      { s with heap := h1, toks := s.toks + ([] : List (Str × Value)).length } := by
    refine comp_loop (fun n s' => ∃ i σ' H', Inv (cxComp X sc cl G.objs.size M s H2 fp xe) [] σ' H' s' ∧ tn i s'.heap ∧ (∀ b ∈ fp, H' b = none) ∧ W i n σ' H') ?_ m0 ⟨0, _, _, I4, st4, fr4, w0⟩
    rw [hxe]
    rintro n s3 ⟨i, σ3, H3, I3, st3, fr3, w3⟩
    rcases turn i n σ3 H3 w3 with ⟨stop, qn⟩ | ⟨go, N, hN, step⟩
    · refine thn (T.done (cxComp X sc cl G.objs.size M s H2 fp xe) rfl rfl rfl hc i [] s3 σ3 H3 xe I3 (stat fr3) st3 stop) fun r s4 ⟨hr, I5⟩ => ?_
      subst hr
      obtain ⟨mC, nC, _⟩ := I5.loc
      have I6 : Inv X pins σ H3 s4 := I2.call' I5.os I5.base I5.hok I5.bare fun b hb => ⟨(f2 b hb).2.2.2.1, (f2 b hb).2.1, (f2 b hb).2.2.2.2.1, (f2 b hb).2.2.2.2.2⟩
      exact hR _ _ H3 s4 mC I6 nC (I2.fpOk hCle I5.free) qn
    · refine thn (T.item (cxComp X sc cl G.objs.size M s H2 fp xe) rfl rfl rfl hc i [] s3 σ3 H3 xe I3 (stat fr3) st3 go) fun r s4 ⟨u, hr, h4⟩ => ?_
      subst hr
      refine thn h4 fun _ s5 ⟨x, H5, I5, r5, y5, st5, fr5⟩ => ?_
      have I5' := I5.pinned (stat fr5) (T.obj _ _ st5)
      refine thn (hg cl G.objs.size s H2 fp xe _ s5 σ3 H5 x u _ I5' r5 (step x H5 y5)) fun _ s6 ⟨σ6, H6, I6, q6⟩ => ?_
      have fin : ∀ {s7 : Shared} {σ7 : St} {H7 : Hp}, Inv (cxComp X sc cl G.objs.size M s H2 fp xe) ([] ++ pinsAt fp s5.heap) σ7 H7 s7 → (∃ m', m' < n ∧ W (i + 1) m' σ7 H7) →
          ∃ m, m < n ∧ ∃ i σ' H', Inv (cxComp X sc cl G.objs.size M s H2 fp xe) [] σ' H' s7 ∧ tn i s7.heap ∧ (∀ b ∈ fp, H' b = none) ∧ W i m σ' H' := fun {s7 σ7 H7} I7 ⟨m', hm, w7⟩ => by
        refine ⟨m', hm, i + 1, σ7, H7, I7.unpinned, T.keep _ _ _ st5 fun b hb o e => (I7.pin (b, o) (List.mem_append_right _ (List.mem_append_right _ (mem_pinsAt hb e)))).1, fun b hb => ?_, w7⟩
        obtain ⟨o, e, d⟩ := T.obj _ _ st5 b hb
        exact (I7.pin (b, o) (List.mem_append_right _ (List.mem_append_right _ (mem_pinsAt hb e)))).2.1
      refine thn (ht cl G.objs.size s H2 fp xe _ s6 σ6 H6 _ I6 q6) fun ok s7 ⟨H7, I7, q7⟩ => ?_
      cases ok with
      | false =>
        rw [if_neg Bool.false_ne_true] at q7 ⊢
        exact fin I7 (hN _ _ q7)
      | true =>
        rw [if_pos rfl] at q7 ⊢
        refine thn (he cl G.objs.size s H2 fp xe _ s7 σ6 H7 _ I7 q7) fun y s8 ⟨yv, H8, I8, r8, ys, hys, hlt, q8⟩ => ?_
        obtain ⟨z, its, k, rv, hl, e⟩ := I8.lstM hys
        refine call_meets F.slot_list_append ⟨_, e, rfl⟩ F.entry_list_append (F.args_list_append_2 _ _) (PySem.list_append _ its.toArray k y (by rw [List.size_toArray]; omega)) ⟨e, ?_⟩
        exact fin (I8.lset (its' := its ++ [y]) hys e (by simp) (rv.append (.cons r8 .nil)) (by rw [List.length_append, List.length_singleton]; omega)) (hN _ _ q8)
  exact codeAny_compStart_list loop (T.self X.A 0 _ _ _ st4 loop)
theorem pe_comp (osc : Scope) (N : List Str) (S : CompScope osc N sc M ρ) (hi : PI X tg iter wi) (hg : ∀ cl C s H fp xe, PG (cxComp X sc cl C M s H fp xe) tg g) (ht : ∀ cl C s H fp xe, PTs (cxComp X sc cl C M s H fp xe) ifs tt)
    (he : ∀ cl C s H fp xe, PE (cxComp X sc cl C M s H fp xe) elt te) (hosc : X.env.scope = osc := by rfl) (hN : X.N = N := by rfl) (hc : X.calm = true := by rfl) (hs : ∀ x, foldedSetIterable iter X.env x = pure x := by intro _; rfl) :
    PE X (.ListComp elt [⟨tg, iter, ifs, 0⟩] sc pos) (tComp wi ρ g tt te) := by
  intro pins s σ H Q I h
  have hcells : ∀ y ∈ sc.names, y.2 = .free → ∃ c, X.env.cells.lookup y.1 = some c := fun y hy hf => I.ok.has y.1 (by show X.env.scope.names.lookup y.1 = _ ∨ X.env.scope.names.lookup y.1 = _; rw [hosc]; exact S.fre y hy hf)
  rw [eval_ListComp]
  refine wpAny_comprehension_free (M := model X.prog X.w) (A := X.A) (E := X.xe) (e := .ListComp elt [⟨tg, iter, ifs, 0⟩] sc pos) rfl hs (closure_pure hcells) S.kind S.own (thn (hi pins s σ H _ I h) fun v s1 h1 => thn h1 fun itv s2 h2 => ?_)
  obtain ⟨_, _, _, _, _, _, I2, _⟩ := id h2
  refine comp_block (RR := fun acc C => compPost (model X.prog X.w) X.A X.xe none (EP X pins σ Q) acc C) osc hosc N hN S hc hg ht he I2 h2 fun D C H' s' mC I' nC fC q => ?_
  refine ⟨mC, nC, fun h' sb => ?_⟩
  obtain ⟨f0, f1, _, f3, f4, f5⟩ := fC
  exact ⟨.ref D, H', I'.turned (t' := s'.toks) (fun b o hb e => (sb.2 b hb).trans e) f0 f1 f3 f4 f5, rfl, q⟩
theorem ps_setC {j : Nat} {x : Str} {px spos : Pos} (osc : Scope) (N : List Str) (S : CompScope osc N sc M ρ) (hNd : X.N.Nodup) (hj : X.N[j]? = some x) (hx : Loc X.env.scope x) (hi : PI X tg iter wi) (hg : ∀ cl C s H fp xe, PG (cxComp X sc cl C M s H fp xe) tg g)
    (ht : ∀ cl C s H fp xe, PTs (cxComp X sc cl C M s H fp xe) ifs tt) (he : ∀ cl C s H fp xe, PE (cxComp X sc cl C M s H fp xe) elt te)
    (hsw : swapsWith (.ListComp elt [⟨tg, iter, ifs, 0⟩] sc pos) (some (.Name x px)) spos.line X.env = pure true := by rfl) (hosc : X.env.scope = osc := by rfl) (hN : X.N = N := by rfl) (hc : X.calm = true := by rfl) (hs : ∀ x, foldedSetIterable iter X.env x = pure x := by intro _; rfl)
    (hf : X.fn x = true ∨ X.env.scope.names.lookup x = some .local := by first | exact .inl rfl | exact .inr rfl | assumption) :
    PS X (.Assign [.Name x px] (.ListComp elt [⟨tg, iter, ifs, 0⟩] sc pos) spos) (tAsg (tComp wi ρ g tt te) (gName j)) := by
  intro pins s σ H D I h
  have hcells : ∀ y ∈ sc.names, y.2 = .free → ∃ c, X.env.cells.lookup y.1 = some c := fun y hy hf => I.ok.has y.1 (by show X.env.scope.names.lookup y.1 = _ ∨ X.env.scope.names.lookup y.1 = _; rw [hosc]; exact S.fre y hy hf)
  rw [exec_Assign_Name_used _ _ _ _ hsw]
  refine wpAny_bind (wpAny_standAt (wpAny_bind ?_))
  show wpAny (model X.prog X.w) X.A (do let _ ← comprehension (.ListComp elt [⟨tg, iter, ifs, 0⟩] sc pos) sc X.env (firstIterPos [⟨tg, iter, ifs, 0⟩] pos) (newList []) false (eval iter X.env) (some (assign (.Name x px) X.env))) _ X.xe s
  refine wpAny_bind (thn (Q := fun _ s' => SP X pins D .next s') (wpAny_comprehension_free (M := model X.prog X.w) (A := X.A) (E := X.xe) (e := .ListComp elt [⟨tg, iter, ifs, 0⟩] sc pos) (use := some (assign (.Name x px) X.env)) rfl hs (closure_pure hcells) S.kind S.own
    (thn (hi pins s σ H _ I h) fun v s1 h1 => thn h1 fun itv s2 h2 => ?_)) fun _ s' hq => wpAny_pure (wpAny_pure hq))
  obtain ⟨_, _, _, _, _, _, I2, _⟩ := id h2
  refine comp_block (Q := fun v H' => gName j v σ H' D.nx) (RR := fun acc C => compPost (model X.prog X.w) X.A X.xe (some (assign (.Name x px) X.env)) (fun _ s' => SP X pins D .next s') acc C) osc hosc N hN S hc hg ht he I2 h2 fun D' C H' s' mC I' nC fC q => ?_
  show wpAny _ _ (assign (.Name x px) X.env (.ref D')) _ _ s'
  refine wpAny_assign_Name (store_ok2 I' hNd hj hx (v := .ref D') rfl (fun s3 I3 ⟨a, sb, ha⟩ => ?_) hf)
  have hCa : C ≠ a := by
    rcases ha with e | e
    · rw [e]; exact fC.2.1
    · exact fun z => fC.2.2.2.2.1 x a e z.symm
  refine ⟨mC, nC.sameBut sb hCa, fun h' sb2 => ?_⟩
  obtain ⟨f0, f1, _, f3, f4, f5⟩ := fC
  exact ⟨_, H', I3.turned (t' := s3.toks) (fun b o hb e => (sb2.2 b hb).trans e) f0 f1 f3 f4 f5, q⟩
end
end L2
set_option Elab.async false
set_option linter.all false
set_option maxRecDepth 100000
set_option maxHeartbeats 16000000
namespace L2
open PySem PySem.Spec PyProof.Rows
section
variable {X : Cx} {tg : Expr}
theorem sl_listK {K : PySem.W.Frag} (h : X.K = K) : SlR X (rSlL K) := h ▸ sl_list
theorem ix_listK {K : PySem.W.Frag} (h : X.K = K) : IxR X (rIxL K) := h ▸ ix_list
theorem ix_tupK {K : PySem.W.Frag} (h : X.K = K) : IxR X (rIxT K) := h ▸ ix_tup
theorem op_in_seqK {K : PySem.W.Frag} (h : X.K = K) : OpR X (compareOp .In) (rIn K false) := h ▸ op_in_seq
theorem call_tuple_ofK {K : PySem.W.Frag} (h : X.K = K) : CallR X (.type "tuple") (fun xs H Q => ∃ p ys, xs = [.ref p] ∧ ((SqL K H p ys ∧ ∀ l, H l = none → Q (.ref l) (upd H l (.tup ys))) ∨ (SqT K H p ys ∧ Q (.ref p) H))) := h ▸ call_tuple_of
theorem call_isinstK {K : PySem.W.Frag} (h : X.K = K) : CallR X (.builtin "isinstance") (fun xs H Q => ∃ x t T b, xs = [x, .ty T] ∧ TyOf K H x t ∧ PySem.W.kitOne K t (.type T) = some b ∧ Q (.bl b) H) := h ▸ call_isinst
theorem pg_tupK {K : PySem.W.Frag} {pos : Pos} {es : List Expr} {k : Nat} {t : TGs} {n : Nat} (hK : X.K = K) (hc : X.calm = true) (h : PGs X es t) (hn : (assignEach es X.env).length = n := by rfl) (hst : (assignEach es X.env).findIdx? (·.1) = none := by rfl) : PG X (.Tuple es k pos) (gTup K n t) := hK ▸ pg_tup hc h hn hst
end
end L2
set_option Elab.async false
set_option linter.all false
set_option maxRecDepth 100000
set_option maxHeartbeats 16000000
namespace L2
open PySem PySem.Spec PyProof.Rows
noncomputable def PairAt (H : Hp) (v : V) (d : Str × Str) : Prop := ∃ p, v = .ref p ∧ H p = some (.tup [.str d.1, .str d.2]) ∧ NameOk d.1 ∧ NameOk d.2
noncomputable abbrev Pairs (H : Hp) : List V → List (Str × Str) → Prop := Paired (PairAt H)
theorem PairAt.mono {H H' : Hp} (s : Tups H H') {v : V} {t : Str × Str} (h : PairAt H v t) : PairAt H' v t := by
  obtain ⟨p, e, h, o⟩ := h
  exact ⟨p, e, s p _ h, o⟩
theorem Pairs.mono {H H' : Hp} (s : Tups H H') {vs : List V} {ts : List (Str × Str)} (h : Pairs H vs ts) : Pairs H' vs ts := Paired.mapP h fun _ _ q => q.mono s
structure PairsAt (H : Hp) (t : Addr) (ps : List (Str × Str)) : Prop where
  ex : ∃ vs, H t = some (.tup vs) ∧ Pairs H vs ps
  hi : ps.length ≤ 6
theorem PairsAt.mono {H H' : Hp} (s : Tups H H') {t : Addr} {ts : List (Str × Str)} (h : PairsAt H t ts) : PairsAt H' t ts := by
  obtain ⟨⟨vs, h1, h2⟩, hi⟩ := h
  exact ⟨⟨vs, s t _ h1, h2.mono s⟩, hi⟩
noncomputable def optV : Option Str → V
  | none => .non
  | some x => .str x
inductive Rw where
  | bring (p : Str) (ps : List (Str × Str))
  | give (o g : Str)
  | set (o : Str) (ts : List (Int × Th))
  | take (o : Str)
  | say (ts : List (Int × Th)) (w : Option Str)
  | need (ts : List (Int × Th))
  | ask (p : Str) (w : Option Str)
  | part (p : Str)
  | doo (p : Str)
noncomputable def RowAt (H : Hp) (r : Addr) : Rw → Prop
  | .bring p ps => ∃ t, H r = some (.tup [.str "bring", .str p, .ref t]) ∧ PairsAt H t ps
  | .give o g => H r = some (.tup [.str "give", .str o, .str g])
  | .set o ts => ∃ t, H r = some (.tup [.str "set", .str o, .ref t]) ∧ TermsAt H t ts
  | .take o => H r = some (.tup [.str "take", .str o])
  | .say ts w => ∃ t, H r = some (.tup [.str "say", .ref t, optV w]) ∧ TermsAt H t ts
  | .need ts => ∃ t, H r = some (.tup [.str "need", .ref t]) ∧ TermsAt H t ts
  | .ask p w => H r = some (.tup [.str "ask", .str p, optV w])
  | .part p => H r = some (.tup [.str "part", .str p])
  | .doo p => H r = some (.tup [.str "do", .str p])
theorem RowAt.mono {H H' : Hp} (s : Tups H H') {r : Addr} {rw : Rw} (h : RowAt H r rw) : RowAt H' r rw := by
  cases rw with
  | bring p ps => obtain ⟨t, h1, h2⟩ := h; exact ⟨t, s _ _ h1, h2.mono s⟩
  | give o g => exact s _ _ h
  | set o ts => obtain ⟨t, h1, h2⟩ := h; exact ⟨t, s _ _ h1, h2.mono s⟩
  | take o => exact s _ _ h
  | say ts w => obtain ⟨t, h1, h2⟩ := h; exact ⟨t, s _ _ h1, h2.mono s⟩
  | need ts => obtain ⟨t, h1, h2⟩ := h; exact ⟨t, s _ _ h1, h2.mono s⟩
  | ask p w => exact s _ _ h
  | part p => exact s _ _ h
  | doo p => exact s _ _ h
end L2
set_option Elab.async false
set_option linter.all false
set_option maxRecDepth 100000
set_option maxHeartbeats 16000000
namespace L2
open PySem PySem.Spec PyProof.Rows
section
variable {X : Cx} {elts : List Expr} {k : Nat} {tpos : Pos}
end
end L2
set_option Elab.async false
set_option linter.all false
set_option maxRecDepth 100000
set_option maxHeartbeats 16000000
namespace L2
open PySem PySem.Spec PyProof.Rows
theorem cps_app (a b : Str) : (a ++ b).cps.toList = a.cps.toList ++ b.cps.toList := by
  show (a.cps ++ b.cps).toList = _
  simp
noncomputable abbrev Pt := Str × List Rw
noncomputable def RowV (H : Hp) (v : V) (rw : Rw) : Prop := ∃ r, v = .ref r ∧ RowAt H r rw
noncomputable abbrev RowsAt (H : Hp) : List V → List Rw → Prop := Paired (RowV H)
theorem RowsAt.mono {H H' : Hp} (s : Tups H H') {vs : List V} {rs : List Rw} (h : RowsAt H vs rs) : RowsAt H' vs rs := Paired.mapP h fun _ _ ⟨r, e, q⟩ => ⟨r, e, q.mono s⟩
noncomputable def PartAt (H : Hp) (v : V) (p : Pt) : Prop := ∃ t u vs, v = .ref t ∧ H t = some (.tup [.str p.1, .ref u]) ∧ H u = some (.tup vs) ∧ RowsAt H vs p.2
theorem PartAt.mono {H H' : Hp} (s : Tups H H') {v : V} {p : Pt} (h : PartAt H v p) : PartAt H' v p := by
  obtain ⟨t, u, vs, e, h1, h2, h3⟩ := h
  exact ⟨t, u, vs, e, s _ _ h1, s _ _ h2, h3.mono s⟩
end L2
set_option Elab.async false
set_option linter.all false
set_option maxRecDepth 100000
set_option maxHeartbeats 16000000
namespace L2
open PySem PySem.Spec PyProof.Rows
section
variable {κ : Type} [DecidableEq κ]
noncomputable def valV (kvs : List (κ × V)) (k : κ) : Option V := (kvs.find? fun kv => decide (kv.1 = k)).map (·.2)
noncomputable def putK (kvs : List (κ × V)) (k : κ) (v : V) : List (κ × V) :=
  if (kvs.any fun kv => decide (kv.1 = k)) = true then kvs.map (fun kv => if kv.1 = k then (kv.1, v) else kv) else kvs ++ [(k, v)]
theorem valV_pos {p : κ × V} {r : List (κ × V)} {k : κ} (e : p.1 = k) : valV (p :: r) k = some p.2 := by simp [valV, List.find?_cons, e]
theorem valV_neg {p : κ × V} {r : List (κ × V)} {k : κ} (e : ¬ p.1 = k) : valV (p :: r) k = valV r k := by simp [valV, List.find?_cons, e]
theorem valV_any (k : κ) : ∀ kvs : List (κ × V), (kvs.any fun kv => decide (kv.1 = k)) = (valV kvs k).isSome
  | [] => rfl
  | p :: r => by
    rw [List.any_cons]
    by_cases e : p.1 = k
    · simp only [valV_pos e, decide_eq_true e, Bool.true_or, Option.isSome_some]
    · rw [valV_neg e, decide_eq_false e, Bool.false_or]; exact valV_any k r
theorem valV_map (k j : κ) (y : V) : ∀ kvs : List (κ × V), valV (kvs.map fun kv => if kv.1 = k then (kv.1, y) else kv) j = (valV kvs j).map fun x => if j = k then y else x
  | [] => rfl
  | p :: r => by
    have ih := valV_map k j y r
    rw [List.map_cons]
    by_cases h : p.1 = k
    · rw [if_pos h]
      by_cases e : p.1 = j
      · rw [valV_pos (p := (p.1, y)) e, valV_pos e, Option.map_some, if_pos (e.symm.trans h)]
      · rw [valV_neg (p := (p.1, y)) e, valV_neg e, ih]
    · rw [if_neg h]
      by_cases e : p.1 = j
      · rw [valV_pos (p := p) e, valV_pos e, Option.map_some, if_neg (fun z => h (e.trans z))]
      · rw [valV_neg (p := p) e, valV_neg e, ih]
theorem valV_snoc (k j : κ) (y : V) : ∀ kvs : List (κ × V), valV kvs k = none → valV (kvs ++ [(k, y)]) j = if j = k then some y else valV kvs j
  | [], _ => by
    by_cases e : k = j
    · rw [if_pos e.symm]; exact valV_pos (p := (k, y)) e
    · rw [if_neg (fun z => e z.symm)]; exact valV_neg (p := (k, y)) e
  | p :: r, hn => by
    rw [List.cons_append]
    have hk : ¬ p.1 = k := fun z => by rw [valV_pos z] at hn; cases hn
    rw [valV_neg hk] at hn
    have ih := valV_snoc k j y r hn
    by_cases e : p.1 = j
    · rw [valV_pos e, valV_pos e, if_neg (fun z => hk (e.trans z))]
    · rw [valV_neg e, valV_neg e, ih]
theorem valV_put (kvs : List (κ × V)) (k j : κ) (y : V) : valV (putK kvs k y) j = if j = k then some y else valV kvs j := by
  unfold putK
  by_cases a : (kvs.any fun kv => decide (kv.1 = k)) = true
  · rw [if_pos a, valV_map]
    rw [valV_any] at a
    by_cases e : j = k
    · obtain ⟨x, hx⟩ := Option.isSome_iff_exists.mp a
      rw [if_pos e, e, hx, Option.map_some, if_pos rfl]
    · rw [if_neg e]
      cases valV kvs j with
      | none => rfl
      | some x => rw [Option.map_some, if_neg e]
  · rw [if_neg a]
    refine valV_snoc k j y kvs ?_
    rw [valV_any] at a
    cases q : valV kvs k with
    | none => rfl
    | some x => rw [q] at a; exact (a rfl).elim
theorem length_putK (kvs : List (κ × V)) (k : κ) (v : V) : (putK kvs k v).length ≤ kvs.length + 1 := by
  unfold putK
  split
  · rw [List.length_map]; omega
  · rw [List.length_append, List.length_cons, List.length_nil]; omega
theorem RelO.isSome_eq {o : Option V} {u : Option Value} (r : RelO o u) : o.isSome = u.isSome := by
  cases o with
  | none => cases u with
    | none => rfl
    | some _ => exact (show False from r).elim
  | some _ => cases u with
    | none => exact (show False from r).elim
    | some _ => rfl
theorem KV.val {kvs : List (κ × V)} {vs : List (κ × Value)} (r : KV kvs vs) (k : κ) : RelO (valV kvs k) (valueAt vs k) := by
  unfold KV at r
  induction r with
  | nil => exact True.intro
  | @cons p q ps qs h t ih =>
    obtain ⟨h1, h2⟩ := h
    by_cases e : p.1 = k
    · have e' : q.1 = k := h1.symm.trans e
      have b : valueAt (q :: qs) k = some q.2 := by simp [valueAt, List.find?_cons, e']
      rw [valV_pos e, b]; exact h2
    · have e' : ¬ q.1 = k := fun z => e (h1.trans z)
      have b : valueAt (q :: qs) k = valueAt qs k := by simp [valueAt, List.find?_cons, e']
      rw [valV_neg e, b]; exact ih
theorem KV.any {kvs : List (κ × V)} {vs : List (κ × Value)} (r : KV kvs vs) (k : κ) : (kvs.any fun kv => decide (kv.1 = k)) = vs.any fun kv => decide (kv.1 = k) := by
  unfold KV at r
  induction r with
  | nil => rfl
  | cons h t ih => rw [List.any_cons, List.any_cons, ih, h.1]
theorem KV.repl {kvs : List (κ × V)} {vs : List (κ × Value)} (r : KV kvs vs) (k : κ) {y : V} {u : Value} (ry : RelV y u) :
    KV (kvs.map fun kv => if kv.1 = k then (kv.1, y) else kv) (vs.map fun kv => if kv.1 = k then (kv.1, u) else kv) := by
  unfold KV at r ⊢
  induction r with
  | nil => exact .nil
  | @cons p q ps qs h t ih =>
    rw [List.map_cons, List.map_cons]
    refine .cons ?_ ih
    obtain ⟨h1, h2⟩ := h
    by_cases e : p.1 = k
    · rw [if_pos e, if_pos (h1.symm.trans e)]; exact ⟨h1, ry⟩
    · rw [if_neg e, if_neg (fun z => e (h1.trans z))]; exact ⟨h1, h2⟩
theorem KV.put {kvs : List (κ × V)} {vs : List (κ × Value)} (r : KV kvs vs) (k : κ) {y : V} {u : Value} (ry : RelV y u) : KV (putK kvs k y) (stored vs k u) := by
  unfold putK stored
  rw [r.any k]
  by_cases e : (vs.any fun kv => decide (kv.1 = k)) = true
  · rw [if_pos e, if_pos e]; exact r.repl k ry
  · rw [if_neg e, if_neg e]; exact Paired.snoc r ⟨rfl, ry⟩
theorem KV.length {kvs : List (κ × V)} {vs : List (κ × Value)} (r : KV kvs vs) : kvs.length = vs.length := Paired.length r
end
theorem kV_is {P : Program} {w : World} {k : Key} {u : Value} (r : RelV (kV k) u) : (mixKind P w).is k u = true := by
  cases k with
  | inl i => obtain ⟨t, e⟩ := (show ∃ t, u = Value.int i t from r); subst e; exact mixKind_int P w i t
  | inr x => obtain ⟨t, e⟩ := (show ∃ t, u = Value.str x t from r); subst e; exact mixKind_str P w x t
theorem items_are {P : Program} {w : World} : ∀ {ks : List Key} {us : List Value}, Vals (ks.map kV) us → ItemsAre (mixKind P w) ks us
  | [], _, r => by rw [List.map_nil] at r; cases r; exact .nil
  | k :: ks, _, r => by
    rw [List.map_cons] at r
    cases r with
    | cons h t => exact .cons (kV_is h) (items_are t)
noncomputable abbrev KT (H : Hp) : List (List Key × V) → List (List Key × Addr × Value) → Prop := Paired fun p q => p.1 = q.1 ∧ H q.2.1 = some (.tup (p.1.map kV)) ∧ RelV p.2 q.2.2
theorem KT.val {H : Hp} {kvs : List (List Key × V)} {xs : List (List Key × Addr × Value)} (r : KT H kvs xs) (k : List Key) : RelO (valV kvs k) ((atKey xs k).map (·.2)) := by
  induction r with
  | nil => exact True.intro
  | @cons p q ps qs h t ih =>
    obtain ⟨h1, _, h2⟩ := h
    by_cases e : p.1 = k
    · have e' : q.1 = k := h1.symm.trans e
      have b : atKey (q :: qs) k = some q.2 := by simp [atKey, List.find?_cons, e']
      rw [valV_pos e, b]; exact h2
    · have e' : ¬ q.1 = k := fun z => e (h1.trans z)
      have b : atKey (q :: qs) k = atKey qs k := by simp [atKey, List.find?_cons, e']
      rw [valV_neg e, b]; exact ih
theorem KT.repl {H : Hp} {kvs : List (List Key × V)} {xs : List (List Key × Addr × Value)} (r : KT H kvs xs) (k : List Key) {y : V} {u : Value} (ry : RelV y u) :
    KT H (kvs.map fun kv => if kv.1 = k then (kv.1, y) else kv) (xs.map (putAt k u)) := by
  induction r with
  | nil => exact .nil
  | @cons p q ps qs h t ih =>
    rw [List.map_cons, List.map_cons]
    refine .cons ?_ ih
    obtain ⟨h1, h2, h3⟩ := h
    unfold putAt
    by_cases e : p.1 = k
    · rw [if_pos e, if_pos (h1.symm.trans e)]; exact ⟨h1, h2, ry⟩
    · rw [if_neg e, if_neg (fun z => e (h1.trans z))]; exact ⟨h1, h2, h3⟩
theorem KT.put {H : Hp} {kvs : List (List Key × V)} {xs : List (List Key × Addr × Value)} (r : KT H kvs xs) (k : List Key) {b : Addr} {y : V} {u : Value} (hb : H b = some (.tup (k.map kV))) (ry : RelV y u) :
    KT H (putK kvs k y) (storedH xs k b u) := by
  have e : (kvs.any fun kv => decide (kv.1 = k)) = (atKey xs k).isSome := by
    rw [valV_any, (r.val k).isSome_eq, Option.isSome_map]
  unfold putK storedH
  rw [e]
  by_cases q : (atKey xs k).isSome = true
  · rw [if_pos q, if_pos q]; exact r.repl k ry
  · rw [if_neg q, if_neg q]; exact Paired.snoc r ⟨rfl, hb, ry⟩
theorem KT.keeps {H H' : Hp} {kvs : List (List Key × V)} {xs : List (List Key × Addr × Value)} (r : KT H kvs xs) (ht : ∀ b ys, H b = some (.tup ys) → H' b = some (.tup ys)) : KT H' kvs xs :=
  Paired.mapP r fun _ _ z => ⟨z.1, ht _ _ z.2.1, z.2.2⟩
section
variable {P : Program} {w : World} {H : Hp} {h : Heap} {a : Addr}
theorem rd_of {u : HO} (ok : HOk P w H h) (e : Rd H a u) : ObjOk P w H h a u := e.ok ok
theorem dk_rd {kvs : List (Key × V)} (ok : HOk P w H h) (e : Rd H a (.dK kvs)) : kvs.length ≤ sizeLine ∧ (a == sysModules) = false ∧ ∃ vs, KV kvs vs ∧ h.DictOf (mixKind P w) a vs :=
  show ObjOk P w H h a (.dK kvs) from rd_of ok e
theorem dk_of {kvs : List (Key × V)} (ok : HOk P w H h) (e : H a = some (.dK kvs)) : kvs.length ≤ sizeLine ∧ (a == sysModules) = false ∧ ∃ vs, KV kvs vs ∧ h.DictOf (mixKind P w) a vs := dk_rd ok (.inl e)
theorem key_of {ks : List Key} (ok : HOk P w H h) (e : H a = some (.tup (ks.map kV))) : (tupleKind (mixKind P w)).is h ks a := by
  obtain ⟨_, its, r, o, h1, h2, n, h3⟩ := (show ObjOk P w H h a (.tup (ks.map kV)) from ok a _ e)
  exact ⟨o, its.toArray, n, h1, h2, h3, by simpa using items_are r⟩
theorem dt_rd {kvs : List (List Key × V)} (ok : HOk P w H h) (e : Rd H a (.dT kvs)) : kvs.length ≤ sizeLine ∧ (a == sysModules) = false ∧
    ∃ xs, KT H kvs xs ∧ h.DictOfH (tupleKind (mixKind P w)) a xs := by
  obtain ⟨z, y, xs, r, o, es, ep, h1, h2, h3, h4, h5⟩ := (show ObjOk P w H h a (.dT kvs) from rd_of ok e)
  refine ⟨z, y, xs, r, o, es, ep, h1, h2, h3, h4, fun x hx => ?_, h5⟩
  have all : ∀ {l : List (List Key × V)} {m : List (List Key × Addr × Value)}, KT H l m → ∀ x ∈ m, (tupleKind (mixKind P w)).is h x.1 x.2.1 := by
    intro l m q
    induction q with
    | nil => intro x hx; exact nomatch hx
    | @cons p q ps qs hq t ih =>
      intro x hx
      rcases List.mem_cons.mp hx with e | hx
      · subst e
        exact key_of ok (by rw [← hq.1]; exact hq.2.1)
      · exact ih x hx
  exact all r x hx
theorem dt_of {kvs : List (List Key × V)} (ok : HOk P w H h) (e : H a = some (.dT kvs)) : kvs.length ≤ sizeLine ∧ (a == sysModules) = false ∧
    ∃ xs, KT H kvs xs ∧ h.DictOfH (tupleKind (mixKind P w)) a xs := dt_rd ok (.inl e)
end
noncomputable def DGet (H : Hp) (a : Addr) (y : V) (r : Option V) : Prop :=
  (∃ kvs k, Rd H a (.dK kvs) ∧ y = kV k ∧ r = valV kvs k) ∨ ∃ kvs k b, Rd H a (.dT kvs) ∧ y = .ref b ∧ H b = some (.tup (k.map kV)) ∧ r = valV kvs k
noncomputable def DPut (H : Hp) (a : Addr) (y v : V) (H' : Hp) : Prop :=
  (∃ kvs k, H a = some (.dK kvs) ∧ y = kV k ∧ kvs.length < sizeLine ∧ H' = upd H a (.dK (putK kvs k v))) ∨
  ∃ kvs k b, H a = some (.dT kvs) ∧ y = .ref b ∧ H b = some (.tup (k.map kV)) ∧ kvs.length < sizeLine ∧ H' = upd H a (.dT (putK kvs k v))
theorem DGet.k {H : Hp} {a : Addr} {kvs : List (Key × V)} {k : Key} (e : H a = some (.dK kvs)) : DGet H a (kV k) (valV kvs k) := .inl ⟨kvs, k, .inl e, rfl, rfl⟩
theorem DGet.t {H : Hp} {a b : Addr} {kvs : List (List Key × V)} {k : List Key} (e : H a = some (.dT kvs)) (eb : H b = some (.tup (k.map kV))) : DGet H a (.ref b) (valV kvs k) := .inr ⟨kvs, k, b, .inl e, rfl, eb, rfl⟩
theorem DPut.k {H : Hp} {a : Addr} {kvs : List (Key × V)} {k : Key} {v : V} (e : H a = some (.dK kvs)) (hl : kvs.length < sizeLine) : DPut H a (kV k) v (upd H a (.dK (putK kvs k v))) := .inl ⟨kvs, k, e, rfl, hl, rfl⟩
theorem DPut.t {H : Hp} {a b : Addr} {kvs : List (List Key × V)} {k : List Key} {v : V} (e : H a = some (.dT kvs)) (eb : H b = some (.tup (k.map kV))) (hl : kvs.length < sizeLine) :
    DPut H a (.ref b) v (upd H a (.dT (putK kvs k v))) := .inr ⟨kvs, k, b, e, rfl, eb, hl, rfl⟩
section
variable {X : Cx} {pins : List (Addr × Obj)} {σ : St} {H : Hp} {s : Shared} {a : Addr} {y v : V} {u r : Value} {o : Option V} {A : Around} {E : Value → Shared → Prop}
theorem Inv.big (I : Inv X pins σ H s) : sysModules < s.heap.objs.size := by
  have h : mainGlobals < s.heap.objs.size := (I.mod.glob.keeps I.bk).lt
  exact Nat.lt_trans (by decide) h
theorem d_getItem {Q : Value → Shared → Prop} (hu : A.units + 1 < cLine) (I : Inv X pins σ H s) (g : DGet H a y (some v)) (ry : RelV y u) (h : ∀ w' s', Inv X pins σ H s' → RelV v w' → Q w' s') :
    wpAny (model X.prog X.w) A (getItem (.ref a) u) Q E s := by
  rcases g with ⟨kvs, k, e, ey, l⟩ | ⟨kvs, k, b, e, ey, eb, l⟩
  · subst ey
    obtain ⟨z, hd, vs, rel, dd⟩ := dk_rd I.hok e
    obtain ⟨w', hw, rw'⟩ := RelO.some_of (v := v) (o := valueAt vs k) (by rw [l]; exact rel.val k)
    exact wpAny_getItem_of (kV_is ry) dd.mapOf hw (h w' _ (I.tok _) rw')
  · subst ey
    cases (show u = Value.ref b from ry)
    obtain ⟨z, hd, xs, rel, dd⟩ := dt_rd I.hok e
    obtain ⟨w', hw, rw'⟩ := RelO.some_of (v := v) (o := (atKey xs k).map (·.2)) (by rw [l]; exact rel.val k)
    obtain ⟨p, hp, hp2⟩ := Option.map_eq_some_iff.mp hw
    refine wpAny_getItem_heap (tupleKind_room_in1 hu) (key_of I.hok eb) dd hp ?_
    rw [hp2]
    exact h w' _ (I.tok _) rw'
theorem d_in {Q : Value → Shared → Prop} (hu : A.units + 1 < cLine) (I : Inv X pins σ H s) (g : DGet H a y o) (ry : RelV y u) (h : ∀ s', Inv X pins σ H s' → Q (.bool o.isSome) s') :
    wpAny (model X.prog X.w) A (compareOp .In u (.ref a)) Q E s := by
  rcases g with ⟨kvs, k, e, ey, l⟩ | ⟨kvs, k, b, e, ey, eb, l⟩
  · subst ey
    obtain ⟨z, hd, vs, rel, dd⟩ := dk_rd I.hok e
    refine wpAny_in_of (kV_is ry) hd dd.mapOf ?_
    rw [← (rel.val k).isSome_eq, ← l]
    exact h _ (I.tok _)
  · subst ey
    cases (show u = Value.ref b from ry)
    obtain ⟨z, hd, xs, rel, dd⟩ := dt_rd I.hok e
    refine wpAny_in_heap (tupleKind_room_in1 hu) (key_of I.hok eb) hd dd ?_
    have q := (rel.val k).isSome_eq
    rw [Option.isSome_map] at q
    rw [← q, ← l]
    exact h _ (I.tok _)
theorem d_notIn {Q : Value → Shared → Prop} (hu : A.units + 1 < cLine) (I : Inv X pins σ H s) (g : DGet H a y o) (ry : RelV y u) (h : ∀ s', Inv X pins σ H s' → Q (.bool (!o.isSome)) s') :
    wpAny (model X.prog X.w) A (compareOp .NotIn u (.ref a)) Q E s := by
  rcases g with ⟨kvs, k, e, ey, l⟩ | ⟨kvs, k, b, e, ey, eb, l⟩
  · subst ey
    obtain ⟨z, hd, vs, rel, dd⟩ := dk_rd I.hok e
    refine wpAny_notIn_of (kV_is ry) hd dd.mapOf ?_
    rw [← (rel.val k).isSome_eq, ← l]
    exact h _ (I.tok _)
  · subst ey
    cases (show u = Value.ref b from ry)
    obtain ⟨z, hd, xs, rel, dd⟩ := dt_rd I.hok e
    refine wpAny_notIn_heap (tupleKind_room_in1 hu) (key_of I.hok eb) hd dd ?_
    have q := (rel.val k).isSome_eq
    rw [Option.isSome_map] at q
    rw [← q, ← l]
    exact h _ (I.tok _)
theorem d_write {h' : Heap} {t' : Nat} {ob : HO} (I : Inv X pins σ H s) (mu : Mut (H a)) (hs : Heap.SameBut a s.heap h') (he : ∃ q, h'.get? a = some q) (new : ObjOk X.prog X.w (upd H a ob) h' a ob) :
    Inv X pins σ (upd H a ob) { s with heap := h', toks := t' } :=
  I.write (x := a) (e := a) mu (.inl rfl) (fun b q hb z => (hs.2 b hb).trans z) he new
theorem dk_new {P : Program} {w : World} {H' : Hp} {h' : Heap} {kvs : List (Key × V)} {vs : List (Key × Value)} (z : kvs.length ≤ sizeLine) (hd : (a == sysModules) = false) (rel : KV kvs vs) (dd : h'.DictOf (mixKind P w) a vs) :
    ObjOk P w H' h' a (.dK kvs) := ⟨z, hd, vs, rel, dd⟩
theorem d_setItem {H' : Hp} {Q : Unit → Shared → Prop} (hu : A.units + 1 < cLine) (I : Inv X pins σ H s) (g : DPut H a y v H') (ry : RelV y u) (rv : RelV v r) (h : ∀ s', Inv X pins σ H' s' → Q () s') :
    wpAny (model X.prog X.w) A (setItem (.ref a) u r) Q E s := by
  rcases g with ⟨kvs, k, e, ey, l, eH⟩ | ⟨kvs, k, b, e, ey, eb, l, eH⟩
  · subst ey eH
    obtain ⟨z, hd, vs, rel, dd⟩ := dk_of I.hok e
    have hz : vs.length ≤ sizeLine := by rw [← rel.length]; exact z
    have hl : (putK kvs k v).length ≤ sizeLine := by have := length_putK kvs k v; omega
    refine wpAny_setItem_pairs (hsz := hz) (kV_is ry) dd fun h' dd' hs => h _ ?_
    have he : ∃ q, h'.get? a = some q := let ⟨q, _, _, hq, _⟩ := dd'; ⟨q, hq⟩
    exact d_write I (by rw [e]; exact True.intro) hs he (dk_new hl hd (rel.put k rv) dd')
  · subst ey eH
    cases (show u = Value.ref b from ry)
    obtain ⟨z, hd, xs, rel, dd⟩ := dt_of I.hok e
    have hz : xs.length ≤ sizeLine := by rw [← Paired.length rel]; exact z
    have hl : (putK kvs k v).length ≤ sizeLine := by have := length_putK kvs k v; omega
    refine wpAny_setItem_heap (hsz := hz) (tupleKind_room_in1 hu) (key_of I.hok eb) dd fun h' dd' hs => h _ ?_
    obtain ⟨q, es, ep, hq, h2, h3, h4, _, h5⟩ := dd'
    refine d_write I (by rw [e]; exact True.intro) hs ⟨q, hq⟩ ⟨hl, hd, _, (rel.put k eb rv).keeps fun c ys ec => ?_, q, es, ep, hq, h2, h3, h4, h5⟩
    rw [upd_ne (ne_of ec e (fun z => nomatch z))]
    exact ec
end
section
variable {X : Cx} {pins : List (Addr × Obj)} {σ : St} {H : Hp} {s : Shared} {a : Addr} {kvs : List (Key × V)} {k : Key} {u : Value} {A : Around} {E : Value → Shared → Prop}
end
noncomputable def NoSl (i : Expr) : Prop := ∀ ov iv, subscripted i false ov iv = operate [ov, iv] (getItem ov iv)
theorem subD_of {prog : Program} {w : World} {A : Around} {E : Value → Shared → Prop} {s : Shared} {env : Env} {value slice : Expr} {pos : Pos} {T id : String} {Q : Value → Shared → Prop}
    (hl : typeLookup (.type T) "__getitem__" = pure (some (.builtin id))) (hs : NoSl slice)
    (h : wpAny (model prog w) A (eval value env) (fun o s₁ => wpAny (model prog w) A (eval slice env) (fun i s₂ => s₂.TypeIs o T ∧ wpAny (model prog w) A (getItem o i) Q E s₂) E s₁) E s) :
    wpAny (model prog w) A (eval (.Subscript value slice pos) env) Q E s := by
  refine Subscript_ (wpAny_mono h (fun o s₁ h₁ => wpAny_mono h₁ (fun i s₂ h₂ => ?_) fun _ _ x => x) fun _ _ x => x)
  obtain ⟨hT, h₂⟩ := h₂
  unfold subscriptTail
  refine wpAny_bind ?_
  rw [getitemInPython_of_ne hT.not_modules]
  refine wpAny_bind (wpAny_specialOf hT hl ?_)
  have fin : wpAny (model prog w) A (subscripted slice false o i) (fun r s₃ => wpAny (model prog w) A (letTemporaryGo value o r >>= fun _ => pure r) Q E s₃) E s₂ := by
    rw [hs o i]
    exact wpAny_operating (wpAny_mono h₂ (fun r s₃ h₃ => wpAny_bind (wpAny_letTemporaryGo (wpAny_pure h₃))) fun _ _ x => x)
  first
    | exact wpAny_pure (wpAny_bind fin)
    | exact wpAny_bind (wpAny_pure (wpAny_bind fin))
    | exact wpAny_bind fin
theorem dict_typeIs {X : Cx} {pins : List (Addr × Obj)} {σ : St} {H : Hp} {s : Shared} {a : Addr} {y : V} {o : Option V} (I : Inv X pins σ H s) (g : DGet H a y o) : s.TypeIs (.ref a) "dict" := by
  rcases g with ⟨kvs, k, e, _, _⟩ | ⟨kvs, k, b, e, _, _, _⟩
  · obtain ⟨_, _, vs, _, dd⟩ := dk_rd I.hok e
    exact dd.typeIs
  · obtain ⟨_, _, xs, _, dd⟩ := dt_rd I.hok e
    exact dd.typeIs
noncomputable def tDGet (td ty : TE) : TE := fun σ H Q => td σ H fun x H1 => ty σ H1 fun y H2 => ∃ a v, x = .ref a ∧ DGet H2 a y (some v) ∧ Q v H2
noncomputable def tDIn (ty td : TE) : TE := fun σ H Q => ty σ H fun y H1 => td σ H1 fun x H2 => ∃ a o, x = .ref a ∧ DGet H2 a y o ∧ Q (.bl o.isSome) H2
noncomputable def tDNotIn (ty td : TE) : TE := fun σ H Q => ty σ H fun y H1 => td σ H1 fun x H2 => ∃ a o, x = .ref a ∧ DGet H2 a y o ∧ Q (.bl (!o.isSome)) H2
noncomputable def sDPut (td ty tv : TE) : TS := fun D σ H => tv σ H fun v H1 => td σ H1 fun x H2 => ty σ H2 fun y H3 => ∃ a H4, x = .ref a ∧ DPut H3 a y v H4 ∧ D.nx σ H4
section
variable {X : Cx} {o i e value : Expr} {pos pos' tpos : Pos} {td ty tv : TE}
theorem pe_dget (hu : X.A.units + 1 < cLine) (ho : PE X o td) (hi : PE X i ty) (hs : NoSl i) : PE X (.Subscript o i pos) (tDGet td ty) := by
  intro pins s σ H Q I h
  refine subD_of PySem.F.slot_dict_getitem.lookup hs (thn (ho pins s σ H _ I h) fun u s1 ⟨x, H1, I1, rx, q1⟩ => thn (hi pins s1 σ H1 _ I1 q1) fun iv s2 ⟨y, H2, I2, ry, a, v, ex, g, q2⟩ => ?_)
  subst ex
  obtain rfl : u = Value.ref a := rx
  exact ⟨dict_typeIs I2 g, d_getItem hu I2 g ry fun w' s3 I3 rw' => ⟨v, H2, I3, rw', q2⟩⟩
theorem pc_din (hu : X.A.units + 1 < cLine) (hi : PE X i ty) (ho : PE X o td) : PC X .In i o (tDIn ty td) := by
  intro pins s σ H Q I h
  refine thn (hi pins s σ H _ I h) fun iv s1 ⟨y, H1, I1, ry, q1⟩ => thn (ho pins s1 σ H1 _ I1 q1) fun u s2 ⟨x, H2, I2, rx, a, ov, ex, g, q2⟩ => ?_
  subst ex
  obtain rfl : u = Value.ref a := rx
  exact d_in hu I2 g ry fun s3 I3 => ⟨.bl ov.isSome, H2, I3, rfl, q2⟩
theorem pc_dnotin (hu : X.A.units + 1 < cLine) (hi : PE X i ty) (ho : PE X o td) : PC X .NotIn i o (tDNotIn ty td) := by
  intro pins s σ H Q I h
  refine thn (hi pins s σ H _ I h) fun iv s1 ⟨y, H1, I1, ry, q1⟩ => thn (ho pins s1 σ H1 _ I1 q1) fun u s2 ⟨x, H2, I2, rx, a, ov, ex, g, q2⟩ => ?_
  subst ex
  obtain rfl : u = Value.ref a := rx
  exact d_notIn hu I2 g ry fun s3 I3 => ⟨.bl (!ov.isSome), H2, I3, rfl, q2⟩
theorem ps_dput (hu : X.A.units + 1 < cLine) (ho : PE X o td) (hi : PE X i ty) (hv : PE X value tv) (hs : swapsWith value (some (.Subscript o i pos')) pos.line X.env = pure false) :
    PS X (.Assign [.Subscript o i pos'] value pos) (sDPut td ty tv) := by
  intro pins s σ H D I h
  refine wpAny_Assign_Subscript (thn (hv pins s σ H _ I h) fun r s1 ⟨v, H1, I1, rv, q1⟩ => thn (ho pins s1 σ H1 _ I1 q1) fun u s2 ⟨x, H2, I2, rx, q2⟩ => thn (hi pins s2 σ H2 _ I2 q2) fun iv s3 ⟨y, H3, I3, ry, a, H4, ex, g, q3⟩ => ?_) hs
  subst ex
  obtain rfl : u = Value.ref a := rx
  exact d_setItem hu I3 g ry rv fun s4 I4 => ⟨σ, H4, I4, q3⟩
end
theorem dk_empty {P : Program} {w : World} {H : Hp} (h : Heap) (hb : sysModules < h.objs.size) : ObjOk P w H (h.push { cls := .type "dict", data := .dict #[] }) h.objs.size (.dK []) :=
  ⟨Nat.zero_le _, beq_eq_false_iff_ne.mpr (Ne.symm (Nat.ne_of_lt hb)), [], .nil, Heap.DictOf.new h⟩
theorem dt_empty {P : Program} {w : World} {H : Hp} (h : Heap) (hb : sysModules < h.objs.size) : ObjOk P w H (h.push { cls := .type "dict", data := .dict #[] }) h.objs.size (.dT []) :=
  ⟨Nat.zero_le _, beq_eq_false_iff_ne.mpr (Ne.symm (Nat.ne_of_lt hb)), [], .nil, _, #[], 0, Heap.get?_push_size _ rfl, ⟨rfl, rfl, rfl⟩, rfl, rfl, List.nodup_nil⟩
noncomputable def tDNewK : TE := fun _ H Q => ∀ p, H p = none → Q (.ref p) (upd H p (.dK []))
noncomputable def tDNewT : TE := fun _ H Q => ∀ p, H p = none → Q (.ref p) (upd H p (.dT []))
section
variable {X : Cx} {pos : Pos}
theorem pe_dnewK : PE X (.Dict [] [] pos) tDNewK := fun pins s σ H Q I h =>
  wpAny_Dict_empty ⟨.ref s.heap.objs.size, _, I.laid (a := s.heap.objs.size) (o := .dK []) (t' := s.toks) (fun _ _ q => Heap.get?_push_of_some _ q) (Nat.le_refl _) (dk_empty s.heap I.big), rfl, h _ (I.hok.fresh (Nat.le_refl _))⟩
theorem pe_dnewT : PE X (.Dict [] [] pos) tDNewT := fun pins s σ H Q I h =>
  wpAny_Dict_empty ⟨.ref s.heap.objs.size, _, I.laid (a := s.heap.objs.size) (o := .dT []) (t' := s.toks) (fun _ _ q => Heap.get?_push_of_some _ q) (Nat.le_refl _) (dt_empty s.heap I.big), rfl, h _ (I.hok.fresh (Nat.le_refl _))⟩
end
noncomputable abbrev VV : List (V × V) → List (Value × Value) → Prop := Paired fun p q => RelV p.1 q.1 ∧ RelV p.2 q.2
section
variable {X : Cx} {pins : List (Addr × Obj)} {σ : St} {H : Hp} {s : Shared} {a : Addr} {y d : V} {u r : Value} {o : Option V} {A : Around} {E : Value → Shared → Prop}
end
section
variable {X : Cx} {o e f : Expr} {apos cpos : Pos} {td ty tx : TE}
end
section
variable {X : Cx} {pins : List (Addr × Obj)} {σ : St} {H : Hp} {s : Shared} {a : Addr} {kvs : List (Key × V)} {A : Around} {E : Value → Shared → Prop}
end
section
variable {X : Cx} {pins : List (Addr × Obj)} {σ : St} {H : Hp} {s : Shared} {a : Addr} {y : V} {u : Value} {A : Around} {E : Value → Shared → Prop}
end
end L2
namespace L2
open PySem PySem.Spec PyProof.Rows
section
variable {X : Cx}
end
section
variable {κ : Type} [DecidableEq κ]
end
end L2
set_option Elab.async false
set_option linter.all false
set_option maxRecDepth 100000
set_option maxHeartbeats 16000000
namespace L2
open PySem PySem.Spec PyProof.Rows
theorem keys_miss {prog : Program} {w : World} {A : Around} {E : Value → Shared → Prop} {s : Shared} {a : Addr} {items : Array Value} {Q : Option Value → Shared → Prop} (hL : s.heap.IsTuple a items) (hn : ∀ o, s.heap.get? a = some o → o.dict = none) (hA : A.handled = none)
    (h : ∀ h' tk, (∀ b ob, s.heap.get? b = some ob → h'.get? b = some ob) → Q none { s with heap := h', toks := tk }) : wpAny (model prog w) A (getAttr? (.ref a) "keys") Q E s := by
  obtain ⟨⟨c, dct, dat, sl⟩, hx, hc, k, hd⟩ := hL
  have hdn := hn _ hx
  simp only at hc hd hdn
  subst hc hd hdn
  obtain ⟨hp, g, d, tk, os⟩ := s
  have hT : ∀ tk', (⟨hp, g, d, tk', os⟩ : Shared).TypeIs (.ref a) "tuple" := fun _ => ⟨_, hx, rfl⟩
  have f1 := sub_AttributeError
  have f3 := F.slot_tuple_getattribute.lookup
  have f4 := F.slot_tuple_getattribute.bind (.ref a)
  have f5 := am_tuple_getattr_none
  have hmiss : typeLookup (.type "tuple") "keys" = pure none := am_miss_of_fast (by decide +kernel)
  unfold getAttr? getAttrBy? getAttrBy
  repeat (any_goals (first | assumption | exact hT _ | ((with_reducible show wpAny _ _ (call (Value.builtin "tuple.__getattribute__") _ _) _ _ _); refine call_meets F.slot_tuple_getattribute (hT _) am_entry_tuple_getattribute (F.args_tuple_getattribute_2 _ _) (meets_getattribute_miss_tuple a items k sl "keys" _ hmiss (by decide +kernel) (by decide +kernel)) ⟨hx, hA, fun h' tk' e hx' => ?_⟩) | wp_step))
  obtain ⟨t', u', he⟩ := hx'.there
  show wpAny _ _ (getattributeRaised _ _ _ _ _ _ _) _ _ _
  unfold getattributeRaised
  repeat (any_goals (first | assumption | wp_step))
  exact h _ _ hx'.keeps
theorem entry_dul : entryFor table "dict.update.loop" = some Builtin.«dict.update.loop» := entryFor_of_fast (by kernel_rfl)
theorem plain_dul : plainId "dict.update.loop" = true := by decide +kernel
section
variable {X : Cx}
noncomputable def foldP (ps : List (Str × V)) (m : List (Key × V)) : List (Key × V) := ps.foldl (fun m p => putK m (Sum.inr p.1) p.2) m
theorem dict_loop (hc : X.calm = true) {A : Around} (hA : A.handled = none) {pins : List (Addr × Obj)} {σ : St} {H0 : Hp} {Q : VK} {a d it : Addr} {vs : List V} (hda : d ≠ a) (hit : it ≠ a) (hdi : d ≠ it) :
    ∀ (n i : Nat) (s : Shared) (m : List (Key × V)) (ps : List (Str × V)) (j : Int) (tk : Tok), n = vs.length - i → Inv X pins σ (upd H0 d (.dK m)) s → s.heap.IsTupleIter it a i → FpOk X pins (upd H0 d (.dK m)) it → SqT X.K (upd H0 d (.dK m)) a vs →
      Paired (fun v (p : Str × V) => ∃ t, v = .ref t ∧ t ≠ d ∧ SqT X.K H0 t [.str p.1, p.2]) (vs.drop i) ps → m.length + ps.length ≤ 1000 → H0 it = none →
      Q (.ref d) (upd H0 d (.dK (foldP ps m))) → codeAny (model X.prog X.w) A (.builtin "dict.update.loop" ⟨[.ref d, .ref it, .int j tk, .none], []⟩) (wants (fun u s' => u = .none ∧ ∃ H', Inv X pins σ H' s' ∧ Q (.ref d) H') (fun _ _ => False)) s := by
  intro n
  induction n with
  | zero =>
    intro i s m ps j tk hn I st fp hsq hp hlen hn0 q
    have hd : vs.drop i = [] := List.drop_eq_nil_of_le (by omega)
    rw [hd] at hp
    cases hp
    obtain ⟨its, rv, pt, hz⟩ := I.tuple hsq
    have hl := rv.length
    obtain ⟨f0, f1, f2, f3, f4, f5⟩ := fp
    refine codeAny_builtin entry_dul ?_
    rw [Around.under_plainId plain_dul _]
    show wpAny _ A.in1 (pyNext (.ref it) >>= _) _ _ s
    refine wpAny_bind (wpAny_pyNext_tuple_end (A := A.in1) hA st (show s.heap.IsTuple a its.toArray from pt) (by simp; omega) fun h' eb => ?_)
    have I' : Inv X pins σ (upd H0 d (.dK m)) { s with heap := h' } := I.turned (t' := s.toks) (fun b o hb e => eb b o hb e) f0 f1 f3 f4 f5
    show wpAny _ _ (Builtin.Dict.addKeywords d [] >>= _) _ _ _
    exact wpAny_bind (wpAny_pure (wpAny_pure ⟨rfl, _, I', q⟩))
  | succ n ih =>
    intro i s m ps j tk hn I st fp hsq hp hlen hn0 q
    have hi : i < vs.length := by omega
    have hdr : vs.drop i = vs[i] :: vs.drop (i + 1) := List.drop_eq_getElem_cons hi
    rw [hdr] at hp
    cases hp with
    | @cons _ p _ ps' h1 hrest =>
    obtain ⟨t, e, htd, ht⟩ := h1
    obtain ⟨its, rv, pt, hz⟩ := I.tuple hsq
    have hl := rv.length
    have hx : vs[i]? = some (V.ref t) := by simp [hi, e]
    obtain ⟨u, hu, ru⟩ := rv.get hx
    cases ru
    obtain ⟨f0, f1, f2, f3, f4, f5⟩ := id fp
    refine codeAny_builtin entry_dul ?_
    rw [Around.under_plainId plain_dul _]
    show wpAny _ A.in1 (pyNext (.ref it) >>= _) _ _ s
    refine wpAny_bind (wpAny_pyNext_tuple_item (A := A.in1) st (show s.heap.IsTuple a its.toArray from pt) (x := .ref t) (by simpa using hu) fun h' st' sb => ?_)
    have I' : Inv X pins σ (upd H0 d (.dK m)) { s with heap := h' } := I.turned (t' := s.toks) (fun b o hb e => (sb.2 b hb).trans e) f0 f1 f3 f4 f5
    have ht' : SqT X.K (upd H0 d (.dK m)) t [.str p.1, p.2] := by
      rcases ht with (ht | ⟨o, ht⟩) | ht
      · exact .inl (.inl (by rw [upd_ne htd]; exact ht))
      · exact .inl (.inr ⟨o, by rw [upd_ne htd]; exact ht⟩)
      · exact .inr ht
    obtain ⟨kv, rkv, ptt, _⟩ := I'.tuple ht'
    cases rkv with
    | @cons _ ku _ _ rk rr =>
    cases rr with
    | @cons _ vu _ _ rvv rr =>
    cases rr
    obtain ⟨tk2, rfl⟩ := rk
    have hTy : (⟨h', s.gens, s.drawn, s.toks, s.os⟩ : Shared).TypeIs (.ref t) "tuple" := by obtain ⟨o, ho, hcl, _⟩ := ptt; exact ⟨o, ho, hcl⟩
    dsimp only
    obtain ⟨ot, hot, hoc, kt, hodat⟩ := ptt
    obtain ⟨z, hsm, ws, rel, dd⟩ := dk_of I'.hok (upd_same (H := H0) (a := d) (o := .dK m))
    have hz2 : ws.length ≤ sizeLine := by rw [← rel.length]; exact z
    refine wpAny_bind (wpAny_holding (wpAny_bind (wpAny_tryCatch ?_)))
    unfold Builtin.Dict.pairItems
    refine wpAny_bind (wpAny_typeOf hTy ?_)
    rw [if_pos (by decide)]
    refine wpAny_bind (wpAny_seqItems hot hodat (wpAny_pure ?_))
    show wpAny _ _ (holding [Value.str p.1 tk2, vu] (dictSet d (Value.str p.1 tk2) vu)) _ _ _
    refine wpAny_holding (wpAny_dictSet_pairs (knd := mixKind X.prog X.w) (k := Sum.inr p.1) (mixKind_str X.prog X.w p.1 tk2) dd (fun h2 dd2 sb2 => ?_) hz2)
    have hl2 : (putK m (Sum.inr p.1) p.2).length ≤ sizeLine := by
      have h3 := length_putK m (Sum.inr p.1) p.2
      have : sizeLine = 16777216 := sizeLine_eq
      simp only [List.length_cons] at hlen
      omega
    have he : ∃ q, h2.get? d = some q := let ⟨q, _, _, hq, _⟩ := dd2; ⟨q, hq⟩
    have I2 : Inv X pins σ (upd (upd H0 d (.dK m)) d (.dK (putK m (Sum.inr p.1) p.2))) { heap := h2, gens := s.gens, drawn := s.drawn, toks := s.toks + 1, os := s.os } :=
      d_write (s := { heap := h', gens := s.gens, drawn := s.drawn, toks := s.toks, os := s.os }) (t' := s.toks + 1) I' (by rw [upd_same]; exact True.intro) sb2 he (dk_new hl2 hsm (rel.put _ rvv) dd2)
    rw [upd_upd] at I2
    refine wpAny_pure ⟨plainId_quiet plain_dul _, ?_⟩
    have hsq2 : SqT X.K (upd H0 d (.dK (putK m (Sum.inr p.1) p.2))) a vs := by
      rcases hsq with (h | ⟨o, h⟩) | h
      · rw [upd_ne hda.symm] at h; exact .inl (.inl (by rw [upd_ne hda.symm]; exact h))
      · rw [upd_ne hda.symm] at h; exact .inl (.inr ⟨o, by rw [upd_ne hda.symm]; exact h⟩)
      · exact .inr h
    refine ih (i + 1) _ (putK m (Sum.inr p.1) p.2) ps' (j + 1) _ (by omega) I2 ?_ ⟨by rw [upd_ne hdi.symm]; exact hn0, f1, f2, f3, f4, f5⟩ hsq2 hrest ?_ hn0 q
    · obtain ⟨oi, hoi, r⟩ := st'
      exact ⟨oi, (sb2.2 it hdi.symm).trans hoi, r⟩
    · have h3 := length_putK m (Sum.inr p.1) p.2
      simp only [List.length_cons] at hlen
      omega
theorem call_dictT (hc : X.calm = true) : CallR X (.type "dict") (fun xs H Q => ∃ (a : Addr) (o : Obj) (vs : List V) (ps : List (Str × V)), xs = [.ref a] ∧ H a = some (.frz o (.tup vs)) ∧ o.dict = none ∧ Paired (fun v (p : Str × V) => ∃ t, v = .ref t ∧ SqT X.K H t [.str p.1, p.2]) vs ps ∧ ps.length ≤ 1000 ∧
    ∀ d, H d = none → Q (.ref d) (upd H d (.dK (foldP ps [])))) := by
  intro pins s σ H xs us Q I r h
  obtain ⟨a, o, vs, ps, rfl, ha, hod, hp, hlen, q⟩ := h
  obtain ⟨u, rfl, ru⟩ := vals1 r
  cases ru
  have hsq : SqT X.K H a vs := .inl (.inr ⟨o, ha⟩)
  obtain ⟨its, rv, pt, hz⟩ := I.tuple hsq
  have hobj : s.heap.get? a = some o := (I.hok a _ ha).1
  have hfr : H s.heap.objs.size = none := I.hok.fresh (Nat.le_refl _)
  refine callType_codes (Q₁ := fun obj s₁ => obj = .ref s.heap.objs.size ∧ s₁ = { s with heap := s.heap.push { cls := .type "dict", data := .dict #[] } }) F.kt_called_dict (F.kt_typeCall_dict_1 _) F.entry_dict_init (kt_code_dict_new _ ⟨rfl, rfl⟩) ?_
  rintro obj s₁ ⟨rfl, rfl⟩
  have I1 : Inv X pins σ (upd H s.heap.objs.size (.dK [])) { s with heap := s.heap.push { cls := .type "dict", data := .dict #[] } } :=
    I.laid (a := s.heap.objs.size) (o := .dK []) (t' := s.toks) (fun _ _ q => Heap.get?_push_of_some _ q) (Nat.le_refl _) (dk_empty s.heap I.big)
  have hnew : (s.heap.push { cls := .type "dict", data := .dict #[] }).DictOf (mixKind X.prog X.w) s.heap.objs.size [] := Heap.DictOf.new s.heap
  refine ⟨hnew.typeIs, F.args_dict_init_2 _ _, ?_⟩
  unfold Builtin.«dict.__init__»
  refine wpAny_bind ?_
  unfold Builtin.Dict.selfAndRest
  refine wpAny_bind (wpAny_notOrdered_dict hnew.typeIs ?_)
  show wpAny _ _ (pure (s.heap.objs.size, [Value.ref a])) _ _ _
  refine wpAny_pure ?_
  show wpAny _ _ (Builtin.Dict.updateFrom "dict.__init__" s.heap.objs.size (.ref a) [] .none) _ _ _
  have had : s.heap.objs.size ≠ a := Ne.symm (ne_of_none ha hfr)
  have hobj1 : (s.heap.push { cls := .type "dict", data := .dict #[] }).get? a = some o := Heap.get?_push_of_some _ hobj
  have htp : (s.heap.push { cls := .type "dict", data := .dict #[] }).IsTuple a its.toArray := by
    obtain ⟨o2, h1, h2⟩ := pt
    exact ⟨o2, Heap.get?_push_of_some _ h1, h2⟩
  unfold Builtin.Dict.updateFrom
  refine wpAny_bind (wpAny_typeOf (s := { s with heap := s.heap.push { cls := .type "dict", data := .dict #[] } }) (T := "tuple") (by obtain ⟨o2, h1, h2, _⟩ := htp; exact ⟨o2, h1, h2⟩) ?_)
  rw [if_pos (by decide)]
  refine wpAny_bind (keys_miss htp (fun o2 h2 => by rw [hobj1] at h2; cases h2; exact hod) (I.ok.hd hc) fun h' tk hk => ?_)
  rw [if_pos (show (none : Option Value).isNone = true from rfl)]
  refine wpAny_bind (wpAny_rule ?_)
  have I2 : Inv X pins σ (upd H s.heap.objs.size (.dK [])) { s with heap := h', toks := tk } := I1.kept hk
  have htp2 : h'.IsTuple a its.toArray := by
    obtain ⟨o2, h1, h2⟩ := htp
    exact ⟨o2, hk _ _ h1, h2⟩
  refine wpAny_bind (wpAny_pyIter_tuple (s := { s with heap := h', toks := tk }) htp2 ?_)
  refine wpAny_pure ⟨plainId_quiet plain_dul _, ?_⟩
  have I3 := I2.kept (h' := h'.push { cls := .type "tuple_iterator", data := .fields #[.ref a, .int 0 0] }) (t' := tk) fun b ob e => Heap.get?_push_of_some _ e
  have hfi : upd H s.heap.objs.size (.dK []) h'.objs.size = none := I2.hok.fresh (Nat.le_refl _)
  have hdi : s.heap.objs.size ≠ h'.objs.size := by
    intro z
    rw [← z, upd_same] at hfi
    cases hfi
  have hfi0 : H h'.objs.size = none := by rw [upd_ne hdi.symm] at hfi; exact hfi
  have hia : h'.objs.size ≠ a := fun z => by
    rw [z, ha] at hfi0
    cases hfi0
  have hsq1 : SqT X.K (upd H s.heap.objs.size (.dK [])) a vs := .inl (.inr ⟨o, by rw [upd_ne had.symm]; exact ha⟩)
  have L := dict_loop (X := X) hc (A := X.A.in1) (I.ok.hd hc) (pins := pins) (σ := σ) (H0 := H) (Q := Q) (a := a) (d := s.heap.objs.size) (it := h'.objs.size) (vs := vs) had hia hdi vs.length 0 _ [] ps 0 0 (by omega) I3 ⟨_, Heap.get?_push_size _ rfl, rfl, rfl⟩ (I2.fpOk (Nat.le_refl _) hfi) hsq1
    (Paired.mapP hp fun v p ⟨t, e, ht⟩ => ⟨t, e, fun z => ?_, ht⟩) (by simpa using hlen) hfi0 (q _ hfr)
  · refine codeAny_mono L fun r s' hr => ?_
    cases r with
    | error e => exact False.elim hr
    | ok f =>
      cases f with
      | ret v =>
        obtain ⟨e, H', I', q'⟩ := hr
        exact ⟨e, .ref s.heap.objs.size, H', I', rfl, q'⟩
      | next => exact False.elim hr
      | brk => exact False.elim hr
      | cont => exact False.elim hr
  · obtain ⟨its2, _, ⟨o2, h2, _⟩, _⟩ := I.tuple ht
    rw [z] at h2
    exact absurd (Heap.lt_size h2) (Nat.lt_irrefl _)
end
end L2
set_option Elab.async false
set_option linter.all false
set_option maxRecDepth 100000
set_option maxHeartbeats 16000000
namespace L2
open PySem PySem.Spec PyProof.Rows PySem.W
section
variable {prog : Program} {w : World} {A : Around} {E : Value → Shared → Prop} {s : Shared} {T : String} {r d : Addr} {n : Nat} {P : Nat → Value → Prop} {OK : Heap → Prop}
theorem collect_src {Q : List Value → Shared → Prop} (K : KdlSrc prog w T r d n P OK) (hh : A.handled = none) (hok : OK s.heap) (hn : n ≤ sizeLine)
    (hQ : ∀ (h' : Heap) (tk : Nat) (acc : Array Value), (∀ b o, s.heap.get? b = some o → h'.get? b = some o) → ItemsOf P acc n → Q acc.toList { s with heap := h', toks := tk }) : wpAny (model prog w) A (collect (.ref r)) Q E s := by
  unfold collect
  refine wpAny_bind (wpAny_runValue (codeAny_builtin F.entry_proto_collect ?_))
  rw [Around.under_plainId F.plain_proto_collect _]
  show wpAny _ A.in1 (newList [] >>= fun l => again (.builtin "list.__iadd__" ⟨[l, .ref r], []⟩)) _ _ s
  refine wpAny_bind (wpAny_newObj_type ?_)
  refine wpAny_pure ⟨plainId_quiet F.plain_list_iadd _, codeAny_builtin F.entry_list_iadd ?_⟩
  rw [Around.under_plainId F.plain_list_iadd _]
  have hS : (s.heap.push { cls := .type "list", data := .seq ([] : List Value).toArray }).get? s.heap.objs.size = some { cls := .type "list", data := .seq #[] 0 } := Heap.get?_push_size _ rfl
  have hlt := K.there _ hok
  show wpAny _ A.in1 (Builtin.List.listExtendWith (.ref s.heap.objs.size) (.ref r) (.ref s.heap.objs.size)) _ _ _
  have fin' : ∀ (h' : Heap) (tk c' : Nat) (acc' : Array Value), (∀ b o, b ≠ s.heap.objs.size → (s.heap.push { cls := .type "list", data := .seq ([] : List Value).toArray }).get? b = some o → h'.get? b = some o) → h'.get? s.heap.objs.size = some { cls := .type "list", dict := none, data := .seq acc' c', slots := #[] } → ItemsOf P acc' n →
      wpAny (model prog w) A (match Value.ref s.heap.objs.size with
      | Value.ref a => do
        match (← load a).data with
          | Data.seq xs _ => pure xs.toList
          | _ => unsupported "internal:collect"
      | _ => unsupported "internal:collect") Q E { s with heap := h', toks := tk } := by
    intro h' tk c' acc' hk hS' hacc
    show wpAny _ A (load s.heap.objs.size >>= _) _ _ _
    refine wpAny_bind (wpAny_load hS' ?_)
    exact wpAny_pure (hQ h' tk acc' (fun b o e => hk b o (Nat.ne_of_lt (Heap.lt_size e)) (Heap.get?_push_of_some _ e)) hacc)
  refine wpAny_mono (kdl_extend (A := A) (R := fun r s' => ∃ (h' : Heap) (tk c' : Nat) (acc' : Array Value), r = .ok (.ret (.ref s.heap.objs.size)) ∧ s' = { s with heap := h', toks := tk } ∧ (∀ b o, b ≠ s.heap.objs.size → (s.heap.push { cls := .type "list", data := .seq ([] : List Value).toArray }).get? b = some o → h'.get? b = some o) ∧ h'.get? s.heap.objs.size = some { cls := .type "list", dict := none, data := .seq acc' c', slots := #[] } ∧ ItemsOf P acc' n)
    (s := { s with heap := s.heap.push { cls := .type "list", data := .seq ([] : List Value).toArray } }) K hh (K.keep _ _ hok fun b _ o e => Heap.get?_push_of_some _ e) s.heap.objs.size (Nat.ne_of_gt hlt.1) (Nat.ne_of_gt hlt.2) (.ref s.heap.objs.size) 0 hS (fun h' tk acc' c' hk hS' hacc => ⟨h', tk, c', acc', rfl, rfl, hk, hS', hacc⟩) hn) (fun fin s' h => ?_) (fun e s' h => ?_)
  · cases fin with
    | done f =>
      obtain ⟨h', tk, c', acc', e, rfl, hk, hS', hacc⟩ := h
      cases e
      exact fin' h' tk c' acc' hk hS' hacc
    | again c' => exact ⟨h.1, codeAny_mono h.2 fun r s'' hr => by obtain ⟨h', tk, c', acc', rfl, rfl, hk, hS', hacc⟩ := hr; exact fin' h' tk c' acc' hk hS' hacc⟩
  · obtain ⟨h', tk, c', acc', e, _⟩ := h
    cases e
theorem code_tuple_new_src {Q₁ : Value → Shared → Prop} (K : KdlSrc prog w "dict" r d n P OK) (hh : A.handled = none) (hok : OK s.heap)
    (h : ∀ (h' : Heap) (tk : Nat) (acc : Array Value), (∀ b o, s.heap.get? b = some o → h'.get? b = some o) → ItemsOf P acc n → Q₁ (.ref h'.objs.size) { s with heap := h'.push { cls := .type "tuple", data := .seq acc }, toks := tk }) (hsz : n ≤ sizeLine) :
    codeAny (model prog w) A (.call (.builtin "tuple.__new__") ⟨[.type "tuple", .ref r], []⟩) (wants Q₁ E) s := by
  refine codeAny_of_tree ?_
  show wpAny _ A.in1 (do checkBuiltinCall "tuple.__new__" ⟨[.type "tuple", .ref r], []⟩; again (.builtin "tuple.__new__" ⟨[.type "tuple", .ref r], []⟩)) _ _ s
  refine wpAny_bind (wpAny_of_eq (F.newCall_tuple_1 _) (wpAny_pure ⟨plainId_quiet F.plain_tuple_new _, codeAny_builtin F.entry_tuple_new ?_⟩))
  rw [Around.under_plainId F.plain_tuple_new _]
  have hsub := sub_tuple_self
  have hinit := init_tuple_lookup
  have hmh := madeHere_tuple
  have hTI := K.type s hok
  have hh1 : A.in1.handled = none := hh
  wp_walk using wpAny_typeOf hTI, collect_src (A := A.in1) K hh1 hok hsz
  intro h' tk acc hm hacc
  show wpAny _ _ (Builtin.Tuple.tupleExact acc.toList.toArray >>= fun v => ret v) _ _ _
  unfold Builtin.Tuple.tupleExact
  refine wpAny_bind (wpAny_newObj_type ?_ (by show acc.toList.toArray.size ≤ sizeLine; simp only [Array.toArray_toList]; rw [hacc.1]; exact hsz))
  refine wpAny_pure ?_
  have e : acc.toList.toArray = acc := by simp
  rw [e]
  exact h h' tk acc hm hacc
theorem call_tuple_src {Q : Value → Shared → Prop} (K : KdlSrc prog w "dict" r d n P OK) (hh : A.handled = none) (hok : OK s.heap) (hsz : n ≤ sizeLine)
    (hQ : ∀ (h' : Heap) (tk : Nat) (acc : Array Value), (∀ b o, s.heap.get? b = some o → h'.get? b = some o) → ItemsOf P acc n → Q (.ref h'.objs.size) { s with heap := h'.push { cls := .type "tuple", data := .seq acc }, toks := tk }) :
    wpAny (model prog w) A (call (.type "tuple") [.ref r]) Q E s := by
  refine callType_codes (Q₁ := fun obj s₁ => s₁.TypeIs obj "tuple" ∧ Q obj s₁) F.called_tuple (F.typeCall_tuple_1 _) F.entry_object_init
    (code_tuple_new_src K hh hok (fun h' tk acc hm hacc => ⟨⟨_, Heap.get?_push_size _ rfl, rfl⟩, hQ h' tk acc hm hacc⟩) hsz) fun obj s₁ h₁ => ?_
  exact ⟨h₁.1, F.args_object_init_2 obj _, object_init_meets F.called_tuple.init.lookup F.called_tuple.made (by decide) prog w A.in1 _ s₁ ⟨h₁.1, rfl, h₁.2⟩⟩
end
theorem is_kV {P : Program} {w : World} {k : Key} {u : Value} (h : (mixKind P w).is k u = true) : RelV (kV k) u := by
  rcases keyIs_shape (show keyIs k u = true from h) with ⟨i, t, rfl, rfl⟩ | ⟨x, t, rfl, rfl⟩
  · exact ⟨t, rfl⟩
  · exact ⟨t, rfl⟩
noncomputable def keysV (kvs : List (Key × V)) : List V := kvs.map fun kv => kV kv.1
theorem length_keysV (kvs : List (Key × V)) : (keysV kvs).length = kvs.length := List.length_map _
theorem vals_keys {P : Program} {w : World} : ∀ {kvs : List (Key × V)} {vs : List (Key × Value)} {us : List Value}, KV kvs vs → us.length = vs.length → (∀ (j : Nat) (u : Value), us[j]? = some u → ∃ k x, vs[j]? = some (k, x) ∧ (mixKind P w).is k u = true) → Vals (keysV kvs) us
  | _, _, [], .nil, _, _ => .nil
  | _, _, _ :: _, .nil, hl, _ => by simp at hl
  | _, _, [], .cons _ _, hl, _ => by simp at hl
  | _, _, u :: us, .cons (a := p) (b := q) h hr, hl, hv => by
    obtain ⟨k, x, e, hk⟩ := hv 0 u rfl
    simp only [List.getElem?_cons_zero, Option.some.injEq] at e
    subst e
    have h1 : p.1 = k := h.1
    refine .cons (by show RelV (kV p.1) u; rw [h1]; exact is_kV hk) (vals_keys hr (by simpa using hl) fun j v hj => by simpa using hv (j + 1) v (by simpa using hj))
section
variable {X : Cx}
theorem call_tupleD (hc : X.calm = true) : CallR X (.type "tuple") (fun xs H Q => ∃ a kvs, xs = [.ref a] ∧ Rd H a (.dK kvs) ∧ ∀ l, H l = none → Q (.ref l) (upd H l (.tup (keysV kvs)))) := by
  intro pins s σ H xs us Q I r h
  obtain ⟨a, kvs, rfl, ha, q⟩ := h
  obtain ⟨u, rfl, ru⟩ := vals1 r
  cases ru
  obtain ⟨z, hsm, vs, rel, dd⟩ := dk_rd I.hok ha
  have hl := rel.length
  obtain ⟨ep, hat⟩ := dd.dictAt
  refine call_tuple_src (kdl_dict (knd := mixKind X.prog X.w) (kvs := vs) (ep := ep) hsm) (I.ok.hd hc) hat (by omega) fun h' tk acc hk hacc => ?_
  have I1 : Inv X pins σ H { s with heap := h', toks := tk } := I.kept (t' := tk) hk
  have hv : Vals (keysV kvs) acc.toList := vals_keys rel (by rw [Array.length_toList]; exact hacc.1) fun j u e => hacc.2 j u (by rw [← Array.getElem?_toList]; exact e)
  have I2 : Inv X pins σ (upd H h'.objs.size (.tup (keysV kvs))) { s with heap := h'.push { cls := .type "tuple", data := .seq acc }, toks := tk } :=
    I1.laid (t' := tk) (fun b o e => Heap.get?_push_of_some _ e) (Nat.le_refl _) (show ObjOk X.prog X.w _ _ _ (.tup (keysV kvs)) from ⟨by rw [length_keysV]; exact z, acc.toList, hv, by
      have := IsTup.new h' acc
      simpa using this⟩)
  exact ⟨.ref h'.objs.size, _, I2, rfl, q _ (I1.hok.fresh (Nat.le_refl _))⟩
end
end L2
set_option Elab.async false
set_option linter.all false
set_option maxRecDepth 100000
set_option maxHeartbeats 16000000
namespace L2
open PySem PySem.Spec PyProof.Rows
noncomputable def kindS : Rw → Str
  | .bring _ _ => "bring"
  | .give _ _ => "give"
  | .set _ _ => "set"
  | .take _ => "take"
  | .say _ _ => "say"
  | .need _ => "need"
  | .ask _ _ => "ask"
  | .part _ => "part"
  | .doo _ => "do"
noncomputable def namesIt (k : Str) : Rw → Option Str
  | .bring p _ => if ("bring" : Str) = k then some p else none
  | .ask p _ => if ("ask" : Str) = k then some p else none
  | _ => none
noncomputable def addN (l : List Str) (x : Str) : List Str := if x ∈ l then l else l ++ [x]
noncomputable def stepN (k : Str) (l : List Str) (r : Rw) : List Str := match namesIt k r with
  | none => l
  | some x => addN l x
noncomputable def namedOf (k : Str) (rs : List Rw) : List Str := rs.foldl (stepN k) []
theorem namedOf_snoc (k : Str) (rs : List Rw) (r : Rw) : namedOf k (rs ++ [r]) = stepN k (namedOf k rs) r := by
  unfold namedOf; rw [List.foldl_append]; rfl
theorem addN_len (l : List Str) (x : Str) : (addN l x).length ≤ l.length + 1 := by
  unfold addN; split <;> simp
theorem stepN_len (k : Str) (l : List Str) (r : Rw) : (stepN k l r).length ≤ l.length + 1 := by
  unfold stepN
  split
  · omega
  · exact addN_len _ _
theorem namedOf_len (k : Str) : ∀ (rs : List Rw) (l : List Str), (rs.foldl (stepN k) l).length ≤ l.length + rs.length
  | [], l => by simp
  | r :: rs, l => by
    have h1 := namedOf_len k rs (stepN k l r)
    have h2 := stepN_len k l r
    simp only [List.foldl_cons, List.length_cons]; omega
noncomputable def setD (l : List Str) : List (Key × V) := l.map fun x => (Sum.inr x, .bl true)
theorem setD_len (l : List Str) : (setD l).length = l.length := List.length_map _
theorem setD_keys (l : List Str) : keysV (setD l) = l.map V.str := by
  unfold keysV setD
  rw [List.map_map]
  rfl
theorem setD_any (l : List Str) (x : Str) : ((setD l).any fun kv => decide (kv.1 = Sum.inr x)) = decide (x ∈ l) := by
  induction l with
  | nil => simp [setD]
  | cons a r ih =>
    have : setD (a :: r) = (Sum.inr a, .bl true) :: setD r := rfl
    rw [this, List.any_cons, ih]
    by_cases e : a = x
    · subst e; simp
    · have h1 : ¬ (Sum.inr a : Key) = Sum.inr x := fun z => e (Sum.inr.inj z)
      have h2 : ¬ x = a := fun z => e z.symm
      simp [e, h2]
theorem setD_put (l : List Str) (x : Str) : putK (setD l) (Sum.inr x) (.bl true) = setD (addN l x) := by
  unfold putK
  rw [setD_any]
  unfold addN
  by_cases e : x ∈ l
  · rw [if_pos (by simpa using e), if_pos e]
    unfold setD
    rw [List.map_map]
    refine List.map_congr_left fun a _ => ?_
    show (if (Sum.inr a : Key) = Sum.inr x then ((Sum.inr a : Key), V.bl true) else (Sum.inr a, V.bl true)) = _
    split <;> rfl
  · rw [if_neg (by simpa using e), if_neg e]
    unfold setD
    rw [List.map_append]
    rfl
noncomputable def PartsF (H : Hp) (a : Addr) (ps : List Pt) : Prop := ∃ o vs, H a = some (.frz o (.tup vs)) ∧ o.dict = none ∧ Paired (PartAt H) vs ps
theorem Same.partsF {H H' : Hp} (s : Same H H') {a : Addr} {ps : List Pt} (h : PartsF H a ps) : PartsF H' a ps := by
  obtain ⟨o, vs, h1, h2, h3⟩ := h
  exact ⟨o, vs, s _ _ h1, h2, Paired.mapP h3 fun _ _ q => q.mono s.tups⟩
theorem foldP_get : ∀ (ps : List (Str × V)) (m : List (Key × V)) (n : Str) (v : V), (ps.map (·.1)).Nodup → ((n, v) ∈ ps ∨ ((∀ p ∈ ps, p.1 ≠ n) ∧ valV m (Sum.inr n) = some v)) → valV (foldP ps m) (Sum.inr n) = some v
  | [], m, n, v, _, h => by
    rcases h with h | h
    · simp at h
    · exact h.2
  | p :: ps, m, n, v, hn, h => by
    rw [List.map_cons, List.nodup_cons] at hn
    show valV (foldP ps (putK m (Sum.inr p.1) p.2)) _ = _
    refine foldP_get ps _ n v hn.2 ?_
    rcases h with h | ⟨h1, h2⟩
    · rcases List.mem_cons.mp h with e | e
      · refine .inr ⟨fun q hq z => hn.1 ?_, ?_⟩
        · rw [← e]; show n ∈ _; rw [← z]; exact List.mem_map_of_mem hq
        · rw [← e]
          show valV (putK m (Sum.inr n) v) (Sum.inr n) = _
          rw [valV_put, if_pos rfl]
      · exact .inl e
    · refine .inr ⟨fun q hq => h1 q (List.mem_cons_of_mem _ hq), ?_⟩
      rw [valV_put, if_neg (fun z => h1 p List.mem_cons_self (Sum.inr.inj z).symm)]
      exact h2
theorem RowAt.kind {H : Hp} {r : Addr} {rw : Rw} (h : RowAt H r rw) : ∃ x rest, H r = some (.tup (.str (kindS rw) :: x :: rest)) := by
  cases rw with
  | bring p ps => obtain ⟨t, h1, h2⟩ := h; exact ⟨_, _, h1⟩
  | give o g => exact ⟨_, _, h⟩
  | set o ts => obtain ⟨t, h1, h2⟩ := h; exact ⟨_, _, h1⟩
  | take o => exact ⟨_, _, h⟩
  | say ts w => obtain ⟨t, h1, h2⟩ := h; exact ⟨_, _, h1⟩
  | need ts => obtain ⟨t, h1, h2⟩ := h; exact ⟨_, _, h1⟩
  | ask p w => exact ⟨_, _, h⟩
  | part p => exact ⟨_, _, h⟩
  | doo p => exact ⟨_, _, h⟩
theorem RowAt.named {H : Hp} {r : Addr} {rw : Rw} {k : Str} (h : RowAt H r rw) (hk : k = "bring" ∨ k = "ask") : (kindS rw = k ∧ ∃ p rest, namesIt k rw = some p ∧ H r = some (.tup (.str k :: .str p :: rest))) ∨ (kindS rw ≠ k ∧ namesIt k rw = none) := by
  rcases hk with rfl | rfl
  · cases rw with
    | bring p ps => obtain ⟨t, h1, h2⟩ := h; exact .inl ⟨rfl, p, _, by simp [namesIt], h1⟩
    | ask p w => exact .inr ⟨by simp only [kindS]; decide +kernel, by simp only [namesIt]; rw [if_neg (by decide +kernel)]⟩
    | _ => exact .inr ⟨by simp only [kindS]; decide +kernel, rfl⟩
  · cases rw with
    | ask p w => exact .inl ⟨rfl, p, _, by simp [namesIt], h⟩
    | bring p ps => exact .inr ⟨by simp only [kindS]; decide +kernel, by simp only [namesIt]; rw [if_neg (by decide +kernel)]⟩
    | _ => exact .inr ⟨by simp only [kindS]; decide +kernel, rfl⟩
end L2
set_option Elab.async false
set_option linter.all false
set_option maxRecDepth 100000
set_option maxHeartbeats 16000000
namespace L2
open PySem PySem.Spec PyProof.Rows
section
variable {X : Cx}
end
noncomputable def lets : Str := "abcdefghijklmnopqrstuvwxyz"
noncomputable def letAt (i : Int) : Nat := lets.cps.toList.getD i.toNat 0
noncomputable def sgAt (i : Int) : Nat := ("abcdefghijklmnopqrstuvwxyz0123456789" : Str).cps.toList.getD i.toNat 0
theorem lets_inj : ∀ i : Nat, i < 26 → ∀ j : Nat, j < 26 → lets.cps.toList.getD i 0 = lets.cps.toList.getD j 0 → i = j := by decide +kernel
theorem lets_len : lets.cps.toList.length = 26 := by decide +kernel
theorem letAt_inj {i j : Int} (hi : 0 ≤ i) (hi2 : i < 26) (hj : 0 ≤ j) (hj2 : j < 26) (h : letAt i = letAt j) : i = j := by
  have := lets_inj i.toNat (by omega) j.toNat (by omega) h
  omega
end L2
set_option Elab.async false
set_option linter.all false
set_option maxRecDepth 100000
set_option maxHeartbeats 16000000
namespace L2
open PySem PySem.Spec PyProof.Rows
section
variable {X : Cx}
end
end L2
set_option Elab.async false
set_option linter.all false
set_option maxRecDepth 100000
set_option maxHeartbeats 16000000
namespace L2
open PySem PySem.Spec PyProof.Rows
noncomputable def ItZl (K : PySem.W.Frag) (a b : Addr) : It :=
  ⟨fun i H => ∃ xs ys x y, SqL K H a xs ∧ SqL K H b ys ∧ xs[i]? = some x ∧ ys[i]? = some y,
   fun i H x H' => ∃ p u v, (∀ xs, SqL K H a xs → xs[i]? = some u) ∧ (∀ ys, SqL K H b ys → ys[i]? = some v) ∧ H p = none ∧ x = .ref p ∧ H' = upd H p (.tup [u, v]),
   fun i H => ∃ xs ys, SqL K H a xs ∧ SqL K H b ys ∧ xs.length = i ∧ ys.length = i⟩
noncomputable def ZipSt (n a b : Addr) (i : Nat) (h : Heap) : Prop := IsZip h (n + 4) (n + 2) (n + 3) .none ∧ IsPair h (n + 2) (.ref n) (.ref (n + 1)) ∧ (∃ x y, IsPair h (n + 3) x y) ∧ h.IsListIter n a i ∧ h.IsListIter (n + 1) b i
noncomputable def zipFp (n : Addr) : List Addr := [n + 4, n + 2, n + 3, n, n + 1]
theorem ZipSt.obj {n a b : Addr} {i : Nat} {h : Heap} (st : ZipSt n a b i h) : ∀ c ∈ zipFp n, ∃ o, h.get? c = some o ∧ ∀ v, o.data ≠ .cell v := by
  obtain ⟨h1, h2, ⟨x, y, h3⟩, ⟨o4, e4, c4, d4⟩, ⟨o5, e5, c5, d5⟩⟩ := st
  intro c hc
  simp only [zipFp, List.mem_cons, List.not_mem_nil, or_false] at hc
  rcases hc with rfl | rfl | rfl | rfl | rfl
  · exact ⟨_, h1, fun v z => nomatch z⟩
  · exact ⟨_, h2, fun v z => nomatch z⟩
  · exact ⟨_, h3, fun v z => nomatch z⟩
  · exact ⟨o4, e4, fun v z => by rw [d4] at z; cases z⟩
  · exact ⟨o5, e5, fun v z => by rw [d5] at z; cases z⟩
theorem ZipSt.keep {n a b : Addr} {i : Nat} {h h' : Heap} (st : ZipSt n a b i h) (kk : ∀ c ∈ zipFp n, ∀ o, h.get? c = some o → h'.get? c = some o) : ZipSt n a b i h' := by
  obtain ⟨h1, h2, ⟨x, y, h3⟩, ⟨o4, e4, r4⟩, ⟨o5, e5, r5⟩⟩ := st
  exact ⟨kk _ (by simp [zipFp]) _ h1, kk _ (by simp [zipFp]) _ h2, ⟨x, y, kk _ (by simp [zipFp]) _ h3⟩, ⟨o4, kk _ (by simp [zipFp]) _ e4, r4⟩, ⟨o5, kk _ (by simp [zipFp]) _ e5, r5⟩⟩
theorem turn_zipL {P : Program} {w : World} {K : PySem.W.Frag} {elts : List Expr} {k : Nat} {pos : Pos} (n a b : Addr) (ha : a < n) (hb : b < n) :
    Turn P w K (.Tuple elts k pos) (ItZl K a b) (zipFp n) (n + 4) (ZipSt n a b) where
  mem := by simp [zipFp]
  obj := fun i h st => st.obj
  keep := fun i h h' st kk => st.keep kk
  item := by
    intro X hP hw hK hc i pins s σ H E I hf st hg
    subst hP hw hK
    obtain ⟨xs, ys, x, y, hq1, hq2, hx, hy⟩ := hg
    obtain ⟨its1, rv1, p1, hz1⟩ := I.list hq1
    obtain ⟨its2, rv2, p2, hz2⟩ := I.list hq2
    obtain ⟨u1, hu1, ru1⟩ := rv1.get hx
    obtain ⟨u2, hu2, ru2⟩ := rv2.get hy
    have W := WalksT.zip2 (prog := X.prog) (w := X.w) (A := X.A) (I.ok.hd hc) (n + 4) (n + 2) (n + 3) n (n + 1) a b (PySem.W.ktu_apart n a b ha hb) its1.toArray its2.toArray
    have g1 := (List.getElem?_eq_some_iff.mp hu1).1
    have g2 := (List.getElem?_eq_some_iff.mp hu2).1
    have hsub : ∀ c, c ∈ [n + 4, n + 3, n, n + 1] → c ∈ zipFp n := fun c hc => by
      simp only [zipFp, List.mem_cons, List.not_mem_nil, or_false] at hc ⊢
      rcases hc with z | z | z | z <;> simp [z]
    have hfw : ∀ c ∈ [n + 4, n + 3, n, n + 1], FpOk X pins H c := fun c hc => hf c (hsub c hc)
    refine W.item i s _ _ (by simp only [List.size_toArray]; omega) ⟨st.1, st.2.1, st.2.2.1, st.2.2.2.1, st.2.2.2.2, p1.isList, p2.isList⟩ fun T vals h' tk hPt hT hTup hM hk => ?_
    obtain ⟨w1, w2, hw1, hw2, rfl⟩ := hPt
    have e1 : w1 = u1 := by
      have : its1[i]? = some w1 := by simpa using hw1
      rw [hu1] at this
      exact (Option.some.inj this).symm
    have e2 : w2 = u2 := by
      have : its2[i]? = some w2 := by simpa using hw2
      rw [hu2] at this
      exact (Option.some.inj this).symm
    subst e1 e2
    have I1 : Inv X pins σ H { s with heap := h', toks := tk } := I.turnedL hk hfw
    have hHT : H T = none := I.hok.fresh hT
    have fT : FpOk X pins H T := I.fpOk hT hHT
    refine ⟨_, rfl, W.go elts k pos i T { s with heap := h', toks := tk } _ _ hM fun h2 st2 hk2 => ?_⟩
    have I2' := I1.turnedL (h' := h2) (t' := tk) hk2 hfw
    have I2 : Inv X pins σ H { s with heap := h2, toks := tk } := I2'
    have hT2 : h2.IsTuple T #[w1, w2] := by
      obtain ⟨o, ho, r⟩ := hTup
      exact ⟨o, hk2 T o (W.apart i T h' hM) ho, r⟩
    have I3 : Inv X pins σ (upd H T (.tup [x, y])) { s with heap := h2, toks := tk } :=
      I2.track fT ⟨by show 2 ≤ sizeLine; decide, [w1, w2], .cons ru1 (.cons ru2 .nil), hT2⟩
    refine ⟨.ref T, _, I3, rfl, ⟨T, x, y, fun zs hz' => by rw [I.list_inj hz' hq1]; exact hx, fun zs hz' => by rw [I.list_inj hz' hq2]; exact hy, hHT, rfl, rfl⟩, ⟨st2.1, st2.2.1, st2.2.2.1, st2.2.2.2.1, st2.2.2.2.2.1⟩, fun c hc' => ?_⟩
    obtain ⟨o, ho, _⟩ := st.obj c hc'
    have hlt := Heap.lt_size ho
    rw [upd_ne (fun z => by rw [z] at hlt; exact absurd hlt (Nat.not_lt.mpr hT))]
    exact (hf c hc').1
  done := by
    intro X hP hw hK hc i pins s σ H E I hf st hg
    subst hP hw hK
    obtain ⟨xs, ys, hq1, hq2, hx, hy⟩ := hg
    obtain ⟨its1, rv1, p1, hz1⟩ := I.list hq1
    obtain ⟨its2, rv2, p2, hz2⟩ := I.list hq2
    have W := WalksT.zip2 (prog := X.prog) (w := X.w) (A := X.A) (I.ok.hd hc) (n + 4) (n + 2) (n + 3) n (n + 1) a b (PySem.W.ktu_apart n a b ha hb) its1.toArray its2.toArray
    have l1 := rv1.length
    have l2 := rv2.length
    have hmin : min its1.toArray.size its2.toArray.size = i := by simp only [List.size_toArray]; omega
    rw [hmin] at W
    have hsub : ∀ c, c ∈ [n + 4, n + 3, n, n + 1] → c ∈ zipFp n := fun c hc => by
      simp only [zipFp, List.mem_cons, List.not_mem_nil, or_false] at hc ⊢
      rcases hc with z | z | z | z <;> simp [z]
    refine W.done s _ _ ⟨st.1, st.2.1, st.2.2.1, st.2.2.2.1, st.2.2.2.2, p1.isList, p2.isList⟩ fun h' tk hk => ⟨rfl, ?_⟩
    exact I.turnedL hk fun c hc => hf c (hsub c hc)
  self := fun _ _ _ _ _ st h => wpAny_pyIter_zip st.1 h
section
variable {X : Cx} {elts : List Expr} {k : Nat} {tpos : Pos}
noncomputable def iZipL (K : PySem.W.Frag) (ta : TA) : TI := fun σ H R => ta σ H fun vs H1 => ∃ a b, vs = [.ref a, .ref b] ∧ (∃ xs, SqL K H1 a xs) ∧ (∃ ys, SqL K H1 b ys) ∧ R (ItZl K a b) H1
theorem pi_zipL {e1 e2 : Expr} {ta : TA} {p pos : Pos} (hg : Gl X "zip") (hm : X.mg "zip" = none) (ha : PA X [e1, e2] ta) (hs : starEach [e1, e2] X.env = (false, eval e1 X.env) :: starEach [e2] X.env := by rfl) (hs2 : ∀ pos, (backTo pos (starEach [e2] X.env)).any (·.1) = false := by intro _; rfl) :
    PI X (.Tuple elts k tpos) (.Call (.Name "zip" p) [e1, e2] [] pos) (iZipL X.K ta) := by
  intro pins s σ H R I h
  refine Call_ (ld_blt I hg hm boot_zip (PyProof.Rows.callWith_type1 (thn (ha pos pins s σ H _ I h) fun us s1 ⟨vs, H1, I1, r1, q1⟩ => ?_) hs (hs2 _)))
  obtain ⟨a, b, e, ⟨xs, hq1⟩, ⟨ys, hq2⟩, q⟩ := q1
  subst e
  cases r1 with
  | cons ra rr =>
  cases rr with
  | cons rb rr =>
    cases rr
    cases ra
    cases rb
    obtain ⟨its1, rv1, p1, hz1⟩ := I1.list hq1
    obtain ⟨its2, rv2, p2, hz2⟩ := I1.list hq2
    have la : a < s1.heap.objs.size := by obtain ⟨o, ho, _⟩ := p1.isList; exact Heap.lt_size ho
    have lb : b < s1.heap.objs.size := by obtain ⟨o, ho, _⟩ := p2.isList; exact Heap.lt_size ho
    refine call_zip_2 p1.isList p2.isList fun h' z1 z2 z3 z4 z5 z6 hk => ?_
    have I2 : Inv X pins σ H1 { s1 with heap := h' } := I1.kept (t' := s1.toks) hk
    refine wpAny_pyIter_zip z1 ⟨s1.heap.objs.size + 4, zipFp s1.heap.objs.size, _, _, H1, rfl, I2, turn_zipL s1.heap.objs.size a b la lb, ⟨z1, z2, ⟨_, _, z3⟩, z4, z5⟩, fun c hc => ?_, q⟩
    have hc' : s1.heap.objs.size ≤ c := by
      simp only [zipFp, List.mem_cons, List.not_mem_nil, or_false] at hc
      rcases hc with z | z | z | z | z <;> rw [z] <;> first | exact Nat.le_refl _ | exact Nat.le_add_right _ _
    exact I1.fpOk hc' (I1.hok.fresh hc')
end
end L2
set_option Elab.async false
set_option linter.all false
set_option maxRecDepth 100000
set_option maxHeartbeats 16000000
namespace L2
open PySem PySem.Spec PyProof.Rows
end L2
set_option Elab.async false
set_option linter.all false
set_option maxRecDepth 100000
set_option maxHeartbeats 16000000
namespace L2
open PySem PySem.Spec PyProof.Rows
end L2
set_option Elab.async false
set_option linter.all false
set_option maxRecDepth 100000
set_option maxHeartbeats 16000000
namespace L2
open PySem PySem.Spec PyProof.Rows
section
variable {X : Cx}
theorem call_sum (hc : X.calm = true) : CallR X (.builtin "sum") (fun xs H Q => ∃ (p : Addr) (ns : List Int), xs = [.ref p] ∧ SqL X.K H p (ns.map V.int) ∧ Q (.int ns.sum) H) := by
  intro pins s σ H xs us Q I r h
  obtain ⟨p, ns, rfl, hq, q⟩ := h
  obtain ⟨u, rfl, ru⟩ := vals1 r
  cases ru
  obtain ⟨its, r', pl, hz⟩ := I.list hq
  have hi := intsAre_of r'
  obtain ⟨ys, hx⟩ := hi.allInts.items
  have hl' : s.heap.IsList p (intItems ys) := hx ▸ pl.isList
  refine sum_intListG (I.ok.hd hc) hl' fun h' tk t' hk => ?_
  have e1 : ns = ys.toList.map (·.1) := by
    rw [← nums_intItems, ← hx]
    exact (show numsOf its.toArray.toList = ns from hi.numsOf).symm
  have e2 : preSum (numAt ys) ys.size = ns.sum := by
    rw [preSum_eq, List.take_of_length_le (by simp), e1]
  rw [e2]
  exact ⟨.int _, H, I.kept hk, ⟨_, rfl⟩, q⟩
theorem mt_bit_length : MtR X "int.bit_length" (fun x vs H Q => ∃ i : Int, x = .int i ∧ vs = [] ∧ Q (.int ((Builtin.Int.intBits i : Nat) : Int)) H) := by
  intro pins s σ H x xs v us Q I rx rs h
  obtain ⟨i, rfl, rfl, q⟩ := h
  obtain ⟨t, rfl⟩ := rx
  cases rs
  exact call_gives PySem.F.slot_int_bit_length (typeIs_int _ _ _) PySem.F.entry_int_bit_length (PySem.F.args_int_bit_length_1 _) (AutoIntG2.int_bit_length_int_0 i t) ⟨.int _, H, I.tok _, ⟨_, rfl⟩, q⟩
end
end L2
set_option Elab.async false
set_option linter.all false
set_option maxRecDepth 100000
set_option maxHeartbeats 16000000
namespace L2
open PySem PySem.Spec PyProof.Rows
section
variable {X : Cx}
theorem vals_of_ints : ∀ {us : List Value} {ns : List Int}, IntsAre us ns → Vals (ns.map V.int) us
  | _, _, .nil => .nil
  | _, _, .cons _ _ h => .cons ⟨_, rfl⟩ (vals_of_ints h)
end
end L2
set_option Elab.async false
set_option linter.all false
set_option maxRecDepth 100000
set_option maxHeartbeats 16000000
namespace L2
open PySem PySem.Spec PyProof.Rows
section
variable {prog : Program} {w : World} {A : Around} {E : Value → Shared → Prop} {s : Shared}
end
section
variable {X : Cx}
end
end L2
set_option Elab.async false
set_option linter.all false
set_option maxRecDepth 100000
set_option maxHeartbeats 16000000
namespace L2
open PySem PySem.Spec PyProof.Rows
section
variable {X : Cx}
end
end L2
set_option Elab.async false
set_option linter.all false
set_option maxRecDepth 100000
set_option maxHeartbeats 16000000
namespace RV
open PySem PySem.Spec PyProof.Rows
end RV
set_option Elab.async false
set_option linter.all false
set_option maxRecDepth 100000
set_option maxHeartbeats 16000000
namespace RV
open PySem PySem.Spec PyProof.Rows
section
variable {prog : Program} {w : World} {A : Around} {E : Value → Shared → Prop} {s : Shared}
end
end RV
set_option Elab.async false
set_option linter.all false
set_option maxRecDepth 100000
set_option maxHeartbeats 16000000
namespace RV
open PySem PySem.Spec PyProof.Rows
section
variable {prog : Program} {w : World} {A : Around} {E : Value → Shared → Prop} {s : Shared}
end
end RV
set_option Elab.async false
set_option linter.all false
set_option maxRecDepth 100000
set_option maxHeartbeats 16000000
namespace RV
open PySem PySem.Spec PyProof.Rows
section
variable {prog : Program} {w : World} {A : Around} {E : Value → Shared → Prop} {s : Shared}
end
end RV
set_option Elab.async false
set_option linter.all false
set_option maxRecDepth 100000
set_option maxHeartbeats 16000000
namespace L2
open PySem PySem.Spec PyProof.Rows PySem.W RV
theorem vals_by : ∀ {xs : List V} {us : List Value}, us.length = xs.length → (∀ (j : Nat) (u : Value), us[j]? = some u → ∃ x, xs[j]? = some x ∧ RelV x u) → Vals xs us
  | [], [], _, _ => .nil
  | [], _ :: _, h, _ => by simp at h
  | _ :: _, [], h, _ => by simp at h
  | x :: xs, u :: us, h, k => by
    obtain ⟨y, e, r⟩ := k 0 u rfl
    have e' : x = y := by simpa using e
    subst e'
    exact .cons r (vals_by (by simpa using h) fun j v hj => by simpa using k (j + 1) v (by simpa using hj))
section
variable {X : Cx} {e : Expr} {te : TE} {pos pos2 p p2 : Pos}
end
end L2
set_option Elab.async false
set_option linter.all false
set_option maxRecDepth 100000
set_option maxHeartbeats 16000000
namespace L2
open PySem PySem.Spec PyProof.Rows
section
variable {P : Program} {w : World} {A : Around} {E : Value → Shared → Prop} {s : Shared} {z TI TO i1 i2 l1 l2 : Addr} {xs ys : Array Value} {I1 I2 : Nat → Heap → Prop} {S1 S2 : Heap → Prop}
end
section
variable {X : Cx} {elts : List Expr} {k : Nat} {tpos : Pos}
end
end L2
set_option Elab.async false
set_option linter.all false
set_option maxRecDepth 100000
set_option maxHeartbeats 16000000
namespace L2
open PySem PySem.Spec PyProof.Rows PySem.W
noncomputable def RawAt (h : Heap) (d : Addr) (es : Array DictEntry) (ep : Nat) : Prop := ∃ o, h.get? d = some o ∧ o.ExactDict ∧ o.data = .dict es ep
section
variable {P : Program} {w : World} {A : Around} {E : Value → Shared → Prop} {s : Shared} {d : Addr} {es : Array DictEntry} {ep : Nat}
theorem RawAt.ty (r : RawAt s.heap d es ep) : s.TypeIs (.ref d) "dict" := by
  obtain ⟨ob, e, c, _⟩ := r
  exact ⟨ob, e, c.1⟩
theorem raw_iter {Q : Value → Shared → Prop} (lo : (d == sysModules) = false) (r : RawAt s.heap d es ep)
    (q : Q (.ref s.heap.objs.size) { s with heap := s.heap.push { cls := .type "dict_keyiterator", data := .fields #[.ref d, .int 0 0, .int es.size 0, .int ep 0] } }) : wpAny (model P w) A (pyIter (.ref d)) Q E s := by
  have ty := r.ty
  obtain ⟨ob, eb, cb, db⟩ := r
  refine wpAny_pyIter_slot ty F.slot_dict_iter (wpAny_call_entry F.slot_dict_iter ty F.entry_dict_iter ?_ (F.args_dict_iter_1 _))
  unfold Builtin.«dict.__iter__» Builtin.Dict.dictSlotNone
  refine wpAny_bind (wpAny_bind (wpAny_notOrdered_dict ty ?_))
  show wpAny _ _ (pure (Value.ref d)) _ _ s
  refine wpAny_pure ?_
  show wpAny _ _ (Builtin.Dict.showsAll d >>= _) _ _ s
  unfold Builtin.Dict.showsAll
  rw [if_neg (fun z => by rw [lo] at z; exact Bool.false_ne_true z)]
  refine wpAny_bind (wpAny_pure (wpAny_bind (wpAny_dictEntries eb db (wpAny_bind (wpAny_dictEpoch eb db ?_)))))
  refine wpAny_bind (wpAny_newObj_type (wpAny_pure ⟨_, rfl, "dict_keyiterator", _, ⟨_, Heap.get?_push_size _ rfl, rfl⟩, F.slot_dict_keyiterator_next.lookup, ?_⟩))
  simpa [rawInt] using q
theorem raw_item {it : Addr} {i : Nat} {e : DictEntry} {Q : Option Value → Shared → Prop} (hi : s.heap.IsKeyIter it d i es.size ep) (r : RawAt s.heap d es ep) (he : es[i]? = some e)
    (q : ∀ h', h'.IsKeyIter it d (i + 1) es.size ep → Heap.SameBut it s.heap h' → Q (some e.key) { s with heap := h' }) : wpAny (model P w) A (pyNext (.ref it)) Q E s := by
  obtain ⟨oi, ei, ci, di⟩ := id hi
  obtain ⟨ob, eb, cb, db⟩ := r
  unfold pyNext
  refine wpAny_bind (wpAny_attempt (wpAny_callSpecial?_slot (name := Str.ofString "__next__") hi.typeIs F.slot_dict_keyiterator_next (wpAny_call_entry F.slot_dict_keyiterator_next hi.typeIs F.entry_dict_keyiterator_next ?_ (F.args_dict_keyiterator_next_1 _))))
  refine wpAny_bind (wpAny_pure (wpAny_bind (wpAny_bind ?_)))
  first | refine wpAny_bind (wpAny_typeNameOfWhole_keyiter hi.typeIs (wpAny_pure (wpAny_bind (wpAny_fieldsOf ei di ?_)))) | refine wpAny_bind (wpAny_typeNameOf_keyiter hi.typeIs (wpAny_pure (wpAny_bind (wpAny_fieldsOf ei di ?_))))
  simp only [show Builtin.Dict_items.ownsTuple "dict_keyiterator" = false by decide, Bool.false_eq_true, if_false]
  show wpAny _ _ (ite ((Value.ref d == Value.none) = true) _ _) _ _ s
  rw [if_neg (by exact Bool.false_ne_true)]
  refine wpAny_bind (wpAny_pure (wpAny_bind (wpAny_dictEntries eb db ?_)))
  rw [if_neg (by simp)]
  refine wpAny_bind (wpAny_pure (wpAny_bind (wpAny_dictEpoch eb db ?_)))
  rw [if_neg (by simp)]
  refine wpAny_pure ?_
  simp only [show ¬ ((i : Int) < 0) from by omega, if_false, Int.toNat_natCast, he]
  refine wpAny_bind ?_
  first | refine wpAny_bind (wpAny_typeNameOfWhole_keyiter hi.typeIs (wpAny_pure (wpAny_bind (wpAny_isOneOf_keyiter hi.typeIs ?_)))) | refine wpAny_bind (wpAny_typeNameOf_keyiter hi.typeIs (wpAny_pure (wpAny_bind (wpAny_isOneOf_keyiter hi.typeIs ?_))))
  show wpAny _ _ (setField (Value.ref it) 1 (rawInt ((i : Int) + 1)) >>= _) _ _ s
  refine wpAny_bind (wpAny_setField ei di (by simp) ?_)
  have hi2 : (s.heap.update it (Obj.mapFields (·.setIfInBounds 1 (rawInt ((i : Int) + 1))))).IsKeyIter it d (i + 1) es.size ep := ⟨_, Heap.get?_update_self _ ei (Obj.isFreed_of_fields (Obj.data_mapFields di _)), (Obj.cls_mapFields ..).trans ci, by
    rw [Obj.data_mapFields di]
    simp [rawInt]⟩
  refine wpAny_bind (wpAny_holding (wpAny_bind (wpAny_isOneOf_keyiter (s := { s with heap := s.heap.update it (Obj.mapFields (·.setIfInBounds 1 (rawInt ((i : Int) + 1)))) }) hi2.typeIs ?_)))
  show wpAny _ _ (pure e.key) _ _ _
  exact wpAny_pure (wpAny_pure ⟨_, rfl, wpAny_pure (q _ hi2 (Heap.SameBut.update ..))⟩)
theorem raw_stop {it : Addr} {i : Nat} {Q : Option Value → Shared → Prop} (hA : A.handled = none) (hi : s.heap.IsKeyIter it d i es.size ep) (r : RawAt s.heap d es ep) (he : es[i]? = none)
    (q : ∀ h', Heap.ExtBut it s.heap h' → Q none { s with heap := h' }) : wpAny (model P w) A (pyNext (.ref it)) Q E s := by
  obtain ⟨oi, ei, ci, di⟩ := id hi
  obtain ⟨ob, eb, cb, db⟩ := r
  unfold pyNext
  refine wpAny_bind (wpAny_attempt (wpAny_callSpecial?_slot (name := Str.ofString "__next__") hi.typeIs F.slot_dict_keyiterator_next (wpAny_call_entry F.slot_dict_keyiterator_next hi.typeIs F.entry_dict_keyiterator_next ?_ (F.args_dict_keyiterator_next_1 _))))
  refine wpAny_bind (wpAny_pure (wpAny_bind (wpAny_bind ?_)))
  first | refine wpAny_bind (wpAny_typeNameOfWhole_keyiter hi.typeIs (wpAny_pure (wpAny_bind (wpAny_fieldsOf ei di ?_)))) | refine wpAny_bind (wpAny_typeNameOf_keyiter hi.typeIs (wpAny_pure (wpAny_bind (wpAny_fieldsOf ei di ?_))))
  simp only [show Builtin.Dict_items.ownsTuple "dict_keyiterator" = false by decide, Bool.false_eq_true, if_false]
  show wpAny _ _ (ite ((Value.ref d == Value.none) = true) _ _) _ _ s
  rw [if_neg (by exact Bool.false_ne_true)]
  refine wpAny_bind (wpAny_pure (wpAny_bind (wpAny_dictEntries eb db ?_)))
  rw [if_neg (by simp)]
  refine wpAny_bind (wpAny_pure (wpAny_bind (wpAny_dictEpoch eb db ?_)))
  rw [if_neg (by simp)]
  refine wpAny_pure ?_
  simp only [show ¬ ((i : Int) < 0) from by omega, if_false, Int.toNat_natCast, he]
  refine wpAny_bind ?_
  first | refine wpAny_bind (wpAny_typeNameOfWhole_keyiter hi.typeIs (wpAny_pure ?_)) | refine wpAny_bind (wpAny_typeNameOf_keyiter hi.typeIs (wpAny_pure ?_))
  show wpAny _ _ (setField (Value.ref it) 0 .none >>= _) _ _ s
  refine wpAny_bind (wpAny_setField ei di (by simp) ?_)
  show wpAny _ _ (newExc (Value.type "StopIteration") [] >>= _) _ _ _
  refine wpAny_bind ?_
  simp only [newTuple, newExc]
  refine wpAny_bind (wpAny_newObj_type (wpAny_bind (m := firstArgMember _ _) (wpAny_of_eq (a := Value.none) (by first | rfl | (simp only [firstArgMember]; rfl)) (wpAny_newObj_type ?_ (by size_fits)))) (by size_fits))
  simp only [raiseNew]
  refine wpAny_bind (wpAny_handled ?_)
  rw [show A.in1.handled = none from hA]
  refine wpAny_bind (wpAny_pure (wpAny_throw ?_))
  exact wpAny_bind (wpAny_isInstance (T := "StopIteration") (b := true) ⟨_, Heap.get?_push_size _ rfl, rfl⟩ isSubtype_stop (wpAny_pure (q _ (((Heap.SameBut.update ..).extBut.push _).push _))))
end
section
variable {X : Cx}
end
end L2
set_option Elab.async false
set_option linter.all false
set_option maxRecDepth 100000
set_option maxHeartbeats 16000000
namespace L2
open PySem PySem.Spec PyProof.Rows
section
variable {X : Cx}
end
end L2
set_option Elab.async false
set_option linter.all false
set_option maxRecDepth 100000
set_option maxHeartbeats 16000000
namespace RG
open PySem PySem.Spec PyProof.Rows
section
variable {prog : Program} {w : World} {A : Around} {E : Value → Shared → Prop} {s : Shared}
variable {I : Addr} {fp : List Addr} {n : Nat} {P : Nat → Value → Prop} {St : Nat → Heap → Prop} {T : String}
end
end RG
set_option Elab.async false
set_option linter.all false
set_option maxRecDepth 100000
set_option maxHeartbeats 16000000
namespace RG
open PySem PySem.Spec PyProof.Rows
section
variable {prog : Program} {w : World} {A : Around} {E : Value → Shared → Prop} {s : Shared}
end
end RG
namespace L2
open PySem PySem.Spec PyProof.Rows PySem.W RG
noncomputable def rngV (n : Nat) : List V := (List.range n).map fun i => V.int ((i : Nat) : Int)
theorem rngV_at {n i : Nat} (h : i < n) : (rngV n)[i]? = some (.int (i : Int)) := by
  unfold rngV
  rw [List.getElem?_map, List.getElem?_range h]
  rfl
theorem rngV_len (n : Nat) : (rngV n).length = n := by unfold rngV; rw [List.length_map, List.length_range]
section
variable {X : Cx} {e : Expr} {te : TE} {pos pos2 pos3 p p2 p3 : Pos}
theorem ev_range (he : PE X e te) (gG : Gl X "range") (mG : X.mg "range" = none) (hs : starEach [e] X.env = [(false, eval e X.env)] := by rfl)
    {pins : List (Addr × Obj)} {s : Shared} {σ : St} {H : Hp} {R : VK} {Q : Value → Shared → Prop} (I : Inv X pins σ H s) (h : te σ H R) (kr : ∀ x H1, R x H1 → ∃ m : Int, x = .int m)
    (k : ∀ m H1 s1 t u v tk, Inv X pins σ H1 s1 → R (.int m) H1 → Q (.ref s1.heap.objs.size) { s1 with heap := s1.heap.push { cls := .type "range", data := .fields #[.int 0 t, .int m u, .int 1 v] }, toks := tk }) :
    wpAny (model X.prog X.w) X.A (eval (.Call (.Name "range" p3) [e] [] pos3) X.env) Q X.xe s := by
  refine wpAny_Call_Name_kw (ld_blt I gG mG boot_range ?_ (by decide) (by decide))
  refine PyProof.Rows.callWith_type1 ?_ hs (by rfl)
  rw [hs]
  refine Calls.spliced_cons (thn (he pins s σ H _ I h) fun u s1 ⟨x, H1, I1, r1, q1⟩ => ?_)
  obtain ⟨m, rfl⟩ := kr x H1 q1
  obtain ⟨t, rfl⟩ := r1
  exact Calls.spliced_nil (call_range_1 (k m H1 s1 _ _ _ _ I1 q1))
noncomputable def tLRng (te : TE) : TE := fun σ H Q => te σ H fun x H1 => ∃ n : Nat, x = .int (n : Int) ∧ n ≤ 1000 ∧ ∀ l, H1 l = none → Q (.ref l) (upd H1 l (.lst (rngV n)))
theorem pe_lrng (hc : X.calm = true) (he : PE X e te) (gL : Gl X "list") (mL : X.mg "list" = none) (gG : Gl X "range") (mG : X.mg "range" = none) (hs : starEach [e] X.env = [(false, eval e X.env)] := by rfl) (hs2 : starEach [.Call (.Name "range" p3) [e] [] pos3] X.env = [(false, eval (.Call (.Name "range" p3) [e] [] pos3) X.env)] := by rfl) :
    PE X (.Call (.Name "list" p) [.Call (.Name "range" p3) [e] [] pos3] [] pos) (tLRng te) := by
  intro pins s σ H Q I h
  refine wpAny_Call_Name_kw (ld_blt I gL mL boot_list ?_ (by decide) (by decide))
  refine PyProof.Rows.callWith_type1 ?_ hs2 (by rfl)
  rw [hs2]
  refine Calls.spliced_cons (ev_range he gG mG hs I h (fun x H1 q => by obtain ⟨n, e1, _⟩ := q; exact ⟨_, e1⟩) fun m H1 s1 t u v tk I1 q1 => ?_)
  obtain ⟨n, e1, hn, q⟩ := q1
  have em : m = (n : Int) := V.int.inj e1
  subst em
  refine Calls.spliced_nil ?_
  have hsl : sizeLine = 16777216 := sizeLine_eq
  have hsz : Builtin.Range.rangeSize 0 (n : Int) 1 = (n : Int) := by
    unfold Builtin.Range.rangeSize
    rw [if_pos (by decide)]
    split <;> omega
  have hp : s1.heap.objs.size ≤ (s1.heap.push { cls := .type "range", data := .fields #[.int 0 t, .int (n : Int) u, .int 1 v] }).objs.size := by rw [Heap.size_push]; omega
  refine call_list_range (s := { s1 with heap := s1.heap.push { cls := .type "range", data := .fields #[.int 0 t, .int (n : Int) u, .int 1 v] }, toks := tk }) (I1.ok.hd hc) (Heap.get?_push_size _ rfl) (small_one (by omega) (by omega) (by omega) (by omega)) hsz (by omega) fun h' tk' acc c keep hS hacc => ?_
  have hk : ∀ b w, s1.heap.get? b = some w → h'.get? b = some w := fun b w e => keep b w (Heap.get?_push_of_some _ e)
  have hv : Vals (rngV n) acc.toList := vals_by (by rw [Array.length_toList, hacc.1, rngV_len]) fun j w e => by
    have hj : j < n := by
      rw [← hacc.1, ← Array.length_toList]
      exact (List.getElem?_eq_some_iff.mp e).1
    obtain ⟨t', rfl⟩ := hacc.2 j w (by rw [← Array.getElem?_toList]; exact e)
    refine ⟨_, rngV_at hj, t', ?_⟩
    congr 1
    omega
  exact ⟨.ref _, _, I1.laid (t' := tk') hk hp (show ObjOk X.prog X.w _ h' _ (.lst (rngV n)) from ⟨by rw [rngV_len]; omega, acc.toList, c, hv, by simpa using hS⟩), rfl, q _ (I1.hok.fresh hp)⟩
end
end L2
set_option Elab.async false
set_option linter.all false
set_option maxRecDepth 100000
set_option maxHeartbeats 16000000
namespace L2
open PySem PySem.Spec PyProof.Rows PySem.W RG
open AutoSeq1 (wpAny_loadPart')
section
variable {prog : Program} {w : World} {A : Around} {E : Value → Shared → Prop} {s : Shared}
end
section
variable {X : Cx} {e : Expr} {te : TE} {pos pos3 p p3 : Pos}
end
end L2
set_option Elab.async false
set_option linter.all false
set_option maxRecDepth 100000
set_option maxHeartbeats 16000000
namespace L2
open PySem PySem.Spec PyProof.Rows PySem.W
section
variable {X : Cx} {e : Expr} {te : TE} {pos pos3 p p3 : Pos}
end
end L2
set_option Elab.async false
set_option linter.all false
set_option maxRecDepth 100000
set_option maxHeartbeats 16000000
namespace L2
open PySem PySem.Spec PyProof.Rows PySem.W
section
variable {prog : Program} {w : World} {A : Around} {R : Result → Shared → Prop} {it best : Addr} {fp wr : List Addr} {n : Nat} {P : Nat → Value → Prop} {St : Nat → Heap → Prop}
noncomputable def KeptBut (wr : List Addr) (best : Addr) (h h' : Heap) : Prop := ∀ b o, b ∉ wr → b ≠ best → h.get? b = some o → h'.get? b = some o
theorem KeptBut.trans {wr : List Addr} {best : Addr} {h1 h2 h3 : Heap} (a : KeptBut wr best h1 h2) (b : KeptBut wr best h2 h3) : KeptBut wr best h1 h3 := fun x o m1 m2 e => b x o m1 m2 (a x o m1 m2 e)
structure MinW (prog : Program) (w : World) (A : Around) (it best : Addr) (fp wr : List Addr) (n : Nat) (P : Nat → Value → Prop) (St : Nat → Heap → Prop) (G : Heap → Prop) (lt : Nat → Nat → Bool) : Prop where
  wk : Walks prog w A it fp wr n P St
  out : best ∉ fp
  keep : ∀ h h', KeptBut wr best h h' → G h → G h'
  cmp : ∀ i j x y (s : Shared) (Q E : Value → Shared → Prop), G s.heap → P i x → P j y → Q (.bool (lt i j)) s → wpAny (model prog w) A (richCompare .Lt x y) Q E s
noncomputable def bestObj (vs : Array Value) (c : Nat) : Obj := { cls := .type "list", dict := none, data := .seq vs c, slots := #[] }
theorem name_min : (toString "min" ++ toString ".loop" : String) = "min.loop" := by decide
theorem min_rest {G : Heap → Prop} {lt : Nat → Nat → Bool} (M : MinW prog w A.in1 it best fp wr n P St G lt) : ∀ (m j c : Nat) (v : Value) (s : Shared), j + 1 + m = n → G s.heap → St (j + 1) s.heap → P (argBest lt j) v → s.heap.get? best = some (bestObj #[v, v] c) →
    (∀ u h' tk, P (argBest lt (n - 1)) u → KeptBut wr best s.heap h' → R (.ok (.ret u)) { s with heap := h', toks := tk }) → codeAny (model prog w) A (.builtin "min.loop" ⟨[.ref it, .none, .ref best], []⟩) R s
  | 0, j, c, v, s, hm, hG, hst, hv, hb, q => by
    have hbw : best ∉ wr := fun z => M.out (M.wk.sub _ z)
    refine codeAny_builtin PySem.F.entry_min_loop ?_
    rw [Around.under_plainId PySem.F.plain_min_loop _]
    show wpAny _ A.in1 (seqItems? (.ref best) >>= _) _ _ s
    refine wpAny_bind (wpAny_seqItems hb rfl ?_)
    show wpAny _ A.in1 (tryCatch (pyNext (.ref it)) _ >>= _) _ _ s
    have en : j + 1 = n := by omega
    refine wpAny_bind (wpAny_tryCatch (M.wk.done s _ _ (by rw [← en]; exact hst) fun h1 tk k1 => ?_))
    show wpAny _ A.in1 (updateSeq best (fun _ => #[]) >>= _) _ _ _
    refine wpAny_bind (wpAny_updateSeq (k1 best _ hbw hb) rfl (wpAny_bind (wpAny_letGo (wpAny_pure ?_))))
    refine q v _ tk (by rw [← en]; exact hv) fun b o m1 m2 e => ?_
    exact (Heap.get?_update_other _ _ (Ne.symm m2)).trans (k1 b o m1 e)
  | m + 1, j, c, v, s, hm, hG, hst, hv, hb, q => by
    have hbw : best ∉ wr := fun z => M.out (M.wk.sub _ z)
    refine codeAny_builtin PySem.F.entry_min_loop ?_
    rw [Around.under_plainId PySem.F.plain_min_loop _]
    show wpAny _ A.in1 (seqItems? (.ref best) >>= _) _ _ s
    refine wpAny_bind (wpAny_seqItems hb rfl ?_)
    show wpAny _ A.in1 (tryCatch (pyNext (.ref it)) _ >>= _) _ _ s
    refine wpAny_bind (wpAny_tryCatch (M.wk.item (j + 1) s _ _ (by omega) hst fun x h1 tk hx st1 k1 => ?_))
    have kb1 : KeptBut wr best s.heap h1 := fun b o m1 _ e => k1 b o m1 e
    have hb1 := k1 best _ hbw hb
    have hG1 := M.keep _ _ kb1 hG
    show wpAny _ A.in1 (tryCatch (holding [x, x] (richCompare .Lt x v >>= _)) _ >>= _) _ _ _
    refine wpAny_bind (wpAny_tryCatch (wpAny_holding (wpAny_bind (M.cmp (j + 1) (argBest lt j) x v _ _ _ hG1 hx hv ?_))))
    refine wpAny_bind (wpAny_holding (wpAny_truthy_bool ?_))
    refine wpAny_bind (wpAny_letGo (wpAny_pure ?_))
    by_cases hl : lt (j + 1) (argBest lt j) = true
    · rw [hl]
      simp only [if_true]
      refine wpAny_bind (wpAny_updateSeq hb1 rfl (wpAny_bind (wpAny_letGo ?_)))
      rw [name_min]
      have k2 : KeptBut wr best h1 (h1.update best fun _ => bestObj #[x, x] (c + 1)) := fun b o m1 m2 e => (Heap.get?_update_other _ _ (Ne.symm m2)).trans e
      refine wpAny_pure ⟨plainId_quiet PySem.F.plain_min_loop _, min_rest M m (j + 1) _ x _ (by omega) (M.keep _ _ ?_ hG1) (M.wk.frame _ _ _ st1 fun b hf o e => ?_) ?_ (Heap.get?_update_self _ hb1 rfl) fun u h2 tk2 hu k3 => ?_⟩
      · exact fun b o m1 m2 e => (Heap.get?_update_other _ _ (Ne.symm m2)).trans e
      · exact (Heap.get?_update_other _ _ (fun z : best = b => M.out (by rw [z]; exact hf))).trans e
      · show P (if lt (j + 1) (argBest lt j) then j + 1 else argBest lt j) x
        rw [hl]
        exact hx
      · exact q u h2 tk2 hu fun b o m1 m2 e => k3 b o m1 m2 ((Heap.get?_update_other _ _ (Ne.symm m2)).trans (kb1 b o m1 m2 e))
    · have hl' : lt (j + 1) (argBest lt j) = false := Bool.not_eq_true _ ▸ hl
      rw [hl']
      simp only [Bool.false_eq_true, if_false]
      refine wpAny_bind (wpAny_letGo ?_)
      rw [name_min]
      refine wpAny_pure ⟨plainId_quiet PySem.F.plain_min_loop _, min_rest M m (j + 1) c v _ (by omega) hG1 st1 ?_ hb1 fun u h2 tk2 hu k3 => q u h2 tk2 hu (kb1.trans k3)⟩
      show P (if lt (j + 1) (argBest lt j) then j + 1 else argBest lt j) v
      rw [hl']
      exact hv
theorem min_first {G : Heap → Prop} {lt : Nat → Nat → Bool} (M : MinW prog w A.in1 it best fp wr n P St G lt) (hn : 0 < n) {c : Nat} {s : Shared} (hG : G s.heap) (hst : St 0 s.heap) (hb : s.heap.get? best = some (bestObj #[] c))
    (q : ∀ u h' tk, P (argBest lt (n - 1)) u → KeptBut wr best s.heap h' → R (.ok (.ret u)) { s with heap := h', toks := tk }) : codeAny (model prog w) A (.builtin "min.loop" ⟨[.ref it, .none, .ref best], []⟩) R s := by
  have hbw : best ∉ wr := fun z => M.out (M.wk.sub _ z)
  refine codeAny_builtin PySem.F.entry_min_loop ?_
  rw [Around.under_plainId PySem.F.plain_min_loop _]
  show wpAny _ A.in1 (seqItems? (.ref best) >>= _) _ _ s
  refine wpAny_bind (wpAny_seqItems hb rfl ?_)
  show wpAny _ A.in1 (tryCatch (pyNext (.ref it)) _ >>= _) _ _ s
  refine wpAny_bind (wpAny_tryCatch (M.wk.item 0 s _ _ hn hst fun x h1 tk hx st1 k1 => ?_))
  have kb1 : KeptBut wr best s.heap h1 := fun b o m1 _ e => k1 b o m1 e
  have hb1 := k1 best _ hbw hb
  show wpAny _ A.in1 (updateSeq best (fun _ => #[x, x]) >>= _) _ _ _
  refine wpAny_bind (wpAny_updateSeq hb1 rfl ?_)
  rw [name_min]
  refine wpAny_pure ⟨plainId_quiet PySem.F.plain_min_loop _, min_rest M (n - 1) 0 _ x _ (by omega) (M.keep _ _ ?_ (M.keep _ _ kb1 hG)) (M.wk.frame _ _ _ st1 fun b hf o e => ?_) hx (Heap.get?_update_self _ hb1 rfl) fun u h2 tk2 hu k3 => ?_⟩
  · exact fun b o m1 m2 e => (Heap.get?_update_other _ _ (Ne.symm m2)).trans e
  · exact (Heap.get?_update_other _ _ (fun z : best = b => M.out (by rw [z]; exact hf))).trans e
  · exact q u h2 tk2 hu fun b o m1 m2 e => k3 b o m1 m2 ((Heap.get?_update_other _ _ (Ne.symm m2)).trans (kb1 b o m1 m2 e))
end
section
variable {X : Cx}
noncomputable def PrI2 (K : PySem.W.Frag) (H : Hp) (v : V) (n : Int × Int) : Prop := ∃ t, v = .ref t ∧ SqT K H t [.int n.1, .int n.2]
noncomputable def prI2 (ns : List (Int × Int)) (i j : Nat) : Bool := HT.lexLt [(ns.getD i (0, 0)).1, (ns.getD i (0, 0)).2] [(ns.getD j (0, 0)).1, (ns.getD j (0, 0)).2]
theorem prI2_t {ns : List (Int × Int)} {i j : Nat} (h : prI2 ns i j = true) : (ns.getD i (0, 0)).1 ≤ (ns.getD j (0, 0)).1 := by
  unfold prI2 at h
  rw [HT.lexLt_cons] at h
  split at h
  · omega
  · exact Int.le_of_lt (of_decide_eq_true h)
theorem prI2_f {ns : List (Int × Int)} {i j : Nat} (h : prI2 ns i j = false) : (ns.getD j (0, 0)).1 ≤ (ns.getD i (0, 0)).1 := by
  unfold prI2 at h
  rw [HT.lexLt_cons] at h
  split at h
  · omega
  · exact Int.not_lt.mp (of_decide_eq_false h)
theorem best_le (ns : List (Int × Int)) : ∀ k, argBest (prI2 ns) k ≤ k ∧ ∀ i, i ≤ k → (ns.getD (argBest (prI2 ns) k) (0, 0)).1 ≤ (ns.getD i (0, 0)).1
  | 0 => ⟨Nat.le_refl _, fun i hi => by rw [Nat.le_zero.mp hi]; exact Int.le_refl _⟩
  | k + 1 => by
    obtain ⟨h1, h2⟩ := best_le ns k
    cases hl : prI2 ns (k + 1) (argBest (prI2 ns) k) with
    | true =>
      have e : argBest (prI2 ns) (k + 1) = k + 1 := by simp only [argBest, hl, if_true]
      rw [e]
      refine ⟨Nat.le_refl _, fun i hi => ?_⟩
      have h3 := prI2_t hl
      by_cases z : i = k + 1
      · rw [z]; exact Int.le_refl _
      · exact Int.le_trans h3 (h2 i (by omega))
    | false =>
      have e : argBest (prI2 ns) (k + 1) = argBest (prI2 ns) k := by simp only [argBest, hl, Bool.false_eq_true, if_false]
      rw [e]
      refine ⟨by omega, fun i hi => ?_⟩
      by_cases z : i = k + 1
      · rw [z]; exact prI2_f hl
      · exact h2 i (by omega)
theorem call_minP (hc : X.calm = true) (hu : X.A.units + 1 < cLine) : CallR X (.builtin "min") (fun xs H Q => ∃ (p : Addr) (vs : List V) (ns : List (Int × Int)), xs = [.ref p] ∧ SqL X.K H p vs ∧ Paired (PrI2 X.K H) vs ns ∧ ns ≠ [] ∧
    ∀ (i : Nat) (v : V) (n : Int × Int), vs[i]? = some v → ns[i]? = some n → (∀ m ∈ ns, n.1 ≤ m.1) → Q v H) := by
  intro pins s σ H xs us Q I r h
  obtain ⟨p, vs, ns, rfl, hq, hps, hne, q⟩ := h
  obtain ⟨u, rfl, rx⟩ := vals1 r
  cases rx
  obtain ⟨its, r', pl, hz⟩ := I.list hq
  have hl := pl.isList
  have hlt : p < s.heap.objs.size := by
    obtain ⟨_, e, _⟩ := hl
    exact Heap.lt_size e
  have hln : vs.length = ns.length := Paired.length hps
  have hlv : its.length = vs.length := r'.length.symm
  have hn0 : 0 < ns.length := List.length_pos_iff.mpr hne
  have hg : ∀ (i : Nat) (v : Value), its.toArray[i]? = some v → ∃ x n, vs[i]? = some x ∧ ns[i]? = some n ∧ RelV x v ∧ PrI2 X.K H x n := fun i v e => by
    have e' : its[(i : Nat)]? = some v := by rw [← e]; simp
    obtain ⟨x, hx, rv⟩ := Paired.get?' r' e'
    obtain ⟨n, hn, hp⟩ := Paired.get? hps hx
    exact ⟨x, n, hx, hn, rv, hp⟩
  refine call_function_tree PySem.F.kind_min PySem.F.plain_min PySem.F.entry_min (PySem.F.args_min1 _) ?_
  show wpAny _ X.A.in1 (Builtin.Builtins.bindParams "min" ["key", "default"] 0 ⟨[], []⟩ >>= _) _ _ s
  refine wpAny_bind (wpAny_of_eq (show Builtin.Builtins.bindParams "min" ["key", "default"] 0 ⟨[], []⟩ = pure [none, none] from rfl) ?_)
  refine wpAny_bind (wpAny_pure (wpAny_bind (wpAny_pyIter_list hl ?_)))
  refine wpAny_bind (wpAny_newObj_type ?_)
  rw [name_min]
  have hh : X.A.in1.handled = none := by simp [I.ok.hd hc]
  have hne1 : p ≠ s.heap.objs.size := Nat.ne_of_lt hlt
  refine wpAny_pure ⟨plainId_quiet PySem.F.plain_min_loop _, min_first (c := 0) (G := fun h => ∀ b o, s.heap.get? b = some o → h.get? b = some o) (lt := prI2 ns)
    ⟨Walks.list hh s.heap.objs.size p hne1 its.toArray, ?_, ?_, ?_⟩ (by rw [List.size_toArray]; omega) (fun b o e => Heap.get?_push_of_some _ (Heap.get?_push_of_some _ e)) ⟨⟨_, Heap.get?_push_of_some _ (Heap.get?_push_size _ rfl), rfl, rfl⟩, (hl.push _).push _⟩ (Heap.get?_push_size _ rfl) fun u h' tk hu' k => ?_⟩
  · rw [Heap.size_push]
    simp only [List.mem_cons, List.mem_singleton, List.not_mem_nil, or_false, not_or]
    exact ⟨Nat.ne_of_gt (Nat.lt_succ_self _), Nat.ne_of_gt (Nat.lt_succ_of_lt hlt)⟩
  · intro h h' k hG b o e
    have hb := Heap.lt_size e
    refine k b o ?_ ?_ (hG b o e)
    · rw [List.mem_singleton]; exact Nat.ne_of_lt hb
    · rw [Heap.size_push]; exact Nat.ne_of_lt (Nat.lt_succ_of_lt hb)
  · intro i j x y s' Q' E' hG hx hy q'
    obtain ⟨x1, n1, hx1, hn1, rx1, t1, rfl, st1⟩ := hg i x hx
    obtain ⟨x2, n2, hx2, hn2, rx2, t2, rfl, st2⟩ := hg j y hy
    cases rx1
    cases rx2
    obtain ⟨its1, r1, p1, _⟩ := I.tuple st1
    obtain ⟨its2, r2, p2, _⟩ := I.tuple st2
    have i1 : IntsAre its1.toArray.toList [n1.1, n1.2] := intsAre_of (ns := [n1.1, n1.2]) r1
    have i2 : IntsAre its2.toArray.toList [n2.1, n2.2] := intsAre_of (ns := [n2.1, n2.2]) r2
    have q1 : IsTup s'.heap t1 its1.toArray := by
      obtain ⟨o, e, rest⟩ := p1
      exact ⟨o, hG _ _ e, rest⟩
    have q2 : IsTup s'.heap t2 its2.toArray := by
      obtain ⟨o, e, rest⟩ := p2
      exact ⟨o, hG _ _ e, rest⟩
    have el : prI2 ns i j = HT.lexLt [n1.1, n1.2] [n2.1, n2.2] := by
      unfold prI2
      rw [List.getD_eq_getElem?_getD, List.getD_eq_getElem?_getD, hn1, hn2]
      rfl
    rw [el] at q'
    exact HT.lt_tupInts q1 q2 i1 i2 (by show X.A.in1.units < cLine; simpa using hu) q'
  · obtain ⟨x, n, hx, hn, rx, _⟩ := hg _ u hu'
    have hk : ∀ b o, s.heap.get? b = some o → h'.get? b = some o := fun b o e => by
      have hb := Heap.lt_size e
      refine k b o ?_ ?_ (Heap.get?_push_of_some _ (Heap.get?_push_of_some _ e))
      · rw [List.mem_singleton]; exact Nat.ne_of_lt hb
      · rw [Heap.size_push]; exact Nat.ne_of_lt (Nat.lt_succ_of_lt hb)
    refine ⟨x, H, I.kept hk, rx, q _ x n hx hn fun m hm => ?_⟩
    obtain ⟨i, hi⟩ := List.getElem?_of_mem hm
    have hil := (List.getElem?_eq_some_iff.mp hi).1
    have h1 := (best_le ns (its.toArray.size - 1)).2 i (by rw [List.size_toArray]; omega)
    rw [List.getD_eq_getElem?_getD, List.getD_eq_getElem?_getD, hn, hi] at h1
    exact h1
end
end L2
set_option Elab.async false
set_option linter.all false
set_option maxRecDepth 100000
set_option maxHeartbeats 16000000
namespace L2
open PySem PySem.Spec PyProof.Rows PySem.W
section
variable {X : Cx} {pins : List (Addr × Obj)} {σ : List (Option V)} {H : Hp} {s : Shared}
theorem Inv.freeze {d : Addr} {o : Obj} {u : HO} (I : Inv X pins σ H s) (h : H d = some u) (n1 : ∀ xs, u ≠ .tup xs) (n2 : ∀ o' u', u ≠ .frz o' u') (n3 : ∀ ps, u ≠ .tbl ps) (n4 : ∀ a, u ≠ .own a) (ho : s.heap.get? d = some o) : Inv X pins σ (upd H d (.frz o u)) s := by
  have ne : ∀ {b : Addr} {v : HO}, H b = some v → v ≠ u → b ≠ d := fun {b v} e hv z => by
    rw [z, h] at e
    exact hv (Option.some.inj e).symm
  have kt : ∀ (b : Addr) (xs : List V), H b = some (.tup xs) → upd H d (.frz o u) b = some (.tup xs) := fun b xs e => by
    rw [upd_ne (ne e fun z => n1 xs z.symm)]
    exact e
  have ko : ∀ (a b : Addr), H b = some (.own a) → upd H d (.frz o u) b = some (.own a) := fun a b e => by
    rw [upd_ne (ne e fun z => n4 a z.symm)]
    exact e
  refine I.step (h' := s.heap) (g' := s.gens) (d' := s.drawn) (t' := s.toks) (ch := []) (fun _ z => nomatch z) (fun b ob _ _ _ e _ => e) (fun b ob _ _ _ e _ => ⟨ob.slots, e⟩)
    (fun b ob _ _ n => by rw [upd_ne (fun z => by rw [z, h] at n; cases n)]; exact n) (fun b ob _ e => ⟨ob, e⟩) kt
    (fun b ob v e => by rw [upd_ne (ne e fun z => n2 ob v z.symm)]; exact e) (fun b ps e => ⟨#[], by rw [upd_ne (ne e fun z => n3 ps z.symm), e]; simp⟩) (fun m hm => hm) (fun b v e => ?_) I.bare
  by_cases hb : b = d
  · subst hb
    rw [upd_same] at e
    cases e
    exact ⟨ho, (I.hok b u h).stay (fun c w _ q => q) (fun c q => ko b c q) kt⟩
  · rw [upd_ne hb] at e
    exact (I.hok b v e).stay (fun c w _ q => q) (fun c q => ko b c q) kt
end
noncomputable def ItD (d : Addr) (o : Obj) (u : HO) (ks : List V) : It := ⟨fun i H => H d = some (.frz o u) ∧ i < ks.length, fun i H x H' => H' = H ∧ ks[i]? = some x, fun i H => H d = some (.frz o u) ∧ ks.length ≤ i⟩
theorem turn_dict {P : Program} {w : World} {K : PySem.W.Frag} {tg : Expr} {d it : Addr} {o : Obj} {u : HO} {ks : List V} {es : Array DictEntry} {ep : Nat} (hx : o.ExactDict) (hd : o.data = .dict es ep) (hl : ks.length = es.size) (hk : ∀ (i : Nat) (k : V), ks[i]? = some k → ∃ e : DictEntry, es[i]? = some e ∧ RelV k e.key) :
    Turn P w K tg (ItD d o u ks) [it] it (fun i h => h.IsKeyIter it d i es.size ep) where
  mem := by simp
  obj := fun i h st b hb => by
    have z : b = it := by simpa using hb
    subst z
    obtain ⟨oi, ei, ci, di⟩ := st
    exact ⟨oi, ei, fun v y => by rw [di] at y; cases y⟩
  keep := fun i h h' st kp => st.at fun ob e => kp it (by simp) ob e
  item := by
    intro X hP hw hK hc i pins s σ H E I hf st hg
    subst hP hw hK
    obtain ⟨hfz, hi⟩ := hg
    have hod : s.heap.get? d = some o := (show ObjOk X.prog X.w H s.heap d (.frz o u) from I.hok d _ hfz).1
    obtain ⟨k, hki⟩ : ∃ k, ks[i]? = some k := ⟨ks[i], by simp [hi]⟩
    obtain ⟨e, he, hr⟩ := hk i k hki
    obtain ⟨f0, f1, f2, f3, f4, f5⟩ := hf it (by simp)
    refine raw_item st ⟨o, hod, hx, hd⟩ he fun h' st' sb => ?_
    have I1 : Inv X pins σ H { s with heap := h' } := I.turned (t' := s.toks) (fun b ob hb e => (sb.2 b hb).trans e) f0 f1 f3 f4 f5
    obtain ⟨oi, ei, ci, di⟩ := id st'
    exact ⟨e.key, rfl, go_of (s := { s with heap := h' }) ei ci di (by decide) ⟨k, H, I1, hr, ⟨rfl, hki⟩, st', fun b hb => (hf b hb).1⟩⟩
  done := by
    intro X hP hw hK hc i pins s σ H E I hf st hg
    subst hP hw hK
    obtain ⟨hfz, hi⟩ := hg
    have hod : s.heap.get? d = some o := (show ObjOk X.prog X.w H s.heap d (.frz o u) from I.hok d _ hfz).1
    obtain ⟨f0, f1, f2, f3, f4, f5⟩ := hf it (by simp)
    exact raw_stop (I.ok.hd hc) st ⟨o, hod, hx, hd⟩ (by simp; omega) fun h' eb => ⟨rfl, I.turned (t' := s.toks) (fun b ob hb e => eb b ob hb e) f0 f1 f3 f4 f5⟩
  self := fun _ _ _ _ _ st h => wpAny_pyIter_keyiter st h
section
variable {X : Cx} {tg : Expr}
theorem keys_rawK {H : Hp} {h : Heap} {d : Addr} {kvs : List (Key × V)} (ok : ObjOk X.prog X.w H h d (.dK kvs)) : ∃ (o : Obj) (es : Array DictEntry) (ep : Nat), h.get? d = some o ∧ o.ExactDict ∧ o.data = .dict es ep ∧ (d == sysModules) = false ∧ (keysV kvs).length = es.size ∧ ∀ (i : Nat) (k : V), (keysV kvs)[i]? = some k → ∃ e : DictEntry, es[i]? = some e ∧ RelV k e.key := by
  obtain ⟨z, lo, vs, rel, o, es, ep, h1, h2, h3, h4, h5, h6⟩ := ok
  have l1 := rel.length
  have l2 : es.size = vs.length := by rw [← h5.length]; simp
  refine ⟨o, es, ep, h1, h2, h3, lo, by rw [length_keysV]; omega, fun i k e => ?_⟩
  unfold keysV at e
  rw [List.getElem?_map] at e
  cases hkv : kvs[i]? with
  | none => rw [hkv] at e; cases e
  | some kv =>
    rw [hkv] at e
    have ek : kV kv.1 = k := Option.some.inj e
    obtain ⟨v, hv, hrel⟩ := Paired.get? rel hkv
    have hi : i < es.size := by rw [l2]; exact (List.getElem?_eq_some_iff.mp hv).1
    have h7 := (h5.get? (e := es[i]) (k := v.1) (v := v.2) (by simp [hi]) hv).1
    refine ⟨es[i], by simp [hi], ?_⟩
    rw [← ek, show kv.1 = v.1 from hrel.1]
    exact is_kV h7
noncomputable def iDictK (te : TE) : TI := fun σ H R => te σ H fun x H1 => ∃ d kvs, x = .ref d ∧ ((H1 d = some (.dK kvs) ∧ ∀ o, R (ItD d o (.dK kvs) (keysV kvs)) (upd H1 d (.frz o (.dK kvs)))) ∨ ∃ o, H1 d = some (.frz o (.dK kvs)) ∧ R (ItD d o (.dK kvs) (keysV kvs)) H1)
theorem pi_dictK {l : Expr} {tl : TE} (hl : PE X l tl) : PI X tg l (iDictK tl) := by
  intro pins s σ H R I h
  refine thn (hl pins s σ H _ I h) fun v s1 ⟨x, H1, I1, r1, q1⟩ => ?_
  obtain ⟨d, kvs, e, q⟩ := q1
  subst e
  cases r1
  have ok : ObjOk X.prog X.w H1 s1.heap d (.dK kvs) := by
    rcases q with ⟨hd, _⟩ | ⟨o, hd, _⟩
    · exact I1.hok d _ hd
    · exact (show ObjOk X.prog X.w H1 s1.heap d (.frz o (.dK kvs)) from I1.hok d _ hd).2
  obtain ⟨o, es, ep, h1, h2, h3, lo, hlen, hks⟩ := keys_rawK ok
  have fin : ∀ H2 : Hp, Inv X pins σ H2 s1 → R (ItD d o (.dK kvs) (keysV kvs)) H2 → wpAny (model X.prog X.w) X.A (pyIter (.ref d)) (PIE X pins σ tg R) X.xe s1 := fun H2 I2 q2 => by
    refine raw_iter lo ⟨o, h1, h2, h3⟩ ?_
    refine ⟨s1.heap.objs.size, [s1.heap.objs.size], _, _, H2, rfl, I2.kept (t' := s1.toks) fun b ob e => Heap.get?_push_of_some _ e, turn_dict h2 h3 hlen hks, ⟨_, Heap.get?_push_size _ rfl, rfl, rfl⟩, fun b hb => ?_, q2⟩
    have z : b = s1.heap.objs.size := by simpa using hb
    subst z
    exact I2.fpOk (Nat.le_refl _) (I2.hok.fresh (Nat.le_refl _))
  rcases q with ⟨hd, q⟩ | ⟨o', hd, q⟩
  · exact fin _ (I1.freeze hd (fun _ z => nomatch z) (fun _ _ z => nomatch z) (fun _ z => nomatch z) (fun _ z => nomatch z) h1) (q o)
  · have ho := (show ObjOk X.prog X.w H1 s1.heap d (.frz o' (.dK kvs)) from I1.hok d _ hd).1
    have eo : o' = o := Option.some.inj (ho.symm.trans h1)
    subst eo
    exact fin H1 I1 q
end
theorem for_dict {d : Addr} {o : Obj} {u : HO} {ks : List V} {g : TG} {tb : TS} {D : Ends} {σ : St} {H : Hp} (Pv : Nat → St → Hp → Prop) (h0 : Pv 0 σ H) (hl : ∀ i σ H, i ≤ ks.length → Pv i σ H → H d = some (.frz o u)) (hs : ∀ (i : Nat) (k : V) σ H, ks[i]? = some k → Pv i σ H → g k σ H fun σ2 H2 => tb { D with nx := Pv (i + 1), ct := Pv (i + 1), bk := D.nx } σ2 H2) (hd : ∀ σ H, Pv ks.length σ H → D.nx σ H) :
    ∃ W : Nat → Nat → St → Hp → Prop, (∃ m, W 0 m σ H) ∧ ∀ i m σ H, W i m σ H →
      ((ItD d o u ks).stop i H ∧ D.nx σ H) ∨ ((ItD d o u ks).go i H ∧ ∃ N : St → Hp → Prop, (∀ σ' H', N σ' H' → ∃ m', m' < m ∧ W (i + 1) m' σ' H') ∧ ∀ y H', (ItD d o u ks).yld i H y H' → g y σ H' fun σ2 H2 => tb { D with nx := N, ct := N, bk := D.nx } σ2 H2) := by
  refine ⟨fun i m σ H => m = ks.length - i ∧ i ≤ ks.length ∧ Pv i σ H, ⟨_, rfl, Nat.zero_le _, h0⟩, ?_⟩
  rintro i m σ H ⟨rfl, hi, p⟩
  have q := hl i σ H hi p
  by_cases hlt : i < ks.length
  · refine .inr ⟨⟨q, hlt⟩, Pv (i + 1), fun σ' H' p' => ⟨ks.length - (i + 1), by omega, rfl, hlt, p'⟩, ?_⟩
    rintro y H' ⟨rfl, hy⟩
    exact hs i y σ _ hy p
  · have e : i = ks.length := by omega
    subst e
    exact .inl ⟨⟨q, Nat.le_refl _⟩, hd σ H p⟩
end L2
set_option Elab.async false
set_option linter.all false
set_option maxRecDepth 100000
set_option maxHeartbeats 16000000
namespace L2
open PySem PySem.Spec PyProof.Rows
section
variable {X : Cx}
end
end L2
set_option Elab.async false
set_option linter.all false
set_option maxRecDepth 100000
set_option maxHeartbeats 16000000
namespace L2
open PySem PySem.Spec PyProof.Rows
section
variable {X : Cx}
theorem call_sortedP : CallR X (.builtin "sorted") (fun xs H Q => ∃ (p : Addr) (ns ms : List Int), xs = [.ref p] ∧ SqL X.K H p (ns.map V.int) ∧ ns.length < 64 ∧ ns.Perm ms ∧ ms.Pairwise (· ≤ ·) ∧ ∀ l, H l = none → Q (.ref l) (upd H l (.lst (ms.map V.int)))) := by
  intro pins s σ H xs us Q I r h
  obtain ⟨p, ns, ms, rfl, hq, h64, hp, hs, q⟩ := h
  obtain ⟨u, rfl, rx⟩ := vals1 r
  cases rx
  obtain ⟨its, r', pl, hz⟩ := I.list hq
  have hi := intsAre_of r'
  have hlen := r'.length
  have hpl := hp.length_eq
  rw [List.length_map] at hlen hz
  refine sorted_ints pl.isList hi (by omega) fun out ns' a1 a2 a3 => ?_
  have e : ns' = ms := PySem.W.ksm_same (a2.trans hp) a3 hs
  subst e
  obtain ⟨ep, he⟩ := sortedAll_at s.heap its out
  have hob : ObjOk X.prog X.w (upd H (s.heap.objs.size + 1) (.lst (ns'.map V.int))) (sortedAll s.heap its out) (s.heap.objs.size + 1) (.lst (ns'.map V.int)) := ⟨by rw [List.length_map]; omega, out.toList, ep, vals_of_ints a1, by rw [he, Array.toArray_toList]⟩
  exact ⟨.ref (s.heap.objs.size + 1), _, I.laid (t' := s.toks) (fun b o hb => sortedAll_old hb) (Nat.le_succ _) hob, rfl, q _ (I.hok.fresh (Nat.le_succ _))⟩
end
end L2
set_option Elab.async false
set_option linter.all false
set_option maxRecDepth 100000
set_option maxHeartbeats 16000000
namespace L2
open PySem PySem.Spec PyProof.Rows
end L2
set_option Elab.async false
set_option linter.all false
set_option maxRecDepth 100000
set_option maxHeartbeats 16000000
namespace L2
open PySem PySem.Spec PyProof.Rows
section
variable {X : Cx}
end
end L2
set_option Elab.async false
set_option linter.all false
set_option maxRecDepth 100000
set_option maxHeartbeats 16000000
namespace L2
open PySem PySem.Spec PyProof.Rows
section
variable {P : Program} {w : World} {K : PySem.W.Frag} {mg : Str → Option Value} {base : Heap}
end
section
variable {X : Cx} {j k : Nat} {C : Addr} {x m : Str} {ps : List Str} {sp : Sp} {o e : Expr} {es : List Expr} {ta : TE} {t : TA} {p pos apos : Pos}
end
end L2
set_option Elab.async false
set_option linter.all false
set_option maxRecDepth 100000
set_option maxHeartbeats 16000000
namespace L2
open PySem PySem.Spec PyProof.Rows PySem.W RV
end L2
set_option Elab.async false
set_option linter.all false
set_option maxRecDepth 100000
set_option maxHeartbeats 16000000
namespace L2
open PySem PySem.Spec PyProof.Rows
section
variable {A : GA} {tk : Int} {ft : V} {rd md : Addr}
end
noncomputable abbrev Wx := Str × Nat × Rw
noncomputable abbrev Dd := Str × Int × Str × Nat
noncomputable abbrev Ft := Str × Str × Nat × Int
section
variable {CP CG : Addr} {H : Hp} {g : Addr} {A : GA} {N : Nt} {ns : List Int} {S : GS}
end
end L2
set_option Elab.async false
set_option linter.all false
set_option maxRecDepth 100000
set_option maxHeartbeats 16000000
namespace L2
open PySem PySem.Spec PyProof.Rows
end L2
set_option Elab.async false
set_option linter.all false
set_option maxRecDepth 100000
set_option maxHeartbeats 16000000
namespace L2
open PySem PySem.Spec PyProof.Rows
noncomputable def TS2 (H : Hp) (v : V) (d : Str × Str) : Prop := ∃ t, v = .ref t ∧ H t = some (.tup [.str d.1, .str d.2])
theorem TS2.mono {H H' : Hp} (s : ∀ a xs, H a = some (.tup xs) → H' a = some (.tup xs)) {v : V} {d : Str × Str} (h : TS2 H v d) : TS2 H' v d := by
  obtain ⟨t, e, h⟩ := h
  exact ⟨t, e, s _ _ h⟩
end L2
set_option Elab.async false
set_option linter.all false
set_option maxRecDepth 100000
set_option maxHeartbeats 16000000
namespace XC
open PySem
noncomputable abbrev frsOf (l : List Env) : List Addr := l.filterMap (·.frame)
noncomputable def Tr (h : Heap) (e : Addr) (cls : Value) (dd : Option Addr) (T : Addr) (fl : Value) : Prop :=
  ∃ oe vs oT ts, h.get? e = some oe ∧ oe.cls = cls ∧ oe.dict = dd ∧ oe.data = .fields vs ∧ vs[1]? = some (.ref T) ∧ T ≠ e ∧ h.get? T = some oT ∧ oT.data = .fields ts ∧ ts[3]? = some fl ∧ vs[2]? = some .none
structure Gone (l : List Env) (e : Addr) (ts : List Addr) (h h' : Heap) : Prop where
  keep : ∀ b o, h.get? b = some o → b ≠ e → b ∉ ts → b ∉ frsOf l → h'.get? b = some o
  slot : ∀ b o, h.get? b = some o → b ∈ frsOf l → ∃ sl, h'.get? b = some { o with slots := sl }
section
variable {M : Model} {A : Around} {E : Value → Shared → Prop} {s : Shared}
theorem frames_free {h base : Heap} {l : List Env} (g : h.FunFrames base l) : ∀ b ∈ frsOf l, base.get? b = none ∧ ∃ o, h.get? b = some o ∧ ∀ vs, o.data ≠ .fields vs := fun b hb => by
  obtain ⟨h1, o, h2, h3⟩ := g.mem hb
  exact ⟨h1, o, h2, h3⟩
theorem dict_map {o : Obj} {f : Array Value → Array Value} {vs : Array Value} (hd : o.data = .fields vs) : (o.mapFields f).dict = o.dict := by
  obtain ⟨c, d, dt, sl⟩ := o
  subst hd
  rfl
theorem entry_ok {base : Heap} {env : Env} {outer : List Env} {L e : Addr} {oe : Obj} {vs : Array Value} {head : Value} {had : Bool} {Q : Unit → Shared → Prop}
    (hfr : A.frames = some (env :: outer)) (hl : s.heap.FunFrames base (env :: outer)) (hf : env.frame = some L) (he : s.heap.get? e = some oe) (hd : oe.data = .fields vs) (hz : 1 < vs.size) (hc : vs[2]? = some .none)
    (h : ∀ h' T, Gone (env :: outer) e [] s.heap h' → s.heap.get? T = none → Tr h' e oe.cls oe.dict T (rawInt L) → Q () { s with heap := h' }) :
    wpAny M A (do let a ← frameOf env; let p ← entryPlaceOf L had; let b ← EntryCells.newEntry head a .none (rawInt L) .none p; setField (.ref e) 1 b) Q E s := by
  have ne : e ∉ frsOf (env :: outer) := fun z => by
    obtain ⟨_, o, q, n⟩ := frames_free hl e z
    rw [he] at q
    cases q
    exact n vs hd
  refine wpAny_bind (wpAny_frameOf_fun hfr hl hf fun g S => wpAny_bind (wpAny_entryPlaceOf fun p hp => ?_))
  unfold EntryCells.newEntry newFields
  refine wpAny_bind (wpAny_newObj_type ?_ (hp.sizeOk5 _ _ _ _ _))
  generalize ht : ([head, Value.ref L, Value.none, rawInt L, Value.none] ++ (if p.isEmpty then List.replicate 6 Value.none else p)).toArray = tv
  have h3 : tv[3]? = some (rawInt L) := by rw [← ht]; simp
  have g1 : g.get? e = some oe := (S.2.1 e ne).trans he
  have te : g.objs.size ≠ e := Nat.ne_of_gt (Heap.lt_size g1)
  have d2 := Obj.data_mapFields hd (·.setIfInBounds 1 (Value.ref g.objs.size))
  have g2 := Heap.get?_push_of_some { cls := .type "traceback", dict := none, data := .fields tv } g1
  refine wpAny_setField g2 hd hz (h _ g.objs.size ⟨fun b o q z _ w => ?_, fun b o q w => ?_⟩ (Heap.get?_none_of_le (by rw [S.1]; exact Nat.le_refl _)) ?_)
  · rw [Heap.get?_update_other _ _ (Ne.symm z)]
    exact Heap.get?_push_of_some _ ((S.2.1 b w).trans q)
  · obtain ⟨sl, q2⟩ := S.2.2 b o q
    have z : b ≠ e := fun z => ne (z ▸ w)
    exact ⟨sl, by rw [Heap.get?_update_other _ _ (Ne.symm z)]; exact Heap.get?_push_of_some _ q2⟩
  · refine ⟨_, _, { cls := .type "traceback", dict := none, data := .fields tv }, tv, Heap.get?_update_self _ g2 (Obj.isFreed_of_fields d2), Obj.cls_mapFields _ _, dict_map hd, d2, ?_, te, ?_, rfl, h3, by rw [Array.getElem?_setIfInBounds_ne (by decide)]; exact hc⟩
    · rw [Array.getElem?_setIfInBounds_self, if_pos hz]
    · rw [Heap.get?_update_other _ _ (Ne.symm te)]
      exact Heap.get?_push_size _ rfl
theorem note_first {base : Heap} {env : Env} {outer : List Env} {L e : Addr} {oe : Obj} {vs : Array Value} {Q : Unit → Shared → Prop}
    (hfr : A.frames = some (env :: outer)) (hl : s.heap.FunFrames base (env :: outer)) (hf : env.frame = some L) (he : s.heap.get? e = some oe) (hd : oe.data = .fields vs) (h1 : vs[1]? = some .none) (hc : vs[2]? = some .none)
    (h : ∀ h' T, Gone (env :: outer) e [] s.heap h' → s.heap.get? T = none → Tr h' e oe.cls oe.dict T (rawInt L) → Q () { s with heap := h' }) : wpAny M A (noteFrame (.ref e) env) Q E s := by
  unfold noteFrame
  simp only [hf]
  refine wpAny_bind (wpAny_field he hd h1 ?_)
  rw [if_neg (by decide)]
  exact entry_ok hfr hl hf he hd (Array.getElem?_eq_some_iff.mp h1).1 hc h
theorem flight_at {h : Heap} {e T : Addr} {cls fl x : Value} {dd : Option Addr} (ht : Tr h e cls dd T fl) :
    (∀ b o, b ≠ T → h.get? b = some o → (h.update T (Obj.mapFields (·.setIfInBounds 3 x))).get? b = some o) ∧ Tr (h.update T (Obj.mapFields (·.setIfInBounds 3 x))) e cls dd T x := by
  obtain ⟨oe, vs, oT, ts, h1, h2, h2', h3, h4, h5, h6, h7, h8, h9⟩ := ht
  have hz : 3 < ts.size := (Array.getElem?_eq_some_iff.mp h8).1
  have d2 := Obj.data_mapFields h7 (·.setIfInBounds 3 x)
  refine ⟨fun b o z q => by rw [Heap.get?_update_other _ _ (Ne.symm z)]; exact q, oe, vs, _, _, ?_, h2, h2', h3, h4, h5, Heap.get?_update_self _ h6 (Obj.isFreed_of_fields d2), d2, ?_, h9⟩
  · rw [Heap.get?_update_other _ _ h5]
    exact h1
  · rw [Array.getElem?_setIfInBounds_self, if_pos hz]
theorem note_next {base : Heap} {env : Env} {outer : List Env} {L e T : Addr} {cls : Value} {dd : Option Addr} {Q : Unit → Shared → Prop}
    (hfr : A.frames = some (env :: outer)) (hl : s.heap.FunFrames base (env :: outer)) (hf : env.frame = some L) (ht : Tr s.heap e cls dd T .none)
    (h : ∀ h' T', Gone (env :: outer) e [T] s.heap h' → s.heap.get? T' = none → Tr h' e cls dd T' (rawInt L) → Q () { s with heap := h' }) : wpAny M A (noteFrame (.ref e) env) Q E s := by
  obtain ⟨k1, oe, vs, oT, ts, a1, a2, a2', a3, a4, a5, a6, a7, a8, a9⟩ := flight_at (x := .none) ht
  obtain ⟨oe0, vs0, oT0, ts0, h1, h2, h2', h3, h4, h5, h6, h7, h8, h9⟩ := ht
  unfold noteFrame
  simp only [hf]
  refine wpAny_bind (wpAny_field h1 h3 h4 ?_)
  rw [if_pos (show (Value.ref T != Value.none) = true from by simp)]
  refine wpAny_bind (wpAny_field h6 h7 h8 ?_)
  rw [if_neg (show ¬ ((Value.none == rawInt L) = true) from by simp [rawInt])]
  have nT : T ∉ frsOf (env :: outer) := fun z => by
    obtain ⟨_, o, q, n⟩ := frames_free hl T z
    rw [h6] at q
    cases q
    exact n ts0 h7
  have nt : ∀ b o, s.heap.get? b = some o → (∀ vs, o.data ≠ .fields vs) → b ≠ T := fun b o q n z => by
    rw [z, h6] at q
    cases q
    exact n ts0 h7
  refine wpAny_bind (wpAny_setField h6 h7 (Array.getElem?_eq_some_iff.mp h8).1 ?_)
  refine entry_ok hfr (hl.of_keeps fun b o q n => ⟨o, k1 b o (nt b o q n) q, rfl⟩) hf a1 a3 (Array.getElem?_eq_some_iff.mp a4).1 a9 fun h' T' G n t => ?_
  refine h h' T' ⟨fun b o q z w u => G.keep b o (k1 b o (fun z => w (by rw [z]; exact List.mem_singleton_self _)) q) z (by simp) u, fun b o q w => G.slot b o (k1 b o (fun z => nT (z ▸ w)) q) w⟩ ?_ (by rw [← a2, ← a2']; exact t)
  cases q : s.heap.get? T' with
  | none => rfl
  | some o =>
    by_cases z : T' = T
    · rw [z, a6] at n
      cases n
    · rw [show (s.heap.update T (Obj.mapFields (·.setIfInBounds 3 Value.none))).get? T' = some o from k1 T' o z q] at n
      cases n
theorem fly_off {e T : Addr} {cls fl : Value} {dd : Option Addr} {Q : Unit → Shared → Prop} (ht : Tr s.heap e cls dd T fl)
    (h : ∀ h', (∀ b o, b ≠ T → s.heap.get? b = some o → h'.get? b = some o) → Tr h' e cls dd T .none → Q () { s with heap := h' }) : wpAny M A (setFlight (.ref e) none) Q E s := by
  obtain ⟨k, t⟩ := flight_at (x := .none) ht
  obtain ⟨oe, vs, oT, ts, h1, h2, h2', h3, h4, h5, h6, h7, h8, h9⟩ := ht
  unfold setFlight
  refine wpAny_bind (wpAny_field h1 h3 h4 ?_)
  rw [if_pos (show (Value.ref T != Value.none) = true from by simp)]
  exact wpAny_setField h6 h7 (Array.getElem?_eq_some_iff.mp h8).1 (h _ k t)
theorem Gone.off {l : List Env} {e T : Addr} {ts : List Addr} {h h1 h2 : Heap} (G : Gone l e ts h h1) (k : ∀ b o, b ≠ T → h1.get? b = some o → h2.get? b = some o) (hT : h.get? T = none ∨ T ∈ ts) (nT : T ∉ frsOf l) : Gone l e ts h h2 := by
  refine ⟨fun b o q z w u => k b o (fun y => ?_) (G.keep b o q z w u), fun b o q w => ?_⟩
  · rcases hT with y2 | y2
    · rw [y, y2] at q; cases q
    · exact w (y ▸ y2)
  · obtain ⟨sl, q2⟩ := G.slot b o q w
    exact ⟨sl, k b _ (fun y => nT (y ▸ w)) q2⟩
theorem new_notIn {h base : Heap} {l : List Env} {T : Addr} (n : h.get? T = none) (g : h.FunFrames base l) : T ∉ frsOf l := fun z => by
  obtain ⟨_, o, q, _⟩ := frames_free g T z
  rw [n] at q
  cases q
theorem leave_first {base : Heap} {env : Env} {outer : List Env} {L e : Addr} {oe : Obj} {vs : Array Value} {Q : Unit → Shared → Prop}
    (hfr : A.frames = some (env :: outer)) (hl : s.heap.FunFrames base (env :: outer)) (hf : env.frame = some L) (he : s.heap.get? e = some oe) (hd : oe.data = .fields vs) (h1 : vs[1]? = some .none) (hc : vs[2]? = some .none)
    (h : ∀ h' T, Gone (env :: outer) e [] s.heap h' → s.heap.get? T = none → Tr h' e oe.cls oe.dict T .none → Q () { s with heap := h' }) : wpAny M A (leaving env (.ref e)) Q E s := by
  unfold leaving
  exact wpAny_bind (note_first hfr hl hf he hd h1 hc fun h' T G n t => fly_off t fun h2 k t2 => h h2 T (G.off k (.inl n) (new_notIn n hl)) n t2)
theorem leave_next {base : Heap} {env : Env} {outer : List Env} {L e T : Addr} {cls : Value} {dd : Option Addr} {Q : Unit → Shared → Prop}
    (hfr : A.frames = some (env :: outer)) (hl : s.heap.FunFrames base (env :: outer)) (hf : env.frame = some L) (ht : Tr s.heap e cls dd T .none)
    (h : ∀ h' T', Gone (env :: outer) e [T] s.heap h' → s.heap.get? T' = none → Tr h' e cls dd T' .none → Q () { s with heap := h' }) : wpAny M A (leaving env (.ref e)) Q E s := by
  unfold leaving
  exact wpAny_bind (note_next hfr hl hf ht fun h' T' G n t => fly_off t fun h2 k t2 => h h2 T' (G.off k (.inl n) (new_notIn n hl)) n t2)
end
end XC
set_option Elab.async false
set_option linter.all false
set_option maxRecDepth 100000
set_option maxHeartbeats 16000000
namespace L2
open PySem PySem.Spec PyProof.Rows XC
noncomputable def CXe (P : Program) (w : World) : CXT := fun outer H s E v s' => ∃ (a T : Addr) (cls : Value) (dd : Option Addr) (H' : Hp), v = .ref a ∧ s'.os = s.os ∧ AllBare s'.gens ∧ Un (frs outer) [] H H' s.heap s'.heap ∧ HOk P w H' s'.heap ∧ s.heap.get? a = none ∧ H' a = none ∧ Tr s'.heap a cls dd T .none ∧ s.heap.get? T = none ∧ H' T = none ∧ E cls dd H'
theorem HOk.gone {P : Program} {w : World} {h h' : Heap} {l : List Env} {e : Addr} {ts : List Addr} {H : Hp} (ok : HOk P w H h) (G : Gone l e ts h h') (he : H e = none) (hts : ∀ b ∈ ts, H b = none) (hf : ∀ b ∈ frs l, H b = none) : HOk P w H h' := fun b o q =>
  (ok b o q).stay (fun c u hc r => by
    have hH : H c ≠ none := by
      rcases hc with z | z
      · rw [z, q]; simp
      · rw [z]; simp
    exact G.keep c u r (fun z => hH (by rw [z]; exact he)) (fun z => hH (hts c z)) (fun z => hH (hf c z))) (fun _ q => q) fun _ _ q => q
theorem Un.gone {h0 h h' : Heap} {env : Env} {outer : List Env} {e : Addr} {ts : List Addr} {H0 H : Hp} (u : Un (frs outer) [] H0 H h0 h) (G : Gone (env :: outer) e ts h h') (he : h0.get? e = none) (hts : ∀ b ∈ ts, h0.get? b = none) (hF : ∀ L, env.frame = some L → h0.get? L = none) (hu : ∀ b ∈ frs outer, H0 b = none) : Un (frs outer) [] H0 H h0 h' := by
  have hfr : ∀ b o, h0.get? b = some o → b ∉ frs outer → b ∉ frsOf (env :: outer) := fun b o hb hn hm => by
    have hm : b ∈ (env :: outer).filterMap (·.frame) := hm
    rw [List.filterMap_cons] at hm
    cases ef : env.frame with
    | none => rw [ef] at hm; exact hn hm
    | some L =>
      rw [ef] at hm
      rcases List.mem_cons.mp hm with z | z
      · rw [z, hF L ef] at hb; cases hb
      · exact hn z
  have hin : ∀ b, b ∈ frs outer → b ∈ frsOf (env :: outer) := fun b hb => by
    show b ∈ (env :: outer).filterMap (·.frame)
    rw [List.filterMap_cons]
    cases env.frame with
    | none => exact hb
    | some L => exact List.mem_cons_of_mem _ hb
  have hne : ∀ b o, h0.get? b = some o → b ≠ e := fun b o hb z => by rw [z, he] at hb; cases hb
  have hnt : ∀ b o, h0.get? b = some o → b ∉ ts := fun b o hb z => by rw [hts b z] at hb; cases hb
  refine ⟨fun b o q n hf hx => G.keep b o (u.keep b o q n hf hx) (hne b o q) (hnt b o q) (hfr b o q hf), fun b o q n hf hx => ?_, u.free, fun b o q hx => ?_, u.tups, u.frzs, u.tbls⟩
  · obtain ⟨sl, h1⟩ := u.slot b o q n hf hx
    obtain ⟨sl', h2⟩ := G.slot b _ h1 (hin b hf)
    exact ⟨sl', h2⟩
  · by_cases hf : b ∈ frs outer
    · obtain ⟨sl, h1⟩ := u.slot b o q (hu b hf) hf hx
      obtain ⟨sl', h2⟩ := G.slot b _ h1 (hin b hf)
      exact ⟨_, h2⟩
    · obtain ⟨o', h1⟩ := u.there b o q hx
      exact ⟨o', G.keep b o' h1 (hne b o q) (hnt b o q) (hfr b o q hf)⟩
theorem ObjOk.there {P : Program} {w : World} {H : Hp} {h : Heap} {a : Addr} {o : HO} (x : ObjOk P w H h a o) : ∃ u, h.get? a = some u := by
  cases o with
  | lst xs => obtain ⟨_, _, _, _, e⟩ := x; exact ⟨_, e⟩
  | tup xs => obtain ⟨_, _, _, o, e, _⟩ := x; exact ⟨_, e⟩
  | dK kvs => obtain ⟨_, _, _, _, o, _, _, e, _⟩ := x; exact ⟨_, e⟩
  | dT kvs => obtain ⟨_, _, _, _, o, _, _, e, _⟩ := x; exact ⟨_, e⟩
  | set S n => obtain ⟨o, _, _, _, e, _⟩ := x; exact ⟨_, e⟩
  | ins C dx fs => obtain ⟨_, _, _, e, _⟩ := x; exact ⟨_, e⟩
  | own y => obtain ⟨_, e⟩ := x; exact ⟨_, e⟩
  | xd fs => obtain ⟨_, ⟨_, _, _, e, _⟩, _⟩ := x; exact ⟨_, e⟩
  | rng lo hi => obtain ⟨_, _, _, e⟩ := x; exact ⟨_, e⟩
  | frz ob u => obtain ⟨e, _⟩ := x; exact ⟨_, e⟩
  | tbl ps => exact ⟨_, x⟩
  | met f y => exact ⟨_, x⟩
  | ext φ => obtain ⟨_, ⟨_, e⟩, _⟩ := x; exact ⟨_, e⟩
theorem HOk.un_at {P : Program} {w : World} {h : Heap} {H : Hp} {a : Addr} (ok : HOk P w H h) (n : h.get? a = none) : H a = none := by
  cases q : H a with
  | none => rfl
  | some o => obtain ⟨u, e⟩ := (ok a o q).there; rw [n] at e; cases e
section
variable {P : Program} {w : World} {K : PySem.W.Frag} {mg : Str → Option Value} {base : Heap} {N : List Str} {qual : Str} {scope : Scope} {f : Addr} {cd : Value} {A : Around} {outer : List Env} {s : Shared} {H : Hp} {E : XK} {pins : List (Addr × Obj)} {σ : St} {H' : Hp} {s' : Shared}
theorem loc_new : ∀ L, (envOfC qual scope s.heap.objs.size f cd).frame = some L → s.heap.get? L = none := fun L e => by
  have e2 : L = s.heap.objs.size := (Option.some.inj e).symm
  rw [e2]
  cases q : s.heap.get? s.heap.objs.size with
  | none => rfl
  | some o => exact absurd (Heap.lt_size q) (Nat.lt_irrefl _)
theorem Inv.up {X : Cx} {s1 : Shared} {H1 : Hp} (I : Inv X pins σ H1 s1) (hx : X.ex = []) {b : Addr} (n : s1.heap.get? b = none) : X.s₀.heap.get? b = none := by
  cases q : X.s₀.heap.get? b with
  | none => rfl
  | some o =>
    obtain ⟨o', z⟩ := I.base.there b o q (by rw [hx]; intro z; cases z)
    rw [n] at z
    cases z
theorem fly_first (I : Inv (cxOf (CXe P w) P w K mg base N qual scope f cd A outer s H E) pins σ H' s') {a : Addr} {oe : Obj} {vs : Array Value} (he : s'.heap.get? a = some oe) (hd : oe.data = .fields vs) (h1 : vs[1]? = some .none) (hc : vs[2]? = some .none) (new : s.heap.get? a = none) (fr : H' a = none) (hE : E oe.cls oe.dict H') :
    (cxOf (CXe P w) P w K mg base N qual scope f cd A outer s H E).xe (.ref a) s' := by
  refine leave_first (base := base) (L := s.heap.objs.size) I.ok.frames I.stack rfl he hd h1 hc fun h' T G hT ht => ?_
  exact ⟨a, T, oe.cls, oe.dict, H', rfl, I.os, I.bare, Un.gone I.base G new (fun b z => by cases z) loc_new I.ok.frf, HOk.gone I.hok G fr (fun b z => by cases z) I.stkFree, new, fr, ht, I.up rfl hT, HOk.un_at I.hok hT, hE⟩
theorem fly_next (I : Inv (cxOf (CXe P w) P w K mg base N qual scope f cd A outer s H E) pins σ H' s') {a T : Addr} {cls : Value} {dd : Option Addr} (ht : Tr s'.heap a cls dd T .none) (new : s.heap.get? a = none) (newT : s.heap.get? T = none) (fr : H' a = none) (frT : H' T = none) (hE : E cls dd H') :
    (cxOf (CXe P w) P w K mg base N qual scope f cd A outer s H E).xe (.ref a) s' := by
  refine leave_next (base := base) (L := s.heap.objs.size) I.ok.frames I.stack rfl ht fun h' T' G hT' ht' => ?_
  exact ⟨a, T', cls, dd, H', rfl, I.os, I.bare, Un.gone I.base G new (fun b z => by rw [List.mem_singleton.mp z]; exact newT) loc_new I.ok.frf, HOk.gone I.hok G fr (fun b z => by rw [List.mem_singleton.mp z]; exact frT) I.stkFree, new, fr, ht', I.up rfl hT', HOk.un_at I.hok hT', hE⟩
theorem passE : Passes (CXe P w) (cxOf (CXe P w) P w K mg base N qual scope f cd A outer s H E) E := fun pins σ H1 s1 v s2 I h => by
  obtain ⟨a, T, cls, dd, H2, rfl, os, bare, un, hok, new, fr, ht, newT, frT, hE⟩ := h
  have I2 := Inv.call' (ch := []) I os un hok bare (fun b z => by cases z)
  exact fly_next I2 ht (I.up rfl new) (I.up rfl newT) fr frT hE
theorem passOwn : PassesOwn (model P w) (cxOf (CXe P w) P w K mg base N qual scope f cd A outer s H E).A (cxOf (CXe P w) P w K mg base N qual scope f cd A outer s H E).env (cxOf (CXe P w) P w K mg base N qual scope f cd A outer s H E).xe := PassesOwn.leaving
end
structure ClE (P : Program) (w : World) (K : PySem.W.Frag) (mg : Str → Option Value) (base : Heap) (k : Nat) (x : Str) (ps : List Str) (sp : Sp) : Prop where
  ex : ∃ f fd, FnOk P w K mg base (CXe P w) k f fd ps sp ∧ mg x = some (.ref f) ∧ PySem.W.keepIn K (.ref f) = true ∧ Binds K fd ps []
theorem pe_fnE {X : Cx} {j k : Nat} {x : Str} {ps : List Str} {sp : Sp} {E : XK} {e : Expr} {es : List Expr} {t : TA} {p pos : Pos} (C : ClE X.prog X.w X.K X.mg X.base j x ps sp) (hx : Passes (CXe X.prog X.w) X E) (hr : Room k X.A) (hg : Gl X x) (ha : PA X (e :: es) t) (hjk : j ≤ k := by decide)
    (hdb : (x == ("__debug__" : Str)) = false := by decide) (he : starEach (e :: es) X.env = (false, eval e X.env) :: starEach es X.env := by rfl) (hpl : (backTo pos (starEach es X.env)).any (·.1) = false := by rfl) :
    PE X (.Call (.Name x p) (e :: es) [] pos) (tCall sp [] E t) := by
  obtain ⟨f, fd, F, hm, hk, hb⟩ := C.ex
  exact pe_call F (hr.mono hjk) hg hm hk hb .nil hx ha hdb he hpl
theorem ClE.of {P : Program} {w : World} {K : PySem.W.Frag} {mg : Str → Option Value} {base : Heap} {x : Str} {st : Stmt} {N ps : List Str} {k : Nat} {sp : Sp} (T : HasDef K mg x st) (S : FnScope N ps (defScope st)) (len : ∀ vs H Q E, sp vs H Q E → vs.length = ps.length)
    (hb : ∀ (kV doc pm : Value) (an : Option Addr) (cdv ct : Value) (us : List Value), us.length = ps.length → bindArgs (PySem.W.fnOf x x (defArgs st) (defBody st) (defScope st) .none kV doc pm an cdv ct) ⟨us, []⟩ = pure (ps.zip us))
    (hbody : ∀ (f : Addr) (cdv : Value) (A : Around) (outer : List Env) (s : Shared) (H : Hp) (vs : List V) (Q : VK) (E : XK), Room k (A.deeper (envOfC x (defScope st) s.heap.objs.size f cdv)) → sp vs H Q E →
      ∃ t, PSs (cxOf (CXe P w) P w K mg base N x (defScope st) f cdv A outer s H E) (defBody st) t ∧ t { nx := fun _ H' => Q .non H', rt := Q } (start N vs) H) : ClE P w K mg base (k + 1) x ps sp := by
  obtain ⟨f, fd, F, m⟩ := T
  obtain ⟨oc, od, kV, doc, pm, an, cdv, ct, osl, rfl, lk, hcd⟩ := F.ex
  exact ⟨f, _, fn_of lk hcd S len fun A outer s H vs Q E hr hsp => hbody f cdv A outer s H vs Q E hr hsp, m, F.kp, F.binds hb⟩
theorem Cl.toE {P : Program} {w : World} {K : PySem.W.Frag} {mg : Str → Option Value} {base : Heap} {k : Nat} {x : Str} {ps : List Str} {sp : Sp} (C : Cl P w K mg base k x ps sp) : ClE P w K mg base k x ps sp := by
  obtain ⟨f, fd, F, hm, hk, hb⟩ := C.ex
  refine ⟨f, fd, ⟨F.len, fun A outer s H args us vs Q E hr e0 b r h => codeAny_mono (F.run A outer s H args us vs Q E hr e0 b r h) fun r s' q => ?_⟩, hm, hk, hb⟩
  cases r with
  | error e => exact False.elim q
  | ok fl =>
    cases fl with
    | ret u => exact q
    | next => exact q
    | brk => exact q
    | cont => exact q
end L2
set_option Elab.async false
set_option linter.all false
set_option maxRecDepth 100000
set_option maxHeartbeats 16000000
namespace L2
open PySem PySem.Spec PyProof.Rows XC
structure Fr1 (X : Cx) (pins : List (Addr × Obj)) (b : Addr) : Prop where
  s0 : X.s₀.heap.get? b = none
  loc : b ≠ X.env.locals
  cel : ∀ x c, X.env.cells.lookup x = some c → c ≠ b
  pin : ∀ p ∈ X.pn ++ pins, p.1 ≠ b
section
variable {X : Cx} {pins : List (Addr × Obj)} {σ : St} {H H' : Hp} {s : Shared} {h' : Heap} {a : Addr} {ts : List Addr}
theorem Inv.fr1 (I : Inv X pins σ H s) (hx : X.ex = []) {b : Addr} (n : s.heap.get? b = none) : Fr1 X pins b := by
  refine ⟨I.up hx n, fun z => ?_, fun x c e z => ?_, fun p hp z => ?_⟩
  · obtain ⟨m, ⟨o, _, _, ho, _⟩, _⟩ := I.loc
    rw [← z, n] at ho
    cases ho
  · obtain ⟨v, o, ho, _⟩ := I.cell x c e
    rw [z, n] at ho
    cases ho
  · have q := (I.pin p hp).1
    rw [z, n] at q
    cases q
theorem Inv.flown {t' : Nat} (I : Inv X pins σ H s) (hx : X.ex = []) (hs : X.stack = X.env :: X.outer) (hf : X.env.frame = some X.env.locals) (G : Gone X.stack a ts s.heap h') (ha : Fr1 X pins a) (ht : ∀ b ∈ ts, Fr1 X pins b) (na : H a = none)
    (hH : H' = H ∨ ∃ o, H' = upd H a o) (hok : HOk X.prog X.w H' h') : Inv X pins σ H' { s with heap := h', toks := t' } := by
  have fre : frsOf X.stack = X.env.locals :: X.fs := by
    rw [hs]
    show (X.env :: X.outer).filterMap (·.frame) = _
    rw [List.filterMap_cons, hf]
    rfl
  have stay : ∀ b, b ≠ a → H' b = H b := fun b z => by
    rcases hH with e | ⟨o, e⟩
    · rw [e]
    · rw [e, upd_ne z]
  have stayT : ∀ b o, H b = some o → H' b = some o := fun b o q => by rw [stay b (ne_of_none q na)]; exact q
  have any : ∀ b o, s.heap.get? b = some o → b ≠ a → b ∉ ts → ∃ sl, h'.get? b = some { o with slots := sl } := fun b o q z w => by
    by_cases hb : b ∈ frsOf X.stack
    · exact G.slot b o q hb
    · exact ⟨o.slots, G.keep b o q z w hb⟩
  have old : ∀ b o, X.s₀.heap.get? b = some o → b ≠ a ∧ b ∉ ts := fun b o q => ⟨(fun z => by rw [z, ha.s0] at q; cases q), (fun z => by rw [(ht b z).s0] at q; cases q)⟩
  have cellK : ∀ x c, X.env.cells.lookup x = some c → ∀ v, s.heap.IsCell c v → h'.IsCell c v := fun x c e v ⟨o, ho, hd⟩ => by
    obtain ⟨sl, q⟩ := any c o ho (ha.cel x c e) fun z => (ht c z).cel x c e rfl
    exact ⟨_, q, hd⟩
  refine ⟨I.ok, I.os, I.bare, ⟨fun b o e n hb hx => ?_, fun b o e n hb hx => ?_, fun b o e n hx => ?_, fun b o e hx => ?_, fun b xs e => stayT b _ (I.base.tups b xs e), fun b o xs e => stayT b _ (I.base.frzs b o xs e), fun b ps e => ?_⟩, ?_, fun x c e => ?_, ?_, fun x c e => ?_, fun p hp => ?_, hok, I.len⟩
  · refine G.keep b o (I.base.keep b o e n hb hx) (old b o e).1 (old b o e).2 fun z => ?_
    rw [fre] at z
    rcases List.mem_cons.mp z with z | z
    · exact absurd (Nat.lt_of_lt_of_le (Heap.lt_size e) I.ok.above) (by rw [z]; exact Nat.lt_irrefl _)
    · exact hb z
  · obtain ⟨sl, e1⟩ := I.base.slot b o e n hb hx
    obtain ⟨sl', e2⟩ := G.slot b _ e1 (by rw [fre]; exact List.mem_cons_of_mem _ hb)
    exact ⟨sl', e2⟩
  · rw [stay b (old b o e).1]
    exact I.base.free b o e n hx
  · obtain ⟨o1, e1⟩ := I.base.there b o e hx
    obtain ⟨sl, e2⟩ := any b o1 e1 (old b o e).1 (old b o e).2
    exact ⟨_, e2⟩
  · obtain ⟨more, e1⟩ := I.base.tbls b ps e
    exact ⟨more, stayT b _ e1⟩
  · obtain ⟨m, ⟨o, es, ep, ho, r⟩, hl⟩ := I.loc
    obtain ⟨sl, q⟩ := any _ o ho (fun z => ha.loc z.symm) (fun z => (ht _ z).loc rfl)
    refine ⟨m, ⟨_, es, ep, q, r⟩, fun i x v e1 e2 e3 => ?_⟩
    obtain ⟨u, r1, l⟩ := hl i x v e1 e2 e3
    refine ⟨u, r1, ?_⟩
    rcases l with l | ⟨k, c, e, z⟩
    · exact .inl l
    · exact .inr ⟨k, c, e, cellK x c e _ z⟩
  · obtain ⟨v, z⟩ := I.cell x c e
    exact ⟨v, cellK x c e v z⟩
  · rw [stay _ (fun z => ha.loc z.symm)]
    exact I.free
  · rw [stay c (ha.cel x c e)]
    exact I.freeC x c e
  · obtain ⟨e, n, ne, nf, d⟩ := I.pin p hp
    refine ⟨G.keep p.1 p.2 e (ha.pin p hp) (fun z => (ht _ z).pin p hp rfl) (fun z => ?_), by rw [stay _ (ha.pin p hp)]; exact n, ne, nf, d⟩
    rw [fre] at z
    rcases List.mem_cons.mp z with z | z
    · exact ne z
    · exact nf z
theorem HOk.take {P : Program} {w : World} {h : Heap} {o : HO} (ok : HOk P w H h) (na : H a = none) (new : ObjOk P w (upd H a o) h a o) : HOk P w (upd H a o) h := fun b u e => by
  by_cases hb : b = a
  · subst hb
    rw [upd_same] at e
    cases e
    exact new
  · rw [upd_ne hb] at e
    exact (ok b u e).stay (fun _ _ _ q => q) (fun c q => by rw [upd_ne (ne_of_none q na)]; exact q) fun c xs q => by rw [upd_ne (ne_of_none q na)]; exact q
theorem forget_ok {M : Model} {A : Around} {E : Value → Shared → Prop} {i : Nat} {n : Str} {pos : Pos} {Q : Unit → Shared → Prop} (I : Inv X pins σ H s) (hN : X.N.Nodup) (hi : X.N[i]? = some n) (hk : X.env.kindOf n = some .local)
    (h : ∀ s', Inv X pins (σ.set i none) H s' → Q () s') : wpAny M A (do bindName X.env n .none; unbindBehindTheSuite X.env n pos) Q E s := by
  obtain ⟨m, hn, hl⟩ := id I.loc
  obtain ⟨oL, _, _, hoL, _⟩ := id hn
  have hiσ : i < σ.length := by rw [I.len]; exact (List.getElem?_eq_some_iff.mp hi).1
  refine wpAny_nameGoes_keeps hk hn (by rw [I.ok.kind]; rfl) fun h' v hn' hs => h _ ⟨I.ok, I.os, I.bare, ⟨fun b o e n hb hx => ?_, fun b o e n hb hx => ?_, I.base.free, fun b o e hx => ?_, I.base.tups, I.base.frzs, I.base.tbls⟩, ⟨_, hn', fun j y v' e1 e2 e3 => ?_⟩, fun y c e => ?_, I.free, I.freeC, fun p hp => ?_, fun b ob e => ?_, by rw [List.length_set]; exact I.len⟩
  · exact (hs.2 b (Nat.ne_of_lt (Nat.lt_of_lt_of_le (Heap.lt_size e) I.ok.above))).trans (I.base.keep b o e n hb hx)
  · obtain ⟨sl, e1⟩ := I.base.slot b o e n hb hx
    exact ⟨sl, (hs.2 b (Nat.ne_of_lt (Nat.lt_of_lt_of_le (Heap.lt_size e) I.ok.above))).trans e1⟩
  · obtain ⟨o', e1⟩ := I.base.there b o e hx
    exact ⟨o', (hs.2 b (Nat.ne_of_lt (Nat.lt_of_lt_of_le (Heap.lt_size e) I.ok.above))).trans e1⟩
  · by_cases hj : j = i
    · rw [hj, List.getElem?_set_self hiσ] at e2
      cases e2
    · rw [List.getElem?_set_ne (Ne.symm hj)] at e2
      obtain ⟨u', r', q⟩ := hl j y v' e1 e2 e3
      refine ⟨u', r', ?_⟩
      rcases q with ⟨k, e⟩ | ⟨k, c, e, z⟩
      · refine .inl ⟨k, ?_⟩
        have : y ≠ n := fun e => hj (nodup_ix hN e1 (e ▸ hi))
        simp [this, e]
      · exact .inr ⟨k, c, e, z.sameBut hs (I.cne y c e)⟩
  · obtain ⟨w', z⟩ := I.cell y c e
    exact ⟨w', z.sameBut hs (I.cne y c e)⟩
  · obtain ⟨e, n, ne, nf, d⟩ := I.pin p hp
    exact ⟨(hs.2 p.1 ne).trans e, n, ne, nf, d⟩
  · refine (I.hok b ob e).stay (fun c w' hc q => (hs.2 c ?_).trans q) (fun _ q => q) fun _ _ q => q
    intro z
    rcases hc with hc | hc
    · rw [← hc, z, I.free] at e; cases e
    · rw [z, I.free] at hc; cases hc
end
noncomputable def ExO (a C : Addr) (dd : Option Addr) : HO := .ext fun h => ∃ o vs, h.get? a = some o ∧ o.cls = .ref C ∧ o.dict = dd ∧ o.data = .fields vs ∧ vs[2]? = some .none
noncomputable abbrev Cx.hand (X : Cx) (a : Addr) : Cx := { X with A := X.A.mark (some (.ref a)), calm := false, xe := fun _ _ => False }
section
variable {X : Cx} {pins : List (Addr × Obj)} {σ : St} {H : Hp} {s : Shared} {a : Addr}
theorem Inv.hand (I : Inv X pins σ H s) (a : Addr) : Inv (X.hand a) pins σ H s :=
  ⟨⟨I.ok.mod, I.ok.kind, I.ok.glob, I.ok.blt, I.ok.above, I.ok.inj, I.ok.has, I.ok.cab, fun z => absurd (show false = true from z) Bool.false_ne_true, I.ok.frames, I.ok.stk, I.ok.exf, I.ok.bs, I.ok.bsz, I.ok.noex, I.ok.exfs, I.ok.funs, I.ok.frf⟩, I.os, I.bare, I.base, I.loc, I.cell, I.free, I.freeC, I.pin, I.hok, I.len⟩
theorem Inv.unhand (ok : X.Ok) (I : Inv (X.hand a) pins σ H s) : Inv X pins σ H s := ⟨ok, I.os, I.bare, I.base, I.loc, I.cell, I.free, I.freeC, I.pin, I.hok, I.len⟩
end
noncomputable def Up (X : Cx) (pins : List (Addr × Obj)) (σ : St) (E : XK) (e : Value) (s : Shared) : Prop :=
  ∃ (a T : Addr) (cls : Value) (dd : Option Addr) (H : Hp), e = .ref a ∧ Inv X pins σ H s ∧ Fr1 X pins a ∧ Fr1 X pins T ∧ H a = none ∧ H T = none ∧ Tr s.heap a cls dd T .none ∧ E cls dd H
noncomputable def TBody (X : Cx) (body : List Stmt) (t : XK → TS) : Prop :=
  ∀ (pins : List (Addr × Obj)) (s : Shared) (σ : St) (H : Hp) (D : Ends) (E : XK) (xe1 : Value → Shared → Prop), Inv X pins σ H s → (∀ e s2, Up X pins σ E e s2 → xe1 e s2) → t E D σ H → wpAny (model X.prog X.w) X.A (execs body X.env) (SP X pins D) xe1 s
section
variable {X : Cx} {j k : Nat} {f : Str} {ps : List Str} {sp : Sp} {e : Expr} {es : List Expr} {ta : TA} {p pos cpos : Pos}
theorem PA.nox {t : TA} (h : PA X.nox es t) (xe1 : Value → Shared → Prop) : PA (X.wish xe1) es t := fun pos pins s σ H Q I hw =>
  wpAny_mono (h pos pins s σ H Q (I.unwish.wish _) hw) (fun _ _ ⟨v, H', I', r, q⟩ => ⟨v, H', I'.unwish.wish _, r, q⟩) fun _ _ z => False.elim z
theorem call_up (C : ClE X.prog X.w X.K X.mg X.base j f ps sp) (hx : X.ex = []) (hr : Room k X.A) (hg : Gl X f) (ha : PA X.nox (e :: es) ta) (hjk : j ≤ k)
    (hdb : (f == ("__debug__" : Str)) = false) (he : starEach (e :: es) X.env = (false, eval e X.env) :: starEach es X.env) (hpl : (backTo cpos (starEach es X.env)).any (·.1) = false)
    {pins : List (Addr × Obj)} {s : Shared} {σ : St} {H : Hp} {Q : VK} {E : XK} {xe1 : Value → Shared → Prop} (I : Inv X pins σ H s) (hu : ∀ e s2, Up X pins σ E e s2 → xe1 e s2) (h : ta σ H fun vs H1 => sp (vs ++ []) H1 Q E) :
    wpAny (model X.prog X.w) X.A (eval (.Call (.Name f p) (e :: es) [] cpos) X.env) (EP X pins σ Q) xe1 s := by
  obtain ⟨fa, fd, F, hm, hk, hb⟩ := C.ex
  refine wpAny_Call_Name_kw (ld_glob I hg hm ?_ hdb)
  refine PySem.W.callWith_K (h₀ := X.base) I.ok.mod.kin hk (thn (PA.nox ha xe1 cpos pins s σ H _ (I.wish _) h) fun us s1 ⟨vs, H1, I1, r, q⟩ => ⟨I1.kIn, ?_⟩) he hpl
  have I1 := I1.unwish
  have r2 : Vals (vs ++ []) (us ++ []) := r.append .nil
  have hl : (us ++ []).length = ps.length := by rw [← r2.length]; exact F.len _ _ _ _ q
  refine wpAny_call (codeAny_mono (F.run X.A X.stack s1 H1 ⟨us, []⟩ (us ++ []) (vs ++ []) Q E (hr.mono hjk) I1.env0 (hb s1 us I1.kIn hl) r2 q) fun r s' hq => ?_)
  cases r with
  | error v =>
    obtain ⟨a, T, cls, dd, H2, rfl, os, bare, un, hok, new, fr, ht, newT, frT, hE⟩ := hq
    exact hu _ _ ⟨a, T, cls, dd, H2, rfl, Inv.call' (ch := []) I1 os un hok bare (fun b z => by cases z), I1.fr1 hx new, I1.fr1 hx newT, fr, frT, ht, hE⟩
  | ok fl =>
    cases fl with
    | ret u => exact I1.after hq
    | next => exact False.elim hq
    | brk => exact False.elim hq
    | cont => exact False.elim hq
noncomputable def tbCall (sp : Sp) (ta : TA) (k : V → TS) : XK → TS := fun E D σ H => ta σ H fun vs H1 => sp (vs ++ []) H1 (fun v H2 => k v D σ H2) E
theorem tb_expr (C : ClE X.prog X.w X.K X.mg X.base j f ps sp) (hr : Room k X.A) (hg : Gl X f) (ha : PA X.nox (e :: es) ta) (hjk : j ≤ k := by decide) (hx : X.ex = [] := by rfl)
    (hdb : (f == ("__debug__" : Str)) = false := by decide) (he : starEach (e :: es) X.env = (false, eval e X.env) :: starEach es X.env := by rfl) (hpl : (backTo cpos (starEach es X.env)).any (·.1) = false := by rfl)
    (hs : swapsWith (.Call (.Name f p) (e :: es) [] cpos) none pos.line X.env = pure false := by rfl) :
    TBody X [.Expr (.Call (.Name f p) (e :: es) [] cpos) pos] (tbCall sp ta fun _ => tNext) := by
  intro pins s σ H D E xe1 I hu h
  refine wpAny_execs_cons (thn (Q := fun f s1 => SP X pins D f s1) (wpAny_Expr_any (thn (call_up C hx hr hg ha hjk hdb he hpl I hu h) fun v s1 ⟨x, H1, I1, r1, q1⟩ => ⟨σ, H1, I1, q1⟩) I.quiet hs) fun f s1 q => ?_)
  cases f with
  | next => exact wpAny_execs_nil q
  | ret v => exact q
  | brk => exact q
  | cont => exact q
end
structure XK1 (K : PySem.W.Frag) (C : Addr) : Prop where
  cl : (PySem.W.clsIn K C).isSome = true
  ty : PySem.W.typeIn K (.ref C) = some (.type "type")
  base : PySem.W.mroIn K C (.type "BaseException") = some true
  ga : PySem.W.findIn K (.ref C) "__getattribute__" = some (some (.builtin "BaseException.__getattribute__"))
  gt : PySem.W.findIn K (.ref C) "__getattr__" = some none
  ca : PySem.W.findIn K (.ref C) "__class__" = some (some (.builtin "object.__class__"))
  gd : PySem.W.specialIn K (.builtin "object.__class__") "__get__" = some (some (.builtin "getset_descriptor.__get__"))
  tk : PySem.W.takesIn K (.builtin "object.__class__") = some true
  ob : PySem.W.mroIn K C (.type "object") = some true
theorem looks_isType {K : PySem.W.Frag} {M : Model} {h : Heap} (x : K.In h) {C : Addr} (e : (PySem.W.clsIn K C).isSome = true) : PySem.W.Looks M h (isType (.ref C)) true := by
  unfold PySem.W.clsIn at e
  split at e
  · rename_i c' d' cd' sl' ho
    intro A' Q' E' s' k q
    unfold isType loadHead
    exact wpAny_bind (wpAny_loadPart (k _ _ (x _ _ ho)) (wpAny_pure q))
  · cases e
theorem exc_match {M : Model} {A : Around} {E : Value → Shared → Prop} {s : Shared} {K : PySem.W.Frag} {a C B : Addr} {o : Obj} {Q : Bool → Shared → Prop} (X : K.In s.heap) (b : XK1 K B) (sub : PySem.W.mroIn K C (.ref B) = some true) (ha : s.heap.get? a = some o) (hc : o.cls = .ref C)
    (h : Q true s) : wpAny M A (excMatches (.ref a) (.ref B)) Q E s := by
  obtain ⟨hh, g, d, t, os⟩ := s
  have L1 := PySem.W.looks_typeIn (M := M) X b.ty
  have L2 : PySem.W.Looks M hh (isSubtype (.type "type") (.type "tuple")) false := PySem.W.Looks.of_pure tc_notTuple
  have L3 := looks_isType (M := M) X b.cl
  have L4 := PySem.W.looks_mroIn (M := M) X b.base
  have L5 : PySem.W.Looks M hh (typeOf (.ref a)) (.ref C) := hc ▸ (PySem.W.Looks.ld ha).andThen .now
  have L6 := PySem.W.looks_mroIn (M := M) X sub
  have L7 : PySem.W.Looks M hh (isInstance (.ref B) (.type "tuple")) false := L1.andThen L2
  have L8 : PySem.W.Looks M hh (isExcClass (.ref B)) true := L3.andThen (by simpa using L4)
  unfold excMatches
  refine wpAny_bind (L7.at ?_)
  simp only [Bool.false_eq_true, if_false, List.forIn_cons, List.forIn_nil, pure_bind]
  refine wpAny_bind (wpAny_bind (wpAny_bind (L8.at ?_)))
  simp only [Bool.not_true, Bool.false_eq_true, if_false]
  refine wpAny_pure (wpAny_pure (wpAny_bind (L5.at (wpAny_bind (wpAny_bind (wpAny_bind (L6.at ?_)))))))
  simp only [if_true]
  exact wpAny_pure (wpAny_pure (wpAny_pure h))
noncomputable def goneD (i : Nat) (D : Ends) : Ends := { nx := fun σ H => D.nx (σ.set i none) H, rt := D.rt, bk := fun σ H => D.bk (σ.set i none) H, ct := fun σ H => D.ct (σ.set i none) H }
noncomputable def tTryAs (K : PySem.W.Frag) (B : Addr) (i : Nat) (tb : XK → TS) (th : Addr → TS) : TS := fun D σ H =>
  tb (fun cls dd H2 => ∃ C, cls = .ref C ∧ PySem.W.mroIn K C (.ref B) = some true ∧ ∀ a, H2 a = none → th a (goneD i D) (σ.set i (some (.ref a))) (upd H2 a (ExO a C dd))) D σ H
section
variable {X : Cx} {body : List Stmt} {tb : XK → TS} {x n : Str} {B : Addr} {i : Nat} {b0 : Stmt} {suite : List Stmt} {th : Addr → TS} {np hp pos : Pos}
theorem exo_ok {P : Program} {w : World} {H : Hp} {h : Heap} {a T C : Addr} {dd : Option Addr} {fl : Value} (t : Tr h a (.ref C) dd T fl) : ObjOk P w (upd H a (ExO a C dd)) h a (ExO a C dd) := by
  obtain ⟨oe, vs, oT, ts, h1, h2, h2', h3, _, _, _, _, _, h9⟩ := t
  exact ⟨⟨oe, vs, h1, h2, h2', h3, h9⟩, ⟨oe, h1⟩, fun g1 g2 ⟨o, vs, q, r⟩ k => ⟨o, vs, k o q, r⟩⟩
theorem ps_tryAs (hN : X.N.Nodup) (hi : X.N[i]? = some n) (hk : X.env.kindOf n = some .local) (hg : Gl X x) (hm : X.mg x = some (.ref B)) (b : XK1 X.K B) (hb : TBody X body tb) (hh : ∀ a, PSs (X.hand a) (b0 :: suite) (th a))
    (hx : X.ex = [] := by rfl) (hs : X.stack = X.env :: X.outer := by rfl) (hf : X.env.frame = some X.env.locals := by rfl) (hd : (x == ("__debug__" : Str)) = false := by decide) (hfn : X.fn n = true ∨ X.env.scope.names.lookup n = some .local := by first | exact .inl rfl | exact .inr rfl) :
    PS X (.Try body [.ExceptHandler (some (.Name x np)) (some n) (b0 :: suite) hp] [] [] pos) (tTryAs X.K B i tb th) := by
  intro pins s σ H D I h
  refine wpAny_Try_except (thn (hb pins s σ H D _ _ I (fun e s1 u => ?_) h) fun f s1 q => ?_)
  · obtain ⟨a, T, cls, dd, H2, rfl, I1, fa, fT, na, nT, ht, C, rfl, sub, hth⟩ := u
    have st : s1.heap.FunFrames X.base (X.env :: X.outer) := hs ▸ I1.stack
    refine note_next (by rw [I1.ok.frames, hs]) st hf ht fun h3 T3 G3 n3 t3 => fly_off t3 fun h4 k4 t4 => ?_
    have G4 := G3.off k4 (.inl n3) (new_notIn n3 st)
    have ok4 : HOk X.prog X.w H2 h4 := HOk.gone I1.hok G4 na (fun b z => by rw [List.mem_singleton.mp z]; exact nT) (hs ▸ I1.stkFree)
    have I4 : Inv X pins σ H2 { s1 with heap := h4 } := I1.flown (t' := s1.toks) hx hs hf (hs ▸ G4) fa (fun b z => by rw [List.mem_singleton.mp z]; exact fT) na (.inl rfl) ok4
    obtain ⟨oe, vs, oT, tt, e1, e2, _⟩ := id t4
    refine wpAny_handleBy_cons (codeAny_handlers_test (ld_glob (I4.hand a) hg hm (exc_match I4.kIn b sub e1 e2 (codeAny_handlers_suite_as (fly_off t4 fun h5 k5 t5 => ?_))) hd)) (by intro q; cases q)
    have G5 := G4.off k5 (.inl n3) (new_notIn n3 st)
    have ok5 : HOk X.prog X.w H2 h5 := HOk.gone I1.hok G5 na (fun b z => by rw [List.mem_singleton.mp z]; exact nT) (hs ▸ I1.stkFree)
    have I5 : Inv X pins σ (upd H2 a (ExO a C dd)) { s1 with heap := h5 } := I1.flown (t' := s1.toks) hx hs hf (hs ▸ G5) fa (fun b z => by rw [List.mem_singleton.mp z]; exact fT) na (.inr ⟨_, rfl⟩) (ok5.take na (exo_ok t5))
    refine store_ok I5 hN hi (.inl hk) (show RelV (.ref a) (.ref a) from rfl) (fun s6 I6 => ?_) hfn
    refine wpAny_mono (hh a pins s6 _ _ _ (I6.hand a) (hth a na)) (fun f s7 q => ?_) fun _ _ z => z.elim
    cases f with
    | next =>
      obtain ⟨σ', H', I', q⟩ := q
      exact forget_ok (I'.unhand I.ok) hN hi hk fun s8 I8 => ⟨_, H', I8, q⟩
    | brk =>
      obtain ⟨σ', H', I', q⟩ := q
      exact forget_ok (I'.unhand I.ok) hN hi hk fun s8 I8 => ⟨_, H', I8, q⟩
    | cont =>
      obtain ⟨σ', H', I', q⟩ := q
      exact forget_ok (I'.unhand I.ok) hN hi hk fun s8 I8 => ⟨_, H', I8, q⟩
    | ret u =>
      obtain ⟨v, σ', H', I', r, q⟩ := q
      exact forget_ok (I'.unhand I.ok) hN hi hk fun s8 I8 => ⟨v, _, H', I8, r, q⟩
  · cases f with
    | next => exact wpAny_execs_nil q
    | ret v => exact q
    | brk => exact q
    | cont => exact q
end
noncomputable abbrev bmV : List Value := [.type "ValueError", .type "Exception", .type "BaseException", .type "object"]
theorem own_obj {K : PySem.W.Frag} {h : Heap} {C : Addr} {bmB : List Value} {newId : String} (X : K.In h) (q : PySem.W.excIn K C bmB newId = true) : ∃ bm N nm qn bs hdct sn sub ab col dd k0 k1 k2 k3 k5 mN,
    h.get? C = some (excClassObj nm qn C N bs bm hdct sn sub ab col dd k0 k1 k2 k3 k5 newId) ∧ h.Ns N mN ∧ mN "__init__" = none ∧ OwnTail h bmB bm := by
  unfold PySem.W.excIn at q
  split at q
  · rename_i dd cd sl ho
    split at q
    · rename_i C' bm k0 k1 k2 k3 n k5 e1 e2
      simp only [Bool.and_eq_true, beq_iff_eq, Bool.not_eq_true'] at q
      obtain ⟨⟨⟨⟨⟨c1, c2⟩, c3⟩, c4⟩, c5⟩, c6⟩ := q
      cases c1
      cases c2
      obtain ⟨nm, bs, mro, ns, qn, hd, sn, sub, ab, col, del⟩ := cd
      dsimp only at e1 c3 c5 c6
      cases e1
      cases c3
      obtain ⟨l⟩ := sl
      cases (show l = _ from e2)
      exact ⟨bm, ns, nm, qn, bs, hd, sn, sub, ab, col, dd, k0, k1, k2, k3, k5, _, X _ _ ho, .of_isNs (PySem.W.isNs_of_in X c5), PySem.W.nsMap_none_of_in X c5 c6, PySem.W.tail_of_in X c4⟩
    · cases q
  · cases q
section
variable {P : Program} {w : World} {K : PySem.W.Frag} {mg : Str → Option Value} {base : Heap} {N : List Str} {qual : Str} {scope : Scope} {f : Addr} {cd : Value} {A : Around} {outer : List Env} {s : Shared} {H : Hp} {E : XK}
end
end L2
set_option Elab.async false
set_option linter.all false
set_option maxRecDepth 100000
set_option maxHeartbeats 16000000
namespace L2
open PySem PySem.Spec PyProof.Rows XC
section
variable {prog : Program} {w : World} {A : Around} {E : Value → Shared → Prop} {s : Shared} {K : PySem.W.Frag} {x C : Addr} {ox : Obj} {od : Option Obj}
theorem exc_found (k : XK1 K C) : PySem.W.findObj K C od "__class__" = some (.bind (.builtin "getset_descriptor.__get__") (.builtin "object.__class__")) := by
  obtain ⟨cd, hc⟩ := Option.isSome_iff_exists.mp k.cl
  unfold PySem.W.findObj
  rw [hc, Option.bind_some, k.ca, Option.bind_some]
  simp [k.gd, k.tk]
theorem exc_check {M : Model} {tk : Tok} {n : Str} {Q : Unit → Shared → Prop} (k : XK1 K C) (X : K.In s.heap) (I : PySem.W.InstAt s.heap x ox C od) (h : Q () s) : wpAny M A (checkBuiltinCall "BaseException.__getattribute__" ⟨[.ref x, .str n tk], []⟩) Q E s := by
  obtain ⟨hh, g, d, t, os⟩ := s
  have hk : builtinKind "BaseException.__getattribute__" = some .slot := by decide +kernel
  have hsplit : splitId "BaseException.__getattribute__" = some ("BaseException", "__getattribute__") := by decide +kernel
  have ha := F.args_bexc_ga (.ref x) (.str n tk)
  have L1 : PySem.W.Looks M hh (isInstance (.ref x) (.type "BaseException")) true := (I.type (M := M)).andThen (PySem.W.looks_mroIn X k.base)
  simp only [checkBuiltinCall, hk, hsplit]
  refine wpAny_bind (L1.at ?_)
  simp only [Bool.not_true, Bool.false_eq_true, if_false]
  exact wpAny_of_eq ha h
theorem exc_class {Q : Option Value → Shared → Prop} (k : XK1 K C) (X : K.In s.heap) (I : PySem.W.InstAt s.heap x ox C od) (h : Q (some (.ref C)) { s with toks := s.toks + 1 }) : wpAny (model prog w) A (getAttr? (.ref x) "__class__") Q E s := by
  obtain ⟨hh, g, d, t, os⟩ := s
  have L0 := I.type (M := model prog w)
  have L1 := PySem.W.looks_findIn (M := model prog w) X k.ga
  have L2 := PySem.W.looks_findIn (M := model prog w) X k.gt
  have L3 := PySem.W.looks_find (M := model prog w) X I (exc_found k)
  unfold getAttr? getAttrBy? getAttrBy
  refine wpAny_bind (wpAny_mkText (wpAny_bind (wpAny_attempt (wpAny_holding (wpAny_bind (L0.at (wpAny_bind (L1.at ?_))))))))
  dsimp only
  rw [if_neg (by rw [show (Value.builtin "BaseException.__getattribute__" == Value.builtin "object.__getattribute__") = false by decide +kernel, Bool.and_false]; exact Bool.false_ne_true)]
  unfold getAttrByItsOwn hookBefore
  rw [if_pos (show onTheHeap (Value.ref C) = true from rfl)]
  refine wpAny_bind (L2.at (wpAny_bind (wpAny_attempt (wpAny_holding ?_))))
  unfold callGetattribute boundAndCalled
  rw [if_neg (by rw [Bool.false_and]; exact Bool.false_ne_true)]
  refine wpAny_bind (wpAny_of_eq (F.excAttr_ValueError.ga.bind _) ?_)
  refine wpAny_call (codeAny_call_builtin F.excAttr_ValueError.ga.plain F.entry_bexc_ga (exc_check k X I ?_))
  unfold Builtin.«object.__getattribute__»
  refine wpAny_bind (wpAny_of_eq (a := (Value.ref x, [Value.str "__class__" t])) rfl (wpAny_bind (wpAny_of_eq (a := ("__class__" : Str)) rfl (wpAny_bind (L0.at (wpAny_bind (L3.at ?_)))))))
  show wpAny _ _ (holding [Value.builtin "object.__class__"] (call (.builtin "getset_descriptor.__get__") [.builtin "object.__class__", .ref x, .ref C]) >>= ret) _ _ _
  refine wpAny_bind (wpAny_holding (wpAny_call (PySem.W.class_get (s := ⟨hh, g, d, t + 1, os⟩) X I k.ob (wpAny_pure ?_))))
  show wpAny _ _ (handedOut (.ref C)) _ _ _
  exact PySem.W.handed_on rfl (wpAny_pure h)
end
theorem kitx_exc {K : PySem.W.Frag} {x C : Addr} (k : XK1 K C) : PySem.W.KitX K (.ref x) (.ref C) (fun h => ∃ ox od, PySem.W.InstAt h x ox C od) where
  ty := fun _ _ _ ⟨_, _, I⟩ => I.type
  it := fun _ _ X _ => looks_isType X k.cl
  ne := fun h tp dd its n sl X htp => by
    refine Bool.eq_false_iff.mpr fun q => ?_
    have e : C = tp := Value.ref.inj (beq_iff_eq.mp q)
    subst e
    have z := k.cl
    unfold PySem.W.clsIn at z
    split at z
    · rename_i ho
      have z2 := (X _ _ ho).symm.trans htp
      cases z2
    · cases z
  ca := fun X ⟨_, _, I⟩ q => exc_class k X I q
inductive ExC (K : PySem.W.Frag) (H : Hp) (t : Value) : V → Bool → Prop
  | one {B : Addr} {b : Bool} (e : PySem.W.kitOne K t (.ref B) = some b) : ExC K H t (.ref B) b
  | ty {T : String} {b : Bool} (e : PySem.W.kitOne K t (.type T) = some b) : ExC K H t (.ty T) b
  | tup {p : Addr} {Bs : List Addr} {b : Bool} (h : H p = some (.tup (Bs.map V.ref))) (e : PySem.W.kitAny K t (Bs.map Value.ref) = some b) : ExC K H t (.ref p) b
noncomputable def DictThere (H : Hp) : Option Addr → Prop
  | none => True
  | some dx => ∃ u, H dx = some u
theorem vals_refs : ∀ {Bs : List Addr} {its : List Value}, Vals (Bs.map V.ref) its → its = Bs.map Value.ref
  | [], _, .nil => rfl
  | B :: r, _, .cons h t => by
    rw [vals_refs t, show _ = Value.ref B from h]
    rfl
theorem exo_inst {P : Program} {w : World} {H : Hp} {h : Heap} {a C : Addr} {dd : Option Addr} (ok : HOk P w H h) (ha : H a = some (ExO a C dd)) (hd : DictThere H dd) : ∃ ox od, PySem.W.InstAt h a ox C od := by
  obtain ⟨⟨o, vs, h1, h2, h3, h4, _⟩, _⟩ := ok a _ ha
  have nc : PySem.W.notCls o = true := by unfold PySem.W.notCls; rw [h4]
  cases dd with
  | none => exact ⟨o, none, h1, h2, nc, by rw [h3]; trivial⟩
  | some dx =>
    obtain ⟨u, hu⟩ := hd
    obtain ⟨od, q⟩ := (ok dx u hu).there
    exact ⟨o, some od, h1, h2, nc, by rw [h3]; exact q⟩
theorem call_isinstE {X : Cx} : CallR X (.builtin "isinstance") (fun xs H Q => ∃ a C dd c b, xs = [.ref a, c] ∧ H a = some (ExO a C dd) ∧ DictThere H dd ∧ XK1 X.K C ∧ ExC X.K H (.ref C) c b ∧ Q (.bl b) H) := by
  intro pins s σ H xs us Q I r h
  obtain ⟨a, C, dd, c, b, rfl, ha, hd, k, hc, q⟩ := h
  obtain ⟨u, w', rfl, rx, ry⟩ := vals2 r
  cases (show u = Value.ref a from rx)
  have J := exo_inst I.hok ha hd
  cases hc with
  | @one B b e =>
    cases (show w' = Value.ref B from ry)
    exact PySem.W.kia_one (kitx_exc k) I.kIn J e (fun z => nomatch z) fun tk => ⟨.bl b, H, I.tok _, rfl, q⟩
  | @ty T b e =>
    cases (show w' = Value.type T from ry)
    exact PySem.W.kia_one (kitx_exc k) I.kIn J e (fun z => nomatch z) fun tk => ⟨.bl b, H, I.tok _, rfl, q⟩
  | @tup p Bs b hp e =>
    cases (show w' = Value.ref p from ry)
    obtain ⟨_, its, rv, ⟨oc, od, oda, osl⟩, e1, e2, n, e3⟩ := (show ObjOk X.prog X.w H s.heap p (.tup (Bs.map V.ref)) from I.hok p _ hp)
    dsimp only at e2 e3
    subst e2 e3
    rw [vals_refs rv] at e1
    exact PySem.W.kia_tup (kitx_exc k) I.kIn J e1 e (fun z => nomatch z) fun tk => ⟨.bl b, H, I.tok _, rfl, q⟩
theorem boot_ValueError : bootBuiltins "ValueError" = some (.type "ValueError") := by kernel_rfl
end L2
set_option Elab.async false
set_option linter.all false
set_option maxRecDepth 100000
set_option maxHeartbeats 16000000
namespace L2
open PySem PySem.Spec PyProof.Rows XC
inductive OverV : List Value → Prop
  | base : OverV bmV
  | own {c : Addr} {l : List Value} : OverV l → OverV (.ref c :: l)
theorem OverV.pass (self : Value) {l : List Value} (h : OverV l) : refuseLoop self "__setattr__" l = pure () := by
  induction h with
  | base => exact F.store_ValueError.passes self
  | own _ ih => rw [refuseLoop_ref]; exact ih
structure XF (K : PySem.W.Frag) (C : Addr) (f : Str) : Prop where
  cd : ∃ cd, PySem.W.clsIn K C = some cd ∧ OverV cd.mro ∧ cd.hasDict = true
  sa : PySem.W.findIn K (.ref C) "__setattr__" = some (some (.builtin "object.__setattr__"))
  no : PySem.W.findIn K (.ref C) f = some none
section
variable {prog : Program} {w : World} {A : Around} {E : Value → Shared → Prop} {s : Shared} {K : PySem.W.Frag} {x C : Addr} {o : Obj} {vs : Array Value} {f : Str} {v : Value}
theorem exc_set {Q : Unit → Shared → Prop} (k : XK1 K C) (xf : XF K C f) (X : K.In s.heap) (hx : s.heap.get? x = some o) (hc : o.cls = .ref C) (hd : o.dict = none) (hv : o.data = .fields vs)
    (h : ∀ h' dx tk, dx = s.heap.objs.size → (∀ b u, b ≠ x → s.heap.get? b = some u → h'.get? b = some u) → h'.get? x = some { o with dict := some dx } → dx ≠ x → h'.Ns1 dx (fun y => if y = f then some v else none) → Q () { s with heap := h', toks := tk }) :
    wpAny (model prog w) A (setAttr (.ref x) f v) Q E s := by
  obtain ⟨hh, g, d, t, os⟩ := s
  obtain ⟨cd, c1, c2, c3⟩ := xf.cd
  have SF := F.store_ValueError
  have L0 : PySem.W.Looks (model prog w) hh (typeOf (.ref x)) (.ref C) := hc ▸ (PySem.W.Looks.ld hx).andThen .now
  have L1 := PySem.W.looks_findIn (M := model prog w) X xf.sa
  have L2 := PySem.W.looks_findIn (M := model prog w) X xf.no
  have L3 : PySem.W.Looks (model prog w) hh (mroOf (.ref C)) cd.mro := (PySem.W.looks_clsIn X c1).andThen .now
  have L4 : PySem.W.Looks (model prog w) hh (isInstance (.ref x) (.type "object")) true := L0.andThen (PySem.W.looks_mroIn X k.ob)
  unfold setAttr callSpecial? specialOf
  refine wpAny_bind (wpAny_mkText (wpAny_bind (wpAny_bind (wpAny_bind (L0.at (L1.at ?_))))))
  refine wpAny_holding (wpAny_bind (wpAny_of_eq (SF.slot.bind (.ref x)) ?_))
  refine wpAny_bind (wpAny_call (codeAny_call_builtin SF.slot.plain SF.entry (@PySem.W.check_slot (model prog w) _ _ ⟨hh, g, d, t + 1, os⟩ "object.__setattr__" "object" "__setattr__" (.ref x) [.str f t, v] [] _ SF.kind SF.split L4 (SF.args (.ref x) (.str f t) v) ?_)))
  show wpAny _ _ (Builtin.«object.__setattr__» ⟨[.ref x, .str f t, v], []⟩) _ _ _
  rw [PySem.W.osa_eq, refuse_eq]
  refine wpAny_bind (wpAny_bind (L0.at (wpAny_bind (L3.at ?_))))
  rw [c2.pass]
  refine wpAny_pure (wpAny_bind (L0.at (wpAny_bind (L2.at (wpAny_bind (wpAny_pure ?_))))))
  show wpAny _ _ (Builtin.ObjectAttr.storeInOwnDict (.ref x) (.ref C) (.str f t) f v false) _ _ _
  obtain ⟨oc, od, oda, osl⟩ := o
  dsimp only at hc hd hv
  subst hc hd hv
  refine wpAny_bind (wpAny_pure (wpAny_bind (wpAny_bind (wpAny_loadPart hx (wpAny_bind ((PySem.W.looks_clsIn X c1).at ?_))))))
  rw [c3]
  have hx1 : (hh.push { cls := .type "dict", data := .dict #[] }).get? x = some ⟨.ref C, none, .fields vs, osl⟩ := Heap.get?_push_of_some _ hx
  have hxs : x ≠ hh.objs.size := Nat.ne_of_lt (Heap.lt_size hx)
  refine wpAny_bind (wpAny_alloc' (wpAny_bind (wpAny_update' hx1 (wpAny_pure ?_))))
  have gx : ((hh.push { cls := .type "dict", data := .dict #[] }).update x fun o => { o with dict := some hh.objs.size }).get? x = some ⟨.ref C, some hh.objs.size, .fields vs, osl⟩ := Heap.get?_update_self _ hx1 rfl
  have gd : ((hh.push { cls := .type "dict", data := .dict #[] }).update x fun o => { o with dict := some hh.objs.size }).get? hh.objs.size = some { cls := .type "dict", data := .dict #[] } := by
    rw [Heap.get?_update_other _ _ hxs]
    exact Heap.get?_push_size _ rfl
  have ko : ∀ b u, b ≠ x → hh.get? b = some u → ((hh.push { cls := .type "dict", data := .dict #[] }).update x fun o => { o with dict := some hh.objs.size }).get? b = some u := fun b u z q => by
    rw [Heap.get?_update_other _ _ (Ne.symm z)]
    exact Heap.get?_push_of_some _ q
  show wpAny _ _ (Builtin.ObjectAttr.storeInDict hh.objs.size (.str f t) f v) _ _ ⟨(hh.push { cls := .type "dict", data := .dict #[] }).update x fun o => { o with dict := some hh.objs.size }, g, d, t + 1, os⟩
  generalize ((hh.push { cls := .type "dict", data := .dict #[] }).update x fun o => { o with dict := some hh.objs.size }) = h2 at gx gd ko
  have nd : h2.Ns hh.objs.size (fun _ => none) := ⟨_, #[], _, gd, rfl, fun e he => absurd he (by simp), fun _ => rfl⟩
  unfold Builtin.ObjectAttr.storeInDict Builtin.ObjectAttr.newKeyGuard
  refine wpAny_bind (wpAny_pure (wpAny_bind (wpAny_nsSet1 (Heap.Ns1.of_empty nd) fun h3 n3 S3 => ?_)))
  obtain ⟨oD, esD, epD, a1, a2, a3⟩ := n3.count (Within.cons f v Within.nil)
  refine wpAny_bind (wpAny_lookBehind a1 (by rw [a2]; exact pastItsLine_dict (Nat.le_trans a3 (by rw [List.length_cons, List.length_nil, sizeLine_eq]; omega))) ?_)
  refine wpAny_pure (wpAny_pure (wpAny_pure ?_))
  refine h h3 hh.objs.size _ rfl (fun b u z q => ?_) ((S3.2 x hxs).trans gx) (Ne.symm hxs) n3
  exact (S3.2 b (Nat.ne_of_lt (Heap.lt_size q))).trans (ko b u z q)
theorem exc_get {Q : Value → Shared → Prop} {expr : Bool} {dx : Addr} {mA : Str → Option Value} (k : XK1 K C) (xf : XF K C f) (X : K.In s.heap) (hx : s.heap.get? x = some o) (hc : o.cls = .ref C) (hd : o.dict = some dx) (hv : o.data = .fields vs) (hn : s.heap.Ns1 dx mA) (hf : mA f = some v) (hh : PySem.W.handedIn v = true)
    (h : ∀ tk, Q v { s with toks := tk }) : wpAny (model prog w) A (getAttr (.ref x) f expr) Q E s := by
  obtain ⟨hp, g, d, t, os⟩ := s
  obtain ⟨cd, c1, c2, c3⟩ := xf.cd
  obtain ⟨od, es, ep, n1, n2, n3, n4, n5⟩ := id hn
  have I : PySem.W.InstAt hp x o C (some od) := ⟨hx, hc, by unfold PySem.W.notCls; rw [hv], by rw [hd]; exact n1⟩
  have lk : PySem.W.lookIn f od = some (some v) := by
    unfold PySem.W.lookIn
    rw [n2]
    have q := n5 f
    rw [hf] at q
    unfold nsFind findBy at q
    obtain ⟨en, q1, q2⟩ := Option.map_eq_some_iff.mp q
    dsimp only
    rw [← Array.find?_toList] at q1
    rw [q1]
    exact congrArg (fun z => some (some z)) q2
  have fo : PySem.W.findObj K C (some od) f = some (.value v) := by
    unfold PySem.W.findObj
    rw [c1, Option.bind_some, xf.no, Option.bind_some]
    simp [PySem.W.ownOf, c3, lk]
  have L0 := I.type (M := model prog w)
  have L1 := PySem.W.looks_findIn (M := model prog w) X k.ga
  have L2 := PySem.W.looks_findIn (M := model prog w) X k.gt
  have L3 := PySem.W.looks_find (M := model prog w) X I fo
  unfold getAttr getAttrBy
  refine wpAny_bind (wpAny_mkText (wpAny_holding (wpAny_bind (L0.at (wpAny_bind (L1.at ?_))))))
  dsimp only
  rw [if_neg (by rw [show (Value.builtin "BaseException.__getattribute__" == Value.builtin "object.__getattribute__") = false by decide +kernel, Bool.and_false]; exact Bool.false_ne_true)]
  unfold getAttrByItsOwn hookBefore
  rw [if_pos (show onTheHeap (Value.ref C) = true from rfl)]
  refine wpAny_bind (L2.at (wpAny_bind (wpAny_attempt (wpAny_holding ?_))))
  unfold callGetattribute boundAndCalled
  rw [if_neg (by rw [show onTheHeap (Value.builtin "BaseException.__getattribute__") = false from rfl, Bool.and_false]; exact Bool.false_ne_true)]
  refine wpAny_bind (wpAny_of_eq (F.excAttr_ValueError.ga.bind _) ?_)
  refine wpAny_call (codeAny_call_builtin F.excAttr_ValueError.ga.plain F.entry_bexc_ga (exc_check k X I ?_))
  unfold Builtin.«object.__getattribute__»
  refine wpAny_bind (wpAny_of_eq (a := (Value.ref x, [Value.str f t])) rfl (wpAny_bind (wpAny_of_eq (a := f) rfl (wpAny_bind (L0.at (wpAny_bind (L3.at (wpAny_pure ?_))))))))
  show wpAny _ _ (handedOut v) _ _ _
  exact PySem.W.handed_on hh (h _)
end
section
variable {prog : Program} {w : World} {A : Around} {E : Value → Shared → Prop} {h : Heap} {g : Array GenState} {d : Drawn} {t : Nat} {os : OsState}
variable {nm q : Str} {C N e : Addr} {bs bm : List Value} {hdct : Bool} {sn : List Str} {sub : List Value} {ab : Bool} {col : Option Bool} {dd : Option Addr} {k0 k1 k2 k3 k5 : Option Value} {oe : Obj} {vs : Array Value} {v : Value}
theorem exc_init {Q : Value → Shared → Prop} (hC : h.get? C = some (excClassObj nm q C N bs bm hdct sn sub ab col dd k0 k1 k2 k3 k5 "ValueError.__new__")) (T : OwnTail h bmV bm) (he : h.get? e = some oe) (hc : oe.cls = .ref C) (hd : oe.data = .fields vs) {a0 : Addr} (h0 : vs[0]? = some (.ref a0))
    (k : ∀ h' t', h.get? t' = none → (∀ b o, b ≠ e → h.get? b = some o → h'.get? b = some o) → h'.get? e = some (oe.mapFields (·.setIfInBounds 0 (.ref t'))) → Q .none ⟨h', g, d, t, os⟩) :
    wpAny (model prog w) A (call (.builtin "ValueError.__init__") [.ref e, v]) Q E ⟨h, g, d, t, os⟩ := by
  refine wpAny_call (codeAny_call_builtin F.excBase_ValueError.init.plain F.excBase_ValueError.initEntry (wpAny_check_init_subT F.excBase_ValueError T hC he hc ?_))
  iterate 12 (first | wp_step | skip)
  have he2 := Heap.get?_push_of_some { cls := .type "tuple", data := .seq #[v] } he
  unfold Builtin.BaseException.bexcPut
  refine wpAny_bind (wpAny_field he2 hd h0 (wpAny_bind (wpAny_setField he2 hd (Array.getElem?_eq_some_iff.mp h0).1 ?_)))
  wp_walk
  refine k _ h.objs.size (Heap.get?_none_of_le (Nat.le_refl _)) (fun b o z qb => ?_) (Heap.get?_update_self _ he2 (Obj.isFreed_of_fields (Obj.data_mapFields hd _)))
  rw [Heap.get?_update_other _ _ (Ne.symm z)]
  exact Heap.get?_push_of_some _ qb
end
section
variable {prog : Program} {w : World} {A : Around} {E : Value → Shared → Prop} {h : Heap} {g : Array GenState} {d : Drawn} {t : Nat} {os : OsState}
variable {nm q : Str} {C N fI : Addr} {bs bm : List Value} {hdct : Bool} {sn : List Str} {sub : List Value} {ab : Bool} {col : Option Bool} {dd : Option Addr} {k0 k1 k2 k3 k5 : Option Value} {oI : Obj} {rest : List Value}
theorem exc_tcall {Q : Fin → Shared → Prop} (hC : h.get? C = some (excClassObj nm q C N bs bm hdct sn sub ab col dd k0 k1 k2 k3 k5 "ValueError.__new__")) (T : OwnTail h bmV bm) (hl : PySem.W.Looks (model prog w) h (typeLookup (.ref C) "__init__") (some (.ref fI)))
    (hf : h.get? fI = some oI) (hc : oI.cls = .type "function") (hz : rest.length ≤ sizeLine)
    (k : ∀ h' e, Heap.MadeExcOf h h' e (.ref C) rest → wpAny (model prog w) A (call (.ref fI) (.ref e :: rest)) (fun r s' => r = .none ∧ Q (.done (.ret (.ref e))) s') E ⟨h', g, d, t, os⟩) :
    wpAny (model prog w) A (Builtin.«type.__call__» ⟨.ref C :: rest, []⟩) Q E ⟨h, g, d, t, os⟩ := by
  iterate 60 (first | with_reducible refine wpAny_loadPart_at hC ?_ | with_reducible refine wpAny_madeBy_exc hC ?_ | wp_step | skip)
  refine codeAny_call_builtin_code (Code.quiet_builtin _ F.excBase_ValueError.quiet) (wpAny_check_new_subT F.excBase_ValueError T hC (codeAny_exc_new_subT F.excBase_ValueError T hC ?_ hz))
  have kp : ∀ b o, h.get? b = some o → ((h.push { cls := .type "tuple", data := .seq rest.toArray }).push { cls := .ref C, data := .fields #[.ref h.objs.size, .none, .none, .none, .bool false, .none] }).get? b = some o := fun b o e => Heap.get?_push_of_some _ (Heap.get?_push_of_some _ e)
  have gt : ((h.push { cls := .type "tuple", data := .seq rest.toArray }).push { cls := .ref C, data := .fields #[.ref h.objs.size, .none, .none, .none, .bool false, .none] }).get? h.objs.size = some { cls := .type "tuple", data := .seq rest.toArray } := Heap.get?_push_of_some _ (Heap.get?_push_size _ rfl)
  have ge : ((h.push { cls := .type "tuple", data := .seq rest.toArray }).push { cls := .ref C, data := .fields #[.ref h.objs.size, .none, .none, .none, .bool false, .none] }).get? (h.objs.size + 1) = some { cls := .ref C, data := .fields #[.ref h.objs.size, .none, .none, .none, .bool false, .none] } := by
    rw [show h.objs.size + 1 = (h.push { cls := .type "tuple", data := .seq rest.toArray }).objs.size from (Heap.size_push _ _).symm]
    exact Heap.get?_push_size _ rfl
  have M := Heap.MadeExcOf.mk (h := h) (e := h.objs.size + 1) (cls := .ref C) (args := rest) kp (Heap.get?_none_of_le (Nat.le_succ _)) ⟨h.objs.size, ge, Heap.get?_none_of_le (Nat.le_refl _), gt⟩
  generalize (h.push { cls := .type "tuple", data := .seq rest.toArray }).push { cls := .ref C, data := .fields #[.ref h.objs.size, .none, .none, .none, .bool false, .none] } = h1 at kp gt ge M ⊢
  generalize h.objs.size + 1 = e at ge M ⊢
  have L0 : PySem.W.Looks (model prog w) h1 (typeOf (.ref e)) (.ref C) := (PySem.W.Looks.ld ge).andThen .now
  have L1 := hl.keeps kp
  show wpAny _ _ _ _ _ _
  refine wpAny_bind ?_
  unfold isInstance
  refine wpAny_bind (L0.at (wpAny_isSubtype_exc (kp _ _ hC) ?_))
  rw [show (Value.ref C :: bm).contains (Value.ref C) = true by simp]
  simp only [Bool.not_true, Bool.false_eq_true, if_false]
  unfold callSpecial? specialOf
  refine wpAny_bind (wpAny_holding (wpAny_bind (wpAny_bind (L0.at (L1.at (wpAny_holding (wpAny_bind ?_)))))))
  unfold bindSpecial
  refine wpAny_bind (wpAny_typeOf (show (⟨h1, g, d, t, os⟩ : Shared).TypeIs (.ref fI) "function" from ⟨_, kp _ _ hf, hc⟩) ?_)
  rw [if_pos (by decide)]
  refine wpAny_pure (wpAny_bind (wpAny_mono (k h1 e M) (fun r s' z => ?_) fun _ _ z => z))
  obtain ⟨z1, z2⟩ := z
  subst z1
  refine wpAny_pure ?_
  dsimp only
  rw [if_neg (by decide)]
  exact wpAny_pure z2
theorem exc_make {Q : Value → Shared → Prop} (hC : h.get? C = some (excClassObj nm q C N bs bm hdct sn sub ab col dd k0 k1 k2 k3 k5 "ValueError.__new__")) (T : OwnTail h bmV bm) (hl : PySem.W.Looks (model prog w) h (typeLookup (.ref C) "__init__") (some (.ref fI)))
    (hf : h.get? fI = some oI) (hc : oI.cls = .type "function") (hz : rest.length ≤ sizeLine)
    (k : ∀ h' e, Heap.MadeExcOf h h' e (.ref C) rest → wpAny (model prog w) (A.under (.builtin "type.__call__" ⟨.ref C :: rest, []⟩)) (call (.ref fI) (.ref e :: rest)) (fun r s' => r = .none ∧ Q (.ref e) s') E ⟨h', g, d, t, os⟩) :
    wpAny (model prog w) A (call (.ref C) rest) Q E ⟨h, g, d, t, os⟩ := by
  have f1 := tc_lookup
  have f2 := tc_bind (.ref C)
  have hT : (⟨h, g, d, t, os⟩ : Shared).TypeIs (.ref C) "type" := ⟨_, hC, rfl⟩
  refine wpAny_call (codeAny_of_tree ?_)
  show wpAny _ _ (callAny (.ref C) _) _ _ _
  repeat (any_goals (first | wp_step | assumption | with_reducible refine wpAny_loadPart_at hC ?_))
  refine ⟨rfl, codeAny_call_builtin_at (Code.quiet_builtin _ (by decide +kernel)) entry_typeCall (wpAny_check_type_call_sub hC (exc_tcall hC T hl hf hc hz fun h' e m => k h' e m))⟩
end
end L2
set_option Elab.async false
set_option linter.all false
set_option maxRecDepth 100000
set_option maxHeartbeats 16000000
namespace L2
open PySem PySem.Spec PyProof.Rows XC
noncomputable def ExN (a C : Addr) (dd : Option Addr) : HO := .ext fun h => ∃ o vs a0, h.get? a = some o ∧ o.cls = .ref C ∧ o.dict = dd ∧ o.data = .fields vs ∧ vs[0]? = some (.ref a0) ∧ vs[1]? = some .none ∧ vs[2]? = some .none ∧ 4 < vs.size
structure XI (K : PySem.W.Frag) (C fI : Addr) : Prop where
  obj : ∃ B N nm q bs hdct sn sub ab col dd k0 k1 k2 k3 k5, K.lookup C = some (excClassObj nm q C N bs (.ref B :: bmV) hdct sn sub ab col dd k0 k1 k2 k3 k5 "ValueError.__new__") ∧ PySem.W.excIn K B bmV "ValueError.__new__" = true
  ini : PySem.W.findIn K (.ref C) "__init__" = some (some (.ref fI))
  fn : PySem.W.isFn K (.ref fI) = true
theorem XI.here {K : PySem.W.Frag} {h : Heap} {C fI : Addr} (x : XI K C fI) (X : K.In h) : ∃ N nm q bs bm hdct sn sub ab col dd k0 k1 k2 k3 k5, h.get? C = some (excClassObj nm q C N bs bm hdct sn sub ab col dd k0 k1 k2 k3 k5 "ValueError.__new__") ∧ OwnTail h bmV bm := by
  obtain ⟨B, N, nm, q, bs, hdct, sn, sub, ab, col, dd, k0, k1, k2, k3, k5, e, b⟩ := x.obj
  obtain ⟨_, _, _, _, _, _, _, _, _, _, _, _, _, _, _, _, mN, hB, hN, hni, _⟩ := own_obj X b
  exact ⟨N, nm, q, bs, _, hdct, sn, sub, ab, col, dd, k0, k1, k2, k3, k5, X _ _ e, .own hB hN hni .base⟩
theorem upd_self {H : Hp} {a : Addr} {o : HO} (h : H a = some o) : upd H a o = H := by
  funext b
  unfold upd
  by_cases e : b = a
  · rw [if_pos e, e, h]
  · rw [if_neg e]
structure XB (K : PySem.W.Frag) (B : Addr) : Prop where
  ga : PySem.W.specialIn K (.ref B) "__getattribute__" = some (some (.builtin "type.__getattribute__"))
  rd : PySem.W.readsIn K B (.type "type") = true
  fc : PySem.W.findCls K (.ref B) (.type "type") "__init__" = some (.val (.builtin "ValueError.__init__"))
section
variable {X : Cx} {b : Str} {B : Addr} {bp apos pos spos : Pos} {e1 e2 : Expr} {ta : TA}
noncomputable def tInitB (K : PySem.W.Frag) (ta : TA) : TS := fun D σ H => ta σ H fun vs H1 => ∃ x C fI v, vs = [.ref x, v] ∧ H1 x = some (ExN x C none) ∧ XI K C fI ∧ D.nx σ H1
theorem ps_initB {pl : Sem Bool} (hg : Gl X b) (hm : X.mg b = some (.ref B)) (xb : XB X.K B) (ha : PA X [e1, e2] ta) (hd : (b == ("__debug__" : Str)) = false := by decide)
    (hs : swapsWith (.Call (.Attribute (.Name b bp) "__init__" apos) [e1, e2] [] pos) none spos.line X.env = pure false := by rfl)
    (he : starEach [e1, e2] X.env = (false, eval e1 X.env) :: starEach [e2] X.env := by rfl) (hpl : (backTo pos (starEach [e2] X.env)).any (·.1) = false := by rfl)
    (ht : eval (.Call (.Attribute (.Name b bp) "__init__" apos) [e1, e2] [] pos) X.env = (do
      let ov ← eval (.Name b bp) X.env
      standAt apos.atName
      let (f, first) ← holding [ov] (getMethod ov "__init__" pl)
      callWith pos f first (backTo pos (starEach [e1, e2] X.env)) (backToKw pos (keywordEach [] X.env))) := by rfl) :
    PS X (.Expr (.Call (.Attribute (.Name b bp) "__init__" apos) [e1, e2] [] pos) spos) (tInitB X.K ta) := by
  intro pins s σ H D I h
  refine wpAny_Expr_any (Q := SP X pins D) ?_ I.quiet hs
  refine PySem.W.methodCall_KW (pl := pl) (ld_glob I hg hm ?_ hd) ht
  refine PySem.W.method_cls I.kIn xb.ga (PySem.W.cls_value I.kIn xb.rd xb.fc rfl ?_)
  refine PyProof.Rows.callWith_builtin1 (thn (ha pos pins _ σ H _ (I.tok _) h) fun us s1 ⟨vs, H1, I1, r, x, C, fI, v, ev, hx, xi, q⟩ => ?_) he hpl
  subst ev
  obtain ⟨u1, u2, rfl, r1, r2⟩ := vals2 r
  cases (show u1 = Value.ref x from r1)
  obtain ⟨⟨o, fs, a0, o1, o2, o3, o4, o5, o6, o7⟩, _⟩ := I1.hok x _ hx
  obtain ⟨N, nm, q', bs, bm, hdct, sn, sub, ab, col, dd, k0, k1, k2, k3, k5, hC, T⟩ := xi.here I1.kIn
  obtain ⟨hh, g, d, t, os⟩ := s1
  refine exc_init hC T o1 o2 o4 o5 fun h' t' _ kp hx' => ?_
  have d2 := Obj.data_mapFields o4 (·.setIfInBounds 0 (Value.ref t'))
  have J : Inv X pins σ (upd H1 x (ExN x C none)) { (⟨hh, g, d, t, os⟩ : Shared) with heap := h', toks := t } := I1.write (e := x) (by rw [hx]; trivial) (.inl rfl) kp ⟨_, hx'⟩ ⟨⟨_, _, t', hx', (Obj.cls_mapFields _ _).trans o2, (dict_map o4).trans o3, d2, ?_, ?_, ?_⟩, ⟨_, hx'⟩, fun g1 g2 ⟨o, vs, a0, q, r⟩ k => ⟨o, vs, a0, k o q, r⟩⟩
  · rw [upd_self hx] at J
    exact ⟨σ, H1, J, q⟩
  · rw [Array.getElem?_setIfInBounds_self, if_pos (Array.getElem?_eq_some_iff.mp o5).1]
  · rw [Array.getElem?_setIfInBounds_ne (by decide)]
    exact o6
  · exact ⟨by rw [Array.getElem?_setIfInBounds_ne (by decide)]; exact o7.1, by rw [Array.size_setIfInBounds]; exact o7.2⟩
end
section
variable {X : Cx} {o value : Expr} {f : Str} {ta tv : TE} {pos pos' : Pos}
noncomputable def sFldX (K : PySem.W.Frag) (ta tv : TE) (f : Str) : TS := fun D σ H => tv σ H fun y H1 => ta σ H1 fun x H2 => ∃ a C, x = .ref a ∧ H2 a = some (ExN a C none) ∧ XK1 K C ∧ XF K C f ∧ ∀ dx, H2 dx = none → D.nx σ (upd (upd H2 dx (.xd [(f, y)])) a (ExN a C (some dx)))
theorem ps_fldX (ha : PE X o ta) (hv : PE X value tv) (hs : swapsWith value (some (.Attribute o f pos')) pos.line X.env = pure false) : PS X (.Assign [.Attribute o f pos'] value pos) (sFldX X.K ta tv f) := by
  intro pins s σ H D I h
  refine plainObj_wpAny_Assign_Attribute (thn (hv pins s σ H _ I h) fun u s1 ⟨y, H1, I1, ry, q⟩ => thn (ha pins s1 σ H1 _ I1 q) fun ov s2 ⟨x, H2, I2, rx, a, C, ex, hx, k, xf, q2⟩ => ?_) hs
  subst ex
  obtain rfl : ov = Value.ref a := rx
  obtain ⟨⟨ob, fs, a0, o1, o2, o3, o4, o5, o6, o7⟩, _⟩ := I2.hok a _ hx
  refine exc_set k xf I2.kIn o1 o2 o3 o4 fun h' dx tk edx kp hx' ne ns => ?_
  have fr : H2 dx = none := I2.hok.fresh (by rw [edx]; exact Nat.le_refl _)
  have lt : ∀ b u, s2.heap.get? b = some u → b ≠ dx := fun b u q z => by rw [z, edx] at q; exact absurd (Heap.lt_size q) (Nat.lt_irrefl _)
  have hne : ∀ b u, H2 b = some u → b ≠ dx := fun b u q => ne_of_none q fr
  have other : ∀ b, b ≠ a → b ≠ dx → upd (upd H2 dx (.xd [(f, y)])) a (ExN a C (some dx)) b = H2 b := fun b z1 z2 => by rw [upd_ne z1, upd_ne z2]
  have old : ∀ b v, H2 b = some v → v ≠ ExN a C none → b ≠ a := fun b v q z w => by rw [w, hx] at q; exact z (Option.some.inj q).symm
  refine ⟨σ, _, I2.un (t' := tk) ⟨fun b u q n _ _ => kp b u (fun z => by rw [z, hx] at n; cases n) q, fun b u q n _ _ => ⟨u.slots, kp b u (fun z => by rw [z, hx] at n; cases n) q⟩, fun b u q n _ => ?_, fun b u q _ => ?_, fun b xs q => ?_, fun b u xs q => ?_, fun b ps q => ⟨#[], ?_⟩⟩ fun b u q => ?_, q2 dx fr⟩
  · rw [other b (fun z => by rw [z, hx] at n; cases n) (lt b u q)]
    exact n
  · by_cases z : b = a
    · exact ⟨_, z ▸ hx'⟩
    · exact ⟨u, kp b u z q⟩
  · rw [other b (old b _ q (by intro z; cases z)) (hne b _ q)]
    exact q
  · rw [other b (old b _ q (by intro z; cases z)) (hne b _ q)]
    exact q
  · rw [other b (old b _ q (by intro z; cases z)) (hne b _ q), q]
    simp
  · by_cases z1 : b = a
    · subst z1
      rw [upd_same] at q
      cases q
      exact ⟨⟨_, fs, a0, hx', o2, rfl, o4, o5, o6, o7⟩, ⟨_, hx'⟩, fun g1 g2 ⟨o, vs, a0, q, r⟩ k => ⟨o, vs, a0, k o q, r⟩⟩
    · by_cases z2 : b = dx
      · subst z2
        rw [upd_ne z1, upd_same] at q
        cases q
        refine ⟨_, ns, fun y' => ?_⟩
        by_cases ey : y' = f
        · subst ey
          rw [if_pos rfl, List.lookup_cons]
          simp [RelO]
          exact ry
        · rw [if_neg ey, List.lookup_cons]
          rw [show (y' == f) = false from by simpa using ey]
          simp [RelO]
      · rw [other b z1 z2] at q
        refine (I2.hok b u q).stay (fun c v hc r => kp c v ?_ r) (fun c r => ?_) fun c xs r => ?_
        · rcases hc with hc | hc
          · rw [hc]; exact z1
          · exact old c _ hc (by intro z; cases z)
        · rw [other c (old c _ r (by intro z; cases z)) (hne c _ r)]
          exact r
        · rw [other c (old c _ r (by intro z; cases z)) (hne c _ r)]
          exact r
noncomputable def tFldX (K : PySem.W.Frag) (ta : TE) (f : Str) : TE := fun σ H Q => ta σ H fun x H1 => ∃ a C dx fs v, x = .ref a ∧ H1 a = some (ExO a C (some dx)) ∧ H1 dx = some (.xd fs) ∧ XK1 K C ∧ XF K C f ∧ fs.lookup f = some v ∧ Q v H1
theorem handed_rel {v : V} {u : Value} (r : RelV v u) : PySem.W.handedIn u = true := by
  cases v with
  | non => cases (show u = _ from r); rfl
  | bl b => cases (show u = _ from r); rfl
  | int i => obtain ⟨t, rfl⟩ := r; rfl
  | str x => obtain ⟨t, rfl⟩ := r; rfl
  | byt x => obtain ⟨t, rfl⟩ := r; rfl
  | flt x => obtain ⟨t, rfl⟩ := r; rfl
  | ref a => cases (show u = _ from r); rfl
  | ty n => cases (show u = _ from r); rfl
theorem pe_fldX {e : Expr} (he : PE X e ta) (hb : attributeBase e f X.env (eval e X.env) = eval e X.env) : PE X (.Attribute e f pos) (tFldX X.K ta f) := by
  intro pins s σ H Q I h
  refine attr_of hb (thn (he pins s σ H _ I h) fun u s1 ⟨x, H1, I1, rx, a, C, dx, fs, v, ex, hx, hdx, k, xf, l, q⟩ => ?_)
  subst ex
  obtain rfl : u = Value.ref a := rx
  obtain ⟨⟨ob, vs, o1, o2, o3, o4, _⟩, _⟩ := I1.hok a _ hx
  obtain ⟨mA, ns, rel⟩ := I1.hok dx _ hdx
  have rf := rel f
  rw [l] at rf
  cases em : mA f with
  | none => rw [em] at rf; exact False.elim rf
  | some w =>
    rw [em] at rf
    exact exc_get k xf I1.kIn o1 o2 o3 o4 ns em (handed_rel rf) fun tk => ⟨v, H1, I1.tok _, rf, q⟩
end
end L2
set_option Elab.async false
set_option linter.all false
set_option maxRecDepth 100000
set_option maxHeartbeats 16000000
namespace L2
open PySem PySem.Spec PyProof.Rows XC
noncomputable def dropH (H : Hp) (a : Addr) : Hp := fun b => if b = a then none else H b
theorem drop_ne {H : Hp} {a b : Addr} (h : b ≠ a) : dropH H a b = H b := by unfold dropH; rw [if_neg h]
theorem drop_none {H : Hp} {a b : Addr} (h : H b = none) : dropH H a b = none := by unfold dropH; split <;> first | rfl | exact h
theorem drop_some {H : Hp} {a b : Addr} {o : HO} (h : dropH H a b = some o) : b ≠ a ∧ H b = some o := by
  unfold dropH at h
  split at h
  · cases h
  · rename_i z
    exact ⟨z, h⟩
theorem Inv.drop {X : Cx} {pins : List (Addr × Obj)} {σ : St} {H : Hp} {s : Shared} {a : Addr} {φ : Heap → Prop} (I : Inv X pins σ H s) (h : H a = some (.ext φ)) : Inv X pins σ (dropH H a) s := by
  have keep : ∀ b o, H b = some o → o ≠ .ext φ → dropH H a b = some o := fun b o q z => by
    rw [drop_ne fun w => by rw [w, h] at q; exact z (Option.some.inj q).symm]
    exact q
  refine ⟨I.ok, I.os, I.bare, ⟨fun b o q n => I.base.keep b o q n, fun b o q n => I.base.slot b o q n, fun b o q n hx => drop_none (I.base.free b o q n hx), I.base.there, fun b xs q => keep b _ (I.base.tups b xs q) (by intro z; cases z), fun b o xs q => keep b _ (I.base.frzs b o xs q) (by intro z; cases z), fun b ps q => ?_⟩, I.loc, I.cell, drop_none I.free, fun x c e => drop_none (I.freeC x c e), fun p hp => ?_, fun b o q => ?_, I.len⟩
  · obtain ⟨more, e⟩ := I.base.tbls b ps q
    exact ⟨more, keep b _ e (by intro z; cases z)⟩
  · obtain ⟨e, n, r⟩ := I.pin p hp
    exact ⟨e, drop_none n, r⟩
  · obtain ⟨z, q⟩ := drop_some q
    exact (I.hok b o q).stay (fun _ _ _ r => r) (fun c r => keep c _ r (by intro z; cases z)) fun c xs r => keep c _ r (by intro z; cases z)
theorem exc_raise {M : Model} {A : Around} {E : Value → Shared → Prop} {s : Shared} {K : PySem.W.Frag} {C : Addr} {env : Env} {x : Sem Value} {Q : Flow → Shared → Prop} (hh : A.handled = none) (k : XK1 K C)
    (h : wpAny M A x (fun v s1 => ∃ e oe vs, v = .ref e ∧ K.In s1.heap ∧ s1.heap.get? e = some oe ∧ oe.cls = .ref C ∧ oe.data = .fields vs ∧ vs[1]? = some .none ∧ E (.ref e) s1) E s) : wpAny M A (raiseStmt env (some x) none) Q E s := by
  unfold raiseStmt
  refine wpAny_bind (wpAny_mono h (fun v s1 z => ?_) fun _ _ z => z)
  obtain ⟨e, oe, vs, rfl, X, he, hc, hd, h1, hE⟩ := z
  obtain ⟨hp, g, d, t, os⟩ := s1
  have L0 : PySem.W.Looks M hp (typeOf (.ref e)) (.ref C) := hc ▸ (PySem.W.Looks.ld he).andThen .now
  have L1 : PySem.W.Looks M hp (isType (.ref e)) false := by
    intro A' Q' E' s' kp q
    unfold isType loadHead
    refine wpAny_bind (wpAny_loadPart (kp _ _ he) ?_)
    rw [hd]
    exact wpAny_pure q
  have L2 : PySem.W.Looks M hp (isInstance (.ref e) (.type "BaseException")) true := L0.andThen (PySem.W.looks_mroIn X k.base)
  have L3 := PySem.W.looks_typeIn (M := M) X k.ty
  refine wpAny_bind (wpAny_pure (wpAny_bind (wpAny_holding ?_)))
  unfold excFromValue isExcClass
  refine wpAny_bind (wpAny_bind (L1.at ?_))
  simp only [Bool.false_eq_true, if_false]
  refine wpAny_pure (wpAny_bind (L2.at ?_))
  simp only [if_true]
  refine wpAny_pure ?_
  refine wpAny_bind (L1.at ?_)
  simp only [Bool.false_eq_true, if_false]
  unfold raisedInstance
  refine wpAny_bind (wpAny_bind (L0.at (wpAny_bind (L3.at ?_))))
  rw [if_pos (by decide)]
  refine wpAny_pure (wpAny_bind ?_)
  unfold setFlight
  refine wpAny_bind (wpAny_field he hd h1 ?_)
  rw [if_neg (by decide)]
  exact wpAny_pure (wpAny_raiseNew_none hh hE)
noncomputable def spInit (C : Addr) (f : Str) : Sp := fun vs H Q _ => ∃ e v, vs = [.ref e, v] ∧ H e = some (ExN e C none) ∧ ∀ dx, H dx = none → Q .non (upd (upd H dx (.xd [(f, v)])) e (ExN e C (some dx)))
structure XCl (P : Program) (w : World) (K : PySem.W.Frag) (mg : Str → Option Value) (base : Heap) (k : Nat) (C : Addr) (f : Str) (ps : List Str) : Prop where
  ex : ∃ fI fd, FnOk P w K mg base CX0 k fI fd ps (spInit C f) ∧ XI K C fI ∧ PySem.W.keepIn K (.ref C) = true ∧ Binds K fd ps []
noncomputable def HasX (K : PySem.W.Frag) (C : Addr) (qual : Str) (st : Stmt) : Prop := ∃ f fd, Fun K "__init__" qual st f fd ∧ XI K C f ∧ PySem.W.keepIn K (.ref C) = true
theorem XCl.of {P : Program} {w : World} {K : PySem.W.Frag} {mg : Str → Option Value} {base : Heap} {C : Addr} {f qual : Str} {st : Stmt} {N ps : List Str} {k : Nat} (T : HasX K C qual st) (S : FnScope N ps (defScope st)) (hps : ps.length = 2)
    (hb : ∀ (kV doc pm : Value) (an : Option Addr) (cdv ct : Value) (us : List Value), us.length = ps.length → bindArgs (PySem.W.fnOf "__init__" qual (defArgs st) (defBody st) (defScope st) .none kV doc pm an cdv ct) ⟨us, []⟩ = pure (ps.zip us))
    (hbody : ∀ (f' : Addr) (cdv : Value) (A : Around) (outer : List Env) (s : Shared) (H : Hp) (vs : List V) (Q : VK) (E : XK), XI K C f' → Room k (A.deeper (envOfC qual (defScope st) s.heap.objs.size f' cdv)) → spInit C f vs H Q E →
      ∃ t, PSs (cxOf CX0 P w K mg base N qual (defScope st) f' cdv A outer s H E).nox (defBody st) t ∧ t { nx := fun _ H' => Q .non H', rt := Q } (start N vs) H) : XCl P w K mg base (k + 1) C f ps := by
  obtain ⟨fI, fd, F, x, kp⟩ := T
  refine ⟨fI, fd, F.ok S (fun vs H Q E h => ?_) (fun cdv A outer s H vs Q E => hbody fI cdv A outer s H vs Q E x), x, kp, F.binds hb⟩
  obtain ⟨e, v, rfl, _⟩ := h
  exact hps.symm
section
variable {P : Program} {w : World} {K : PySem.W.Frag} {mg : Str → Option Value} {base : Heap} {N : List Str} {qual : Str} {scope : Scope} {f : Addr} {cd : Value} {A : Around} {outer : List Env} {s : Shared} {H : Hp} {E : XK}
theorem ps_raise1 {x : Str} {C : Addr} {fl : Str} {ps : List Str} {j k : Nat} {e1 : Expr} {ta : TA} {np cpos pos : Pos} (M : XCl P w K mg base j C fl ps) (hr : Room k (cxOf (CXe P w) P w K mg base N qual scope f cd A outer s H E).A) (hg : Gl (cxOf (CXe P w) P w K mg base N qual scope f cd A outer s H E) x) (hm : mg x = some (.ref C)) (k1 : XK1 K C)
    (ha : PA (cxOf (CXe P w) P w K mg base N qual scope f cd A outer s H E) [e1] ta) (hjk : j + 1 ≤ k := by decide) (hd : (x == ("__debug__" : Str)) = false := by decide)
    (he : starEach [e1] (cxOf (CXe P w) P w K mg base N qual scope f cd A outer s H E).env = (false, eval e1 (cxOf (CXe P w) P w K mg base N qual scope f cd A outer s H E).env) :: starEach [] (cxOf (CXe P w) P w K mg base N qual scope f cd A outer s H E).env := by rfl) :
    PS (cxOf (CXe P w) P w K mg base N qual scope f cd A outer s H E) (.Raise (some (.Call (.Name x np) [e1] [] cpos)) none pos) (fun _ σ H' => ta σ H' fun vs H2 => ∃ v, vs = [v] ∧ ∀ dx, H2 dx = none → E (.ref C) (some dx) (upd H2 dx (.xd [(fl, v)]))) := by
  intro pins s1 σ H1 D I h
  obtain ⟨fI, fd, F, xi, kp, hb⟩ := M.ex
  rw [arm_exec_Raise]
  refine wpAny_bind (wpAny_standAt (exc_raise (K := K) (C := C) (I.ok.hd rfl) k1 ?_))
  refine wpAny_bind (wpAny_mono (wpAny_Call_Name_kw (ld_glob I hg hm ?_ hd)) (fun v s2 z => wpAny_bind (wpAny_standAt (wpAny_pure z))) fun _ _ z => z)
  refine PySem.W.callWith_K (h₀ := base) I.ok.mod.kin kp (thn (ha cpos pins s1 σ H1 _ I h) fun us s2 ⟨vs, H2, I2, r, v, ev, q⟩ => ⟨I2.kIn, ?_⟩) he rfl
  subst ev
  obtain ⟨u, rfl, ru⟩ := vals1 r
  obtain ⟨N', nm, q', bs, bm, hdct, sn, sub, ab, col, dd, k0, k1', k2, k3, k5, hC, T⟩ := xi.here I2.kIn
  have tf : PySem.W.typeIn K (.ref fI) = some (.type "function") := beq_iff_eq.mp xi.fn
  obtain ⟨oI, hI, cI⟩ := Option.map_eq_some_iff.mp tf
  obtain ⟨hh, g, d, t, os⟩ := s2
  refine exc_make hC T (PySem.W.looks_findIn I2.kIn xi.ini) (I2.kIn _ _ hI) cI (by show 1 ≤ sizeLine; decide) fun h' e m => ?_
  have G : Gone (cxOf (CXe P w) P w K mg base N qual scope f cd A outer s H E).stack e [] hh h' := ⟨fun b o q _ _ _ => m.keeps b o q, fun b o q _ => ⟨o.slots, m.keeps b o q⟩⟩
  have ne : H2 e = none := HOk.un_at I2.hok m.new
  obtain ⟨t0, ge, _⟩ := m.there
  have I3 : Inv (cxOf (CXe P w) P w K mg base N qual scope f cd A outer s H E) pins σ (upd H2 e (ExN e C none)) ⟨h', g, d, t, os⟩ := I2.flown (t' := t) rfl rfl rfl G (I2.fr1 rfl m.new) (fun b z => by cases z) ne (.inr ⟨_, rfl⟩) ((I2.hok.kept m.keeps).take ne ⟨⟨_, _, t0, ge, rfl, rfl, rfl, rfl, rfl, rfl, (by show 4 < 6; decide)⟩, ⟨_, ge⟩, fun g1 g2 ⟨o, vs, a0, q, r⟩ k => ⟨o, vs, a0, k o q, r⟩⟩)
  have hsp : spInit C fl [.ref e, v] (upd H2 e (ExN e C none)) (fun v' H' => v' = .non ∧ ∃ dx, H2 dx = none ∧ dx ≠ e ∧ H' = upd (upd (upd H2 e (ExN e C none)) dx (.xd [(fl, v)])) e (ExN e C (some dx))) E0 := ⟨e, v, rfl, upd_same, fun dx hdx => by
    have z : dx ≠ e := fun z => by rw [z, upd_same] at hdx; cases hdx
    rw [upd_ne z] at hdx
    exact ⟨rfl, dx, hdx, z, rfl⟩⟩
  refine wpAny_call (codeAny_mono (F.run _ (cxOf (CXe P w) P w K mg base N qual scope f cd A outer s H E).stack ⟨h', g, d, t, os⟩ _ ⟨[.ref e, u], []⟩ [.ref e, u] [.ref e, v] _ E0 ((hr.mono hjk).make C [u] []) (I3.env0.make C [u] []) (hb _ [.ref e, u] I3.kIn (F.len _ _ _ _ hsp)) (.cons rfl (.cons ru .nil)) hsp) fun r s3 hq => ?_)
  cases r with
  | error z => exact False.elim hq
  | ok fw =>
    cases fw with
    | next => exact False.elim hq
    | brk => exact False.elim hq
    | cont => exact False.elim hq
    | ret uu =>
      obtain ⟨v', H', I4, rv, ev, dx, hdx, ne2, eH⟩ := I3.after hq
      subst ev
      subst eH
      obtain ⟨⟨oe, fs, a0, o1, o2, o3, o4, o5, o6, o7⟩, _⟩ := I4.hok e _ upd_same
      refine ⟨rv, e, oe, fs, rfl, I4.kIn, o1, o2, o4, o6, ?_⟩
      have I5 := I4.drop (a := e) upd_same
      have eD : dropH (upd (upd (upd H2 e (ExN e C none)) dx (.xd [(fl, v)])) e (ExN e C (some dx))) e = upd H2 dx (.xd [(fl, v)]) := by
        funext b
        by_cases z : b = e
        · rw [z]
          unfold dropH
          rw [if_pos rfl, upd_ne (Ne.symm ne2), ne]
        · rw [drop_ne z, upd_ne z]
          by_cases z2 : b = dx
          · rw [z2, upd_same, upd_same]
          · rw [upd_ne z2, upd_ne z2, upd_ne z]
      rw [eD] at I5
      exact fly_first I5 o1 o4 o6 o7.1 (I2.up rfl m.new) (by rw [upd_ne (Ne.symm ne2)]; exact ne) (by rw [o2, o3]; exact q dx hdx)
end
end L2
set_option Elab.async false
set_option linter.all false
set_option maxRecDepth 100000
set_option maxHeartbeats 16000000
namespace XC
open PySem
section
variable {M : Model} {A : Around} {E : Value → Shared → Prop} {s : Shared}
end
end XC
namespace L2
open PySem PySem.Spec PyProof.Rows XC
section
variable {P : Program} {w : World} {K : PySem.W.Frag} {mg : Str → Option Value} {base : Heap} {N : List Str} {qual : Str} {scope : Scope} {f : Addr} {cd : Value} {A : Around} {outer : List Env} {s : Shared} {H : Hp} {E : XK} {pins : List (Addr × Obj)} {σ : St} {H' : Hp} {s' : Shared}
end
section
variable {X : Cx} {tg elt iter : Expr} {ifs : List Expr} {sc : Scope} {pos : Pos} {M : List Str} {ρ : List (Option Nat)} {wi : TI} {g : TG} {tt : TT} {te : TE}
end
section
variable {P : Program} {w : World} {K : PySem.W.Frag} {mg : Str → Option Value} {base : Heap} {N' : List Str} {qual : Str} {scope : Scope} {f : Addr} {cd : Value} {A : Around} {outer : List Env} {s0 : Shared} {H0 : Hp} {E : XK}
variable {tg elt iter : Expr} {ifs : List Expr} {sc : Scope} {pos : Pos} {M : List Str} {ρ : List (Option Nat)} {wi : TI} {g : TG} {tt : TT} {te : TE}
end
end L2
set_option Elab.async false
set_option linter.all false
set_option maxRecDepth 100000
set_option maxHeartbeats 16000000
namespace L2
open PySem XC
section
variable {P : Program} {w : World} {K : PySem.W.Frag} {mg : Str → Option Value} {base : Heap} {N' : List Str} {qual : Str} {scope : Scope} {f : Addr} {cd : Value} {A : Around} {outer : List Env} {s0 : Shared} {H0 : Hp} {E : XK}
variable {tg elt iter : Expr} {ifs : List Expr} {sc : Scope} {pos : Pos} {M : List Str} {ρ : List (Option Nat)} {wi : TI} {g : TG} {tt : TT} {te : TE}
end
end L2
set_option Elab.async false
set_option linter.all false
set_option maxRecDepth 100000
set_option maxHeartbeats 16000000
namespace L2
open PySem PySem.Spec PyProof.Rows
noncomputable def EqD (K : PySem.W.Frag) (H : Hp) : Nat → V → V → Prop
  | 0, x, y => x = y ∧ flatV x = true
  | n + 1, x, y => (x = y ∧ flatV x = true) ∨ ∃ a b xs ys, x = .ref a ∧ y = .ref b ∧ SqT K H a xs ∧ SqT K H b ys ∧ Paired (EqD K H n) xs ys
theorem val_at {xs : List V} {its : List Value} (r : Vals xs its) {j : Nat} {x : V} (h : xs[j]? = some x) (hj : j < its.toArray.size) : RelV x its.toArray[j] := by
  obtain ⟨w1, g1, rw1⟩ := r.get h
  have : its[j]? = some its.toArray[j] := by simp at hj; simp [hj]
  rw [g1] at this
  rw [← Option.some.inj this]
  exact rw1
theorem eqD_items {X : Cx} {pins : List (Addr × Obj)} {s : Shared} {σ : St} {H : Hp} {A : Around} {n : Nat} {xs ys : List V} {js js2 : List Value} (hP : Paired (EqD X.K H n) xs ys) (q1 : Vals xs js) (q2 : Vals ys js2)
    (ih : ∀ x y v u, EqD X.K H n x y → RelV x v → RelV y u → SeqAt.EqAt A s v u true) : ∀ j (j1 : j < js.toArray.size) (j2 : j < js2.toArray.size), SeqAt.EqAt A s js.toArray[j] js2.toArray[j] true := by
  intro j j1 j2
  have m1 := q1.length
  have m2 := q2.length
  have k1 : j < xs.length := by simp at j1; omega
  obtain ⟨y, hy, hd⟩ := Paired.get? hP (List.getElem?_eq_getElem k1)
  exact ih _ _ _ _ hd (val_at q1 (List.getElem?_eq_getElem k1) j1) (val_at q2 hy j2)
theorem eqD_at {X : Cx} {pins : List (Addr × Obj)} {s : Shared} {σ : St} {H : Hp} (I : Inv X pins σ H s) : ∀ (n : Nat) (A : Around), A.units + n < cLine → ∀ x y v u, EqD X.K H n x y → RelV x v → RelV y u → SeqAt.EqAt A s v u true
  | 0, A, hu, x, y, v, u, h, rx, ry => by
    obtain ⟨rfl, f⟩ := h
    have := eqAt_V (A := A) (s := s) rx ry f f
    rw [eqV_refl f] at this
    exact this
  | n + 1, A, hu, x, y, v, u, h, rx, ry => by
    rcases h with ⟨rfl, f⟩ | ⟨a, b, xs, ys, rfl, rfl, ha, hb, hP⟩
    · have := eqAt_V (A := A) (s := s) rx ry f f
      rw [eqV_refl f] at this
      exact this
    · cases rx
      cases ry
      by_cases e : a = b
      · subst e
        exact SeqAt.EqAt.same _
      · obtain ⟨js, q1, pt1, _⟩ := I.tuple ha
        obtain ⟨js2, q2, pt2, _⟩ := I.tuple hb
        have m1 := q1.length
        have m2 := q2.length
        have hl := Paired.length hP
        have R := SeqAt.RcAt.tuples (A := A) (e := fun _ => true) (show s.heap.IsTuple a js.toArray from pt1) (show s.heap.IsTuple b js2.toArray from pt2) (by omega) (eqD_items (X := X) (pins := pins) (σ := σ) hP q1 q2 (eqD_at I n A.in1 (by show A.units + 1 + n < cLine; omega)))
        have e2 : ((List.range (min js.toArray.size js2.toArray.size)).all (fun _ => true) && js.toArray.size == js2.toArray.size) = true := by
          have : js.toArray.size = js2.toArray.size := by simp; omega
          simp [this]
        rw [e2] at R
        exact SeqAt.EqAt.of_refs e R
theorem op_eqD {X : Cx} (n : Nat) (hu : X.A.units + 1 + n < cLine) : OpR X (compareOp .Eq) (fun x y H Q => ∃ a b xs ys, x = .ref a ∧ y = .ref b ∧ SqT X.K H a xs ∧ SqT X.K H b ys ∧ Paired (EqD X.K H n) xs ys ∧ Q (.bl true) H) := by
  intro pins s σ H x y v u Q I rx ry h
  obtain ⟨a, b, xs, ys, rfl, rfl, ha, hb, hP, q⟩ := h
  cases rx
  cases ry
  obtain ⟨its, r1, p1, _⟩ := I.tuple ha
  obtain ⟨its2, r2, p2, _⟩ := I.tuple hb
  have hl1 := r1.length
  have hl2 := r2.length
  have hl := Paired.length hP
  refine SeqAt.eq_tupleAt (e := fun _ => true) (show s.heap.IsTuple a its.toArray from p1) (show s.heap.IsTuple b its2.toArray from p2) (by omega) (eqD_items (X := X) (pins := pins) (σ := σ) hP r1 r2 (eqD_at I n X.A.in1 hu)) ?_
  have e : ((List.range (min its.toArray.size its2.toArray.size)).all (fun _ => true) && its.toArray.size == its2.toArray.size) = true := by
    have : its.toArray.size = its2.toArray.size := by simp; omega
    simp [this]
  rw [e]
  exact ⟨.bl true, H, I, rfl, q⟩
end L2
set_option Elab.async false
set_option linter.all false
set_option maxRecDepth 100000
set_option maxHeartbeats 16000000
namespace L2
open PySem PySem.Spec PyProof.Rows
section
variable {X : Cx}
end
end L2
set_option Elab.async false
set_option linter.all false
set_option maxRecDepth 100000
set_option maxHeartbeats 16000000
namespace L2
open PySem PySem.Spec PyProof.Rows
section
variable {X : Cx} {c : Expr} {a b : List Stmt} {tc : TT} {ta tb : XK → TS} {pos : Pos}
theorem PT.noxW {t : TT} (h : PT X.nox c t) (xe1 : Value → Shared → Prop) : PT (X.wish xe1) c t := fun pins s σ H Q I hw =>
  wpAny_mono (h pins s σ H Q (I.wish _) hw) (fun d s1 ⟨H1, I1, q1⟩ => ⟨H1, I1.wish _, q1⟩) fun _ _ e => e.elim
theorem tb_if (hc : PT X.nox c tc) (ha : TBody X a ta) (hb : TBody X b tb) : TBody X [.If c a b pos] (fun E => tIfS tc (ta E) (tb E)) := by
  intro pins s σ H D E xe1 I hu h
  refine wpAny_execs_cons (thn (Q := fun f s1 => SP X pins D f s1) (wpAny_If (thn (PT.noxW hc xe1 pins s σ H _ (I.wish _) h) fun d s1 ⟨H1, I1, q1⟩ => ?_)) fun f s1 q => ?_)
  · cases d with
    | true => exact ha pins s1 σ H1 D E xe1 (I1.wish _) hu q1
    | false => exact hb pins s1 σ H1 D E xe1 (I1.wish _) hu q1
  · cases f with
    | next => exact wpAny_execs_nil q
    | ret v => exact q
    | brk => exact q
    | cont => exact q
end
end L2
set_option Elab.async false
set_option linter.all false
set_option maxRecDepth 100000
set_option maxHeartbeats 16000000
namespace SLL
open PySem PySem.W PySem.SeqAt PyProof.Rows
open AutoSeq1 (wpAny_loadPart')
open MeetsSeq MeetsSeq2 MeetsSeq3
theorem lt_loop0 (l b : Addr) (items items2 : Array Value) (n n2 : Nat) (dd dd2 : Option Addr) (sl sl2 : Array (Option Value)) (x y : Int) (t u : Tok) (h0 : items[0]? = some (.int x t)) (h1 : items2[0]? = some (.int y u)) (hne : x ≠ y) :
    Meets (Builtin.«list.__eq__.loop» ⟨[.ref l, .ref b, rawInt 0, rawInt 0], []⟩)
      (fun A R s => s.heap.get? l = some { cls := .type "list", dict := dd, data := .seq items n, slots := sl } ∧ s.heap.get? b = some { cls := .type "list", dict := dd2, data := .seq items2 n2, slots := sl2 } ∧
        EqAt A.in1 s (.int x t) (.int y u) false ∧
        R (.ok (.ret (.bool (decide (x < y))))) s) := by
  intro prog w A R s h
  obtain ⟨hp, g, d, tk, os⟩ := s; obtain ⟨hl, hb, he, h⟩ := h
  wp_walk using wpAny_loadPart' hl, wpAny_loadPart' hb
  have hi1 : items[(0 : Int).toNat]? = some (.int x t) := h0
  have hi2 : items2[(0 : Int).toNat]? = some (.int y u) := h1
  rw [hi1, hi2]
  refine wpAny_bind (he prog w _ _ ?_)
  wp_walk using wpAny_loadPart' hl, wpAny_loadPart' hb
  rw [hi1, hi2]
  refine wpAny_bind (show wpAny (model prog w) A.in1 (compareOp .Lt (.int x t) (.int y u)) _ _ _ from P.lt_int ?_)
  wp_walk
  exact h
theorem list_lt0 (l b : Addr) (items items2 : Array Value) (n n2 : Nat) (dd dd2 : Option Addr) (sl sl2 : Array (Option Value)) (x y : Int) (t u : Tok) (h0 : items[0]? = some (.int x t)) (h1 : items2[0]? = some (.int y u)) (hne : x ≠ y) :
    Meets (Builtin.«list.__lt__» ⟨[.ref l, .ref b], []⟩)
      (fun A R s => s.heap.get? l = some { cls := .type "list", dict := dd, data := .seq items n, slots := sl } ∧ s.heap.get? b = some { cls := .type "list", dict := dd2, data := .seq items2 n2, slots := sl2 } ∧
        EqAt A.in1 s (.int x t) (.int y u) false ∧
        R (.ok (.ret (.bool (decide (x < y))))) s) := by
  intro prog w A R s h
  obtain ⟨hp, g, d, tk, os⟩ := s; obtain ⟨hl, hb, he, h⟩ := h
  have f3 := AutoSeq1.sub_list_list
  wp_walk using wpAny_loadPart' hl, wpAny_loadPart' hb
  exact ⟨plainId_quiet plain_eq_loop _, codeAny_builtin entry_eq_loop (by
    rw [Around.under_plainId plain_eq_loop _]
    exact lt_loop0 l b items items2 n n2 dd dd2 sl sl2 x y t u h0 h1 hne prog w A R _ ⟨hl, hb, he, h⟩)⟩
noncomputable def run {α : Type} (f : Nat → Nat → Bool) : KasT α → α
  | .ret a => a
  | .ask i j k => run f (k (f i j))
noncomputable def asked {α : Type} (f : Nat → Nat → Bool) (n : Nat) : KasT α → Bool
  | .ret _ => true
  | .ask i j k => decide (i < n) && decide (j < n) && !decide (i = j) && asked f n (k (f i j))
theorem run_wp {α : Type} {f : Nat → Nat → Bool} {n : Nat} {cmp : Nat → Nat → (Bool → Shared → Prop) → Shared → Prop} {s : Shared} (hc : ∀ i j C, i < n → j < n → i ≠ j → C (f i j) s → cmp i j C s) : ∀ (t : KasT α) (Q : α → Shared → Prop), asked f n t = true → Q (run f t) s → t.kasWp cmp Q s
  | .ret a, Q, _, h => h
  | .ask i j k, Q, ha, h => by
    unfold asked at ha
    rw [Bool.and_eq_true, Bool.and_eq_true, Bool.and_eq_true, decide_eq_true_eq, decide_eq_true_eq] at ha
    exact hc i j _ ha.1.1.1 ha.1.1.2 (by simpa using ha.1.2) (run_wp hc (k (f i j)) Q ha.2 h)
section
variable {prog : Program} {w : World} {A : Around} {E : Value → Shared → Prop} {s : Shared}
structure LstI (h : Heap) (a : Addr) (x : Int) : Prop where
  ex : ∃ (dd : Option Addr) (items : Array Value) (n : Nat) (sl : Array (Option Value)) (t : Tok), h.get? a = some { cls := .type "list", dict := dd, data := .seq items n, slots := sl } ∧ items[0]? = some (.int x t)
theorem lt_lists {a b : Addr} {x y : Int} {Q : Bool → Shared → Prop} (hu : A.units < cLine) (ha : LstI s.heap a x) (hb : LstI s.heap b y) (hne : x ≠ y) (h : Q (decide (x < y)) s) : wpAny (model prog w) A (keyLt' oneType' (.ref a) (.ref b)) Q E s := by
  obtain ⟨dd, items, n, sl, t, ha, h0⟩ := ha.ex
  obtain ⟨dd2, items2, n2, sl2, u, hb, h1⟩ := hb.ex
  rw [keyLt'_oneType, oneLt'_eq]
  simp only [if_true]
  refine wpAny_bind (wpAny_cRoomFor hu ?_)
  refine wpAny_bind (wpAny_callSpecialIfBound?_slot (T := "list") (id := "list.__lt__") ⟨_, ha, rfl⟩ F.slot_list_lt ?_)
  refine call_meets F.slot_list_lt ⟨_, ha, rfl⟩ F.entry_list_lt (F.args_list_lt_2 _ _) (list_lt0 a b items items2 n n2 dd dd2 sl sl2 x y t u h0 h1 hne) ⟨ha, hb, ?_, ?_⟩
  · have e : L2.eqV (.int x) (.int y) = false := by simp [L2.eqV, hne]
    have := L2.eqAt_V (A := A.in1) (s := s) (y := .int x) (x := .int y) (u := .int x t) (v := .int y u) ⟨t, rfl⟩ ⟨u, rfl⟩ rfl rfl
    rw [e] at this
    exact this
  · exact wpAny_truthy_bool h
noncomputable def outOf (f : Nat → Nat → Bool) (vs : List Value) : List Value := if vs.length < 2 then vs else (run f (kas_sort vs.length)).toList.map fun i => vs.getD i Value.none
theorem list_sort_kas {a : Addr} {vs : List Value} {n : Nat} {P : Fin → Shared → Prop} {f : Nat → Nat → Bool} (ho : s.heap.get? a = some (seqObj "list" vs.toArray n)) (h64 : vs.length < 64)
    (hT : ∀ v ∈ vs, ∃ b, v = .ref b ∧ b ≠ a ∧ ∃ o, s.heap.get? b = some o ∧ o.cls = .type "list")
    (hc : ∀ (h' : Heap), (∀ b o, b ≠ a → s.heap.get? b = some o → h'.get? b = some o) → ∀ i j C, i < vs.length → j < vs.length → i ≠ j → C (f i j) { s with heap := h' } → kas_ask prog w A oneType' vs i j C { s with heap := h' })
    (hlen : ((run f (kas_sort vs.length)).size = vs.length ∧ asked f vs.length (kas_sort vs.length) = true) ∨ vs.length < 2)
    (h : P (.done (.ret .none)) { s with heap := sortedHeap s.heap a vs (outOf f vs).toArray }) :
    wpAny (model prog w) A (Builtin.«list.sort» ⟨[.ref a], []⟩) P E s := by
  rw [list_sort_plain]
  have ha : a < s.heap.objs.size := Heap.lt_size ho
  refine wpAny_bind (listItems_at ho rfl ?_)
  refine wpAny_bind (listUpdate_at ho rfl ?_)
  obtain ⟨e1, ho1⟩ : ∃ e1, (s.heap.update a (Obj.mapSeq fun _ => #[])).get? a = some (seqObj "list" #[] e1) := ⟨_, get?_update_seq ho (fun _ => #[])⟩
  refine wpAny_bind (seqEpoch_at ho1 rfl ?_)
  refine wpAny_bind (wpAny_newTuple ?_)
  refine wpAny_bind (wpAny_newList ?_)
  refine wpAny_holding ?_
  have keep : ∀ b o, b ≠ a → s.heap.get? b = some o → (((s.heap.update a (Obj.mapSeq fun _ => #[])).push (seqObj "tuple" vs.toArray 0)).push (seqObj "list" #[] 0)).get? b = some o := fun b o hb e => by
    refine Heap.get?_push_of_some _ (Heap.get?_push_of_some _ ?_)
    rw [Heap.get?_update_ne _ _ _ _ hb]
    exact e
  have ho6 : (((s.heap.update a (Obj.mapSeq fun _ => #[])).push (seqObj "tuple" vs.toArray 0)).push (seqObj "list" #[] 0)).get? a = some (seqObj "list" #[] e1) := by
    rw [Heap.get?_push_ne _ _ _ (by rw [size_push', Heap.size_update]; exact Nat.ne_of_lt (Nat.lt_succ_of_lt ha)), Heap.get?_push_ne _ _ _ (by rw [Heap.size_update]; exact Nat.ne_of_lt ha)]
    exact ho1
  show wpAny (model prog w) A _ P E { s with heap := ((s.heap.update a (Obj.mapSeq fun _ => #[])).push (seqObj "tuple" vs.toArray 0)).push (seqObj "list" #[] 0) }
  dsimp only
  have hsz : vs.toArray.size = vs.length := by simp
  by_cases h2 : vs.toArray.size < 2
  · rw [if_pos h2, if_pos h2]
    refine wpAny_bind (wpAny_pure ?_)
    rw [StateT.run_pure]
    refine wpAny_bind (wpAny_pure ?_)
    dsimp only
    refine wpAny_bind (seqEpoch_at ho6 rfl ?_)
    refine wpAny_bind (listUpdate_at ho6 rfl ?_ (hsz2 := by rw [Array.size_map]; show (pairsOf vs).size ≤ _; rw [pairsOf_size, sizeLine_eq]; omega))
    simp only [bne_self_eq_false, Bool.false_eq_true, if_false]
    have eo : outOf f vs = vs := by unfold outOf; rw [if_pos (by rw [← hsz]; exact h2)]
    have ep : (arrOf (SortSt.mk' general' (vs.toArray.zip vs.toArray) #[] 7 none)).map (·.2) = vs.toArray := by
      show (vs.toArray.zip vs.toArray).map (·.2) = _
      apply Array.toList_inj.mp
      rw [Array.toList_map, Array.toList_zip]
      simp [List.map_snd_zip]
    rw [eo] at h
    rw [ep]
    exact wpAny_pure h
  · rw [if_neg h2, if_neg h2]
    have h2' : 2 ≤ vs.length := by omega
    have eo : outOf f vs = (run f (kas_sort vs.length)).toList.map fun i => vs.getD i Value.none := by unfold outOf; rw [if_neg (by omega)]
    have hln : (run f (kas_sort vs.length)).size = vs.length ∧ asked f vs.length (kas_sort vs.length) = true := by
      rcases hlen with z | z
      · exact z
      · omega
    refine wpAny_bind (kas_kind h2' (T := .type "list") (fun v hv => ?_) rfl rfl ?_)
    · obtain ⟨b, rfl, hb, o, hbo, hcl⟩ := hT v hv
      rw [← hcl]
      exact (Looks.ld (keep b o hb hbo)).andThen .now
    have est : SortSt.mk' oneType' (vs.toArray.zip vs.toArray) #[] 7 none = kas_st oneType' (pairsOf vs) (List.toArray (List.range vs.length)) := by
      have e := kas_range (pairsOf vs)
      rw [pairsOf_size] at e
      show SortSt.mk' oneType' (pairsOf vs) #[] 7 none = SortSt.mk' oneType' ((List.toArray (List.range vs.length)).map (kas_item (pairsOf vs))) #[] 7 none
      rw [e]
    have ask := run_wp (α := Array Nat) (f := f) (cmp := kas_ask prog w A oneType' vs) (s := { s with heap := ((s.heap.update a (Obj.mapSeq fun _ => #[])).push (seqObj "tuple" vs.toArray 0)).push (seqObj "list" #[] 0) }) (fun i j C hi hj hn hC => hc _ keep i j C hi hj hn hC) (kas_sort vs.length) (fun p s' => p = run f (kas_sort vs.length) ∧ s' = { s with heap := ((s.heap.update a (Obj.mapSeq fun _ => #[])).push (seqObj "tuple" vs.toArray 0)).push (seqObj "list" #[] 0) }) hln.2 ⟨rfl, rfl⟩
    rw [kas_ask_eq] at ask
    have rn := kas_runs (E := E) (Q := fun _ st' s' => arrOf st' = (run f (kas_sort vs.length)).map (kas_item (pairsOf vs)) ∧ failedOf st' = none ∧ s' = { s with heap := ((s.heap.update a (Obj.mapSeq fun _ => #[])).push (seqObj "tuple" vs.toArray 0)).push (seqObj "list" #[] 0) })
      h2' h64 (fun p' st' s' a1 a2 a3 a4 => ⟨by rw [a2, a4.1], a3, a4.2⟩) ask
    rw [← est] at rn
    refine wpAny_bind (wpAny_mono rn ?_ fun _ _ e => e)
    rintro ⟨⟨⟩, st'⟩ s' ⟨har, hf, rfl⟩
    dsimp only
    have hout : (arrOf st').map (·.2) = (outOf f vs).toArray := by
      apply Array.toList_inj.mp
      rw [har, eo, Array.map_map, Array.toList_map]
      exact List.map_congr_left fun i _ => by show (kas_item (pairsOf vs) i).2 = _; rw [kas_item_eq]
    rw [hout]
    refine wpAny_bind (seqEpoch_at ho6 rfl ?_)
    refine wpAny_bind (listUpdate_at ho6 rfl ?_ (hsz2 := by rw [List.size_toArray, eo, List.length_map, Array.length_toList, hln.1, sizeLine_eq]; omega))
    rw [hf]
    simp only [bne_self_eq_false, Bool.false_eq_true, if_false]
    exact wpAny_pure h
theorem sorted_kas {l : Addr} {vs : List Value} {Q : Value → Shared → Prop} {f : Nat → Nat → Bool} (hl : s.heap.IsList l vs.toArray) (h64 : vs.length < 64)
    (hT : ∀ v ∈ vs, ∃ b, v = .ref b ∧ ∃ o, s.heap.get? b = some o ∧ o.cls = .type "list")
    (hc : ∀ (h' : Heap), (∀ b o, s.heap.get? b = some o → h'.get? b = some o) → ∀ i j C, i < vs.length → j < vs.length → i ≠ j → C (f i j) { s with heap := h' } → kas_ask prog w A.in1.in1 oneType' vs i j C { s with heap := h' })
    (hlen : ((run f (kas_sort vs.length)).size = vs.length ∧ asked f vs.length (kas_sort vs.length) = true) ∨ vs.length < 2)
    (h : Q (.ref (s.heap.objs.size + 1)) { s with heap := sortedAll s.heap vs (outOf f vs).toArray }) :
    wpAny (model prog w) A (call (.builtin "sorted") [.ref l]) Q E s := by
  refine Calls.call_function_entry kind_sorted plain_sorted entry_sorted (args_sorted1 _) ?_
  unfold Builtin.«sorted»
  refine wpAny_bind (m := checkCount "sorted" 1 1 _) (wpAny_pure ?_)
  refine wpAny_bind (collect_list hl ?_)
  refine wpAny_bind (wpAny_newList ?_)
  have hsz : ((s.heap.push (seqObj "list" #[] 0)).update s.heap.objs.size (Obj.mapSeq (· ++ vs.toArray))).objs.size = s.heap.objs.size + 1 := by
    rw [Heap.size_update, size_push']
  have hoL : (((s.heap.push (seqObj "list" #[] 0)).update s.heap.objs.size (Obj.mapSeq (· ++ vs.toArray))).push (seqObj "list" vs.toArray 0)).get? (s.heap.objs.size + 1) = some (seqObj "list" vs.toArray 0) := by
    rw [← hsz]; exact Heap.get?_push_size _ rfl
  have keep : ∀ b o, s.heap.get? b = some o → (((s.heap.push (seqObj "list" #[] 0)).update s.heap.objs.size (Obj.mapSeq (· ++ vs.toArray))).push (seqObj "list" vs.toArray 0)).get? b = some o := fun b o q => by
    have hlt : b < s.heap.objs.size := Heap.lt_size q
    rw [Heap.get?_push_ne _ _ _ (by rw [hsz]; exact Nat.ne_of_lt (Nat.lt_succ_of_lt hlt)), Heap.get?_update_ne _ _ _ _ (Nat.ne_of_lt hlt), Heap.get?_push_ne _ _ _ (Nat.ne_of_lt hlt)]
    exact q
  show wpAny _ _ _ _ _ { s with heap := ((s.heap.push (seqObj "list" #[] 0)).update s.heap.objs.size (Obj.mapSeq (· ++ vs.toArray))).push (seqObj "list" vs.toArray 0) }
  rw [hsz]
  refine wpAny_bind (wpAny_holding (wpAny_call_entry slot_list_sort ⟨_, hoL, rfl⟩ entry_list_sort ?body (args_list_sort _)))
  case body =>
    refine list_sort_kas (s := { s with heap := ((s.heap.push (seqObj "list" #[] 0)).update s.heap.objs.size (Obj.mapSeq (· ++ vs.toArray))).push (seqObj "list" vs.toArray 0) }) (f := f) hoL h64 (fun v hv => ?_) (fun h' kp i j C hi hj hn hC => hc h' (fun b o e => kp b o (Nat.ne_of_lt (Nat.lt_succ_of_lt (Heap.lt_size e))) (keep b o e)) i j C hi hj hn hC) hlen ⟨_, rfl, wpAny_pure ⟨_, rfl, h⟩⟩
    obtain ⟨b, rfl, o, hb, hcl⟩ := hT v hv
    exact ⟨b, rfl, Nat.ne_of_lt (Nat.lt_succ_of_lt (Heap.lt_size hb)), o, keep b o hb, hcl⟩
end
noncomputable def rnk (r : List Nat) (n i j : Nat) : Bool := decide (i < n) && decide (j < n) && decide (r.getD i 0 < r.getD j 0)
noncomputable def fst2 : List (List Nat × List Nat) := [([0, 1], [0, 1]), ([1, 0], [1, 0])]
noncomputable def fst3 : List (List Nat × List Nat) := [([0, 1, 2], [0, 1, 2]), ([0, 2, 1], [0, 2, 1]), ([1, 0, 2], [1, 0, 2]), ([1, 2, 0], [2, 0, 1]), ([2, 0, 1], [1, 2, 0]), ([2, 1, 0], [2, 1, 0])]
theorem sort2 : ∀ q ∈ fst2, (run (rnk q.1 2) (kas_sort 2)).toList = q.2 ∧ asked (rnk q.1 2) 2 (kas_sort 2) = true := by decide +kernel
theorem sort3 : ∀ q ∈ fst3, (run (rnk q.1 3) (kas_sort 3)).toList = q.2 ∧ asked (rnk q.1 3) 3 (kas_sort 3) = true := by decide +kernel
noncomputable def hbl (hs : List Int) (n i j : Nat) : Bool := decide (i < n) && decide (j < n) && decide (hs.getD i 0 < hs.getD j 0)
theorem same_fn {hs : List Int} {r : List Nat} {n : Nat} (h : ∀ i, i < n → ∀ j, j < n → (hs.getD i 0 < hs.getD j 0 ↔ r.getD i 0 < r.getD j 0)) : hbl hs n = rnk r n := by
  funext i j
  unfold hbl rnk
  by_cases hi : i < n
  · by_cases hj : j < n
    · rw [decide_eq_decide.mpr (h i hi j hj)]
    · simp [hj]
  · simp [hi]
theorem all3 {p : Nat → Prop} (h0 : p 0) (h1 : p 1) (h2 : p 2) : ∀ i, i < 3 → p i
  | 0, _ => h0
  | 1, _ => h1
  | 2, _ => h2
  | i + 3, h => by omega
theorem all2 {p : Nat → Prop} (h0 : p 0) (h1 : p 1) : ∀ i, i < 2 → p i
  | 0, _ => h0
  | 1, _ => h1
  | i + 2, h => by omega
theorem ord3 {a b c : Int} (h1 : a ≠ b) (h2 : b ≠ c) (h3 : a ≠ c) : ∃ q ∈ fst3, hbl [a, b, c] 3 = rnk q.1 3 ∧ (q.2.map fun i => [a, b, c].getD i 0).Pairwise (· < ·) ∧ q.2.Perm (List.range 3) := by
  have key : ∀ q : List Nat × List Nat, q ∈ fst3 → (∀ i, i < 3 → ∀ j, j < 3 → ([a, b, c].getD i 0 < [a, b, c].getD j 0 ↔ q.1.getD i 0 < q.1.getD j 0)) → (q.2.map fun i => [a, b, c].getD i 0).Pairwise (· < ·) → q.2.Perm (List.range 3) → ∃ q ∈ fst3, hbl [a, b, c] 3 = rnk q.1 3 ∧ (q.2.map fun i => [a, b, c].getD i 0).Pairwise (· < ·) ∧ q.2.Perm (List.range 3) := fun q hq h hp hr => ⟨q, hq, same_fn h, hp, hr⟩
  rcases Int.lt_or_gt_of_ne h1 with z1 | z1 <;> rcases Int.lt_or_gt_of_ne h2 with z2 | z2 <;> rcases Int.lt_or_gt_of_ne h3 with z3 | z3
  · refine key ([0, 1, 2], [0, 1, 2]) (by decide) (all3 (all3 ?_ ?_ ?_) (all3 ?_ ?_ ?_) (all3 ?_ ?_ ?_)) ?_ (by decide) <;> simp <;> omega
  · omega
  · refine key ([0, 2, 1], [0, 2, 1]) (by decide) (all3 (all3 ?_ ?_ ?_) (all3 ?_ ?_ ?_) (all3 ?_ ?_ ?_)) ?_ (by decide) <;> simp <;> omega
  · refine key ([1, 2, 0], [2, 0, 1]) (by decide) (all3 (all3 ?_ ?_ ?_) (all3 ?_ ?_ ?_) (all3 ?_ ?_ ?_)) ?_ (by decide) <;> simp <;> omega
  · refine key ([1, 0, 2], [1, 0, 2]) (by decide) (all3 (all3 ?_ ?_ ?_) (all3 ?_ ?_ ?_) (all3 ?_ ?_ ?_)) ?_ (by decide) <;> simp <;> omega
  · refine key ([2, 0, 1], [1, 2, 0]) (by decide) (all3 (all3 ?_ ?_ ?_) (all3 ?_ ?_ ?_) (all3 ?_ ?_ ?_)) ?_ (by decide) <;> simp <;> omega
  · omega
  · refine key ([2, 1, 0], [2, 1, 0]) (by decide) (all3 (all3 ?_ ?_ ?_) (all3 ?_ ?_ ?_) (all3 ?_ ?_ ?_)) ?_ (by decide) <;> simp <;> omega
theorem ord2 {a b : Int} (h1 : a ≠ b) : ∃ q ∈ fst2, hbl [a, b] 2 = rnk q.1 2 ∧ (q.2.map fun i => [a, b].getD i 0).Pairwise (· < ·) ∧ q.2.Perm (List.range 2) := by
  have key : ∀ q : List Nat × List Nat, q ∈ fst2 → (∀ i, i < 2 → ∀ j, j < 2 → ([a, b].getD i 0 < [a, b].getD j 0 ↔ q.1.getD i 0 < q.1.getD j 0)) → (q.2.map fun i => [a, b].getD i 0).Pairwise (· < ·) → q.2.Perm (List.range 2) → ∃ q ∈ fst2, hbl [a, b] 2 = rnk q.1 2 ∧ (q.2.map fun i => [a, b].getD i 0).Pairwise (· < ·) ∧ q.2.Perm (List.range 2) := fun q hq h hp hr => ⟨q, hq, same_fn h, hp, hr⟩
  rcases Int.lt_or_gt_of_ne h1 with z1 | z1
  · refine key ([0, 1], [0, 1]) (by decide) (all2 (all2 ?_ ?_) (all2 ?_ ?_)) ?_ (by decide) <;> simp <;> omega
  · refine key ([1, 0], [1, 0]) (by decide) (all2 (all2 ?_ ?_) (all2 ?_ ?_)) ?_ (by decide) <;> simp <;> omega
theorem sorts {hs : List Int} (hnd : hs.Nodup) (hl : hs.length ≤ 3) : ∃ ps : List Nat, ps.Perm (List.range hs.length) ∧ (ps.map fun i => hs.getD i 0).Pairwise (· < ·) ∧ (∀ vs : List Value, vs.length = hs.length → outOf (hbl hs hs.length) vs = ps.map fun i => vs.getD i Value.none) ∧ (((run (hbl hs hs.length) (kas_sort hs.length)).size = hs.length ∧ asked (hbl hs hs.length) hs.length (kas_sort hs.length) = true) ∨ hs.length < 2) := by
  match hs, hnd, hl with
  | [], _, _ => exact ⟨[], List.Perm.refl _, .nil, fun vs h => by rw [List.eq_nil_of_length_eq_zero h]; rfl, .inr (by decide)⟩
  | [a], _, _ => exact ⟨[0], List.Perm.refl _, List.pairwise_singleton _ _, fun vs h => by
      match vs, h with
      | [v], _ => rfl, .inr (by show 1 < 2; decide)⟩
  | [a, b], hnd, _ =>
    obtain ⟨q, hq, e, hp, hr⟩ := ord2 (a := a) (b := b) (by simp at hnd; exact hnd)
    obtain ⟨s1, s2⟩ := sort2 q hq
    refine ⟨q.2, hr, hp, fun vs h => ?_, .inl ⟨?_, ?_⟩⟩
    · unfold outOf
      rw [if_neg (by rw [h]; show ¬ (2 : Nat) < 2; decide), h]
      show List.map _ (run (hbl [a, b] 2) (kas_sort 2)).toList = _
      rw [e, s1]
    · show (run (hbl [a, b] 2) (kas_sort 2)).size = 2
      rw [e, ← Array.length_toList, s1, hr.length_eq]; rfl
    · show asked (hbl [a, b] 2) 2 (kas_sort 2) = true
      rw [e]; exact s2
  | [a, b, c], hnd, _ =>
    have hh : a ≠ b ∧ b ≠ c ∧ a ≠ c := by simp at hnd; exact ⟨hnd.1.1, hnd.2, hnd.1.2⟩
    obtain ⟨q, hq, e, hp, hr⟩ := ord3 (a := a) (b := b) (c := c) hh.1 hh.2.1 hh.2.2
    obtain ⟨s1, s2⟩ := sort3 q hq
    refine ⟨q.2, hr, hp, fun vs h => ?_, .inl ⟨?_, ?_⟩⟩
    · unfold outOf
      rw [if_neg (by rw [h]; show ¬ (3 : Nat) < 2; decide), h]
      show List.map _ (run (hbl [a, b, c] 3) (kas_sort 3)).toList = _
      rw [e, s1]
    · show (run (hbl [a, b, c] 3) (kas_sort 3)).size = 3
      rw [e, ← Array.length_toList, s1, hr.length_eq]; rfl
    · show asked (hbl [a, b, c] 3) 3 (kas_sort 3) = true
      rw [e]; exact s2
  | _ :: _ :: _ :: _ :: _, _, h => simp at h
end SLL
namespace L2
open PySem PySem.Spec PyProof.Rows PySem.W SLL
section
variable {X : Cx}
theorem call_sortedLL (hu : X.A.units + 5 < cLine) : CallR X (.builtin "sorted") (fun xs H Q => ∃ (p : Addr) (as : List Addr) (hs : List Int), xs = [.ref p] ∧ SqL X.K H p (as.map V.ref) ∧ as.length = hs.length ∧ hs.length ≤ 3 ∧ hs.Nodup ∧ (∀ (i : Nat) (a : Addr) (h : Int), as[i]? = some a → hs[i]? = some h → ∃ l : List Int, H a = some (.lst ((h :: l).map V.int))) ∧
    ∀ ps : List Nat, ps.Perm (List.range hs.length) → (ps.map fun i => hs.getD i 0).Pairwise (· < ·) → ∀ l, H l = none → Q (.ref l) (upd H l (.lst (ps.map fun i => .ref (as.getD i 0))))) := by
  intro pins s σ H xs us Q I r h
  obtain ⟨p, as, hs, rfl, hq, hal, h3, hnd, hls, q⟩ := h
  obtain ⟨u, rfl, rx⟩ := vals1 r
  cases rx
  obtain ⟨its, r', pl, hz⟩ := I.list hq
  have hlen := r'.length
  rw [List.length_map] at hlen
  obtain ⟨ps, hperm, hpw, hout, hrun⟩ := sorts hnd h3
  have hat : ∀ i, i < hs.length → ∃ a h, as[i]? = some a ∧ hs[i]? = some h ∧ its.getD i Value.none = .ref a ∧ hs.getD i 0 = h ∧ LstI s.heap a h := fun i hi => by
    have e1 : as[i]? = some as[i] := List.getElem?_eq_getElem (by omega)
    have e2 : hs[i]? = some hs[i] := List.getElem?_eq_getElem hi
    obtain ⟨l, hl⟩ := hls i _ _ e1 e2
    refine ⟨_, _, e1, e2, ?_, by rw [List.getD_eq_getElem?_getD, e2]; rfl, ?_⟩
    · obtain ⟨w1, g1, rw1⟩ := r'.get (show (as.map V.ref)[i]? = some (.ref as[i]) by rw [List.getElem?_map, e1]; rfl)
      rw [List.getD_eq_getElem?_getD, g1]
      exact rw1
    · obtain ⟨its2, r2, pl2, _⟩ := I.list (SqL.of (K := X.K) hl)
      obtain ⟨w1, g1, t, rfl⟩ := r2.get (show ((hs[i] :: l).map V.int)[0]? = some (.int hs[i]) from rfl)
      obtain ⟨o, ho, hcl, n, hd⟩ := (show s.heap.IsList as[i] its2.toArray from pl2.isList)
      refine ⟨o.dict, its2.toArray, n, o.slots, t, ?_, ?_⟩
      · rw [ho]
        cases o
        simp only at hcl hd ⊢
        rw [hcl, hd]
      · rw [List.getElem?_toArray]
        exact g1
  refine sorted_kas (f := hbl hs hs.length) pl.isList (by omega) (fun v hv => ?_) (fun h' kp i j C hi hj hn hC => ?_) (by rw [show its.length = hs.length by omega]; exact hrun) ?_
  · obtain ⟨i, hi⟩ := List.getElem?_of_mem hv
    have hil : i < hs.length := by have := (List.getElem?_eq_some_iff.mp hi).1; omega
    obtain ⟨a, h, _, _, e, _, li⟩ := hat i hil
    rw [List.getD_eq_getElem?_getD, hi] at e
    obtain ⟨dd, items, n, sl, t, ho, _⟩ := li.ex
    exact ⟨a, e, _, ho, rfl⟩
  · obtain ⟨a, ha, e1, f1, g1, k1, li1⟩ := hat i (by omega)
    obtain ⟨b, hb, e2, f2, g2, k2, li2⟩ := hat j (by omega)
    unfold kas_ask
    rw [g1, g2]
    have mv : ∀ {a : Addr} {x : Int}, LstI s.heap a x → LstI h' a x := fun l => by
      obtain ⟨dd, items, n, sl, t, ho, h0⟩ := l.ex
      exact ⟨dd, items, n, sl, t, kp _ _ ho, h0⟩
    have eij : ha ≠ hb := fun z => hn ((List.getElem?_inj (i := i) (j := j) (by omega) hnd).mp (by rw [f1, f2, z]))
    · refine lt_lists (s := { s with heap := h' }) ?_ (mv li1) (mv li2) eij ?_
      · exact Nat.lt_of_le_of_lt (by show X.A.units + 1 + 1 ≤ X.A.units + 5; omega) hu
      · have : hbl hs hs.length i j = decide (ha < hb) := by
          unfold hbl
          rw [k1, k2]
          simp [show i < hs.length by omega, show j < hs.length by omega]
        rw [← this]
        exact hC
  · rw [hout its (by omega)]
    obtain ⟨ep, he⟩ := sortedAll_at s.heap its (ps.map fun i => its.getD i Value.none).toArray
    have hvals : Vals (ps.map fun i => V.ref (as.getD i 0)) (ps.map fun i => its.getD i Value.none) := by
      have : ∀ l : List Nat, (∀ i ∈ l, i < hs.length) → Vals (l.map fun i => V.ref (as.getD i 0)) (l.map fun i => its.getD i Value.none) := by
        intro l
        induction l with
        | nil => exact fun _ => .nil
        | cons a t ih =>
          intro h
          refine .cons ?_ (ih fun i hi => h i (List.mem_cons_of_mem _ hi))
          obtain ⟨a', h', e1, _, g1, _⟩ := hat a (h a List.mem_cons_self)
          show its.getD a Value.none = Value.ref (as.getD a 0)
          rw [g1, List.getD_eq_getElem?_getD, e1]
          rfl
      exact this ps fun i hi => List.mem_range.mp (hperm.mem_iff.mp hi)
    have hpl := hperm.length_eq
    rw [List.length_range] at hpl
    have hob : ObjOk X.prog X.w (upd H (s.heap.objs.size + 1) (.lst (ps.map fun i => V.ref (as.getD i 0)))) (sortedAll s.heap its (ps.map fun i => its.getD i Value.none).toArray) (s.heap.objs.size + 1) (.lst (ps.map fun i => V.ref (as.getD i 0))) := ⟨by rw [List.length_map]; exact Nat.le_of_lt (small1000 (by omega)), _, ep, hvals, he⟩
    exact ⟨.ref (s.heap.objs.size + 1), _, I.laid (t' := s.toks) (fun b o hb => sortedAll_old hb) (Nat.le_succ _) hob, rfl, q ps hperm hpw _ (I.hok.fresh (Nat.le_succ _))⟩
end
end L2
set_option Elab.async false
set_option linter.all false
set_option maxRecDepth 100000
set_option maxHeartbeats 16000000
namespace K85
open PySem L2 PyProof.Rows
noncomputable def top (i : Nat) : Stmt := PySem.Challenge.pw_bundlehouse_k85_too_many_in_a_tangle.main.body.getD i (.Pass ⟨0, 0, 0, 0⟩)
noncomputable abbrev s_TooMany___init__ : Stmt := inClass (top 10) 0
theorem sc_TooMany___init__ : FnScope ["self", "parts"] ["self", "parts"] (defScope s_TooMany___init__) := ⟨rfl, rfl, rfl, by decide +kernel, rfl, by decide +kernel, by decide +kernel⟩
noncomputable abbrev s_numbers_in : Stmt := top 14
theorem sc_numbers_in : FnScope ["whole"] ["whole"] (defScope s_numbers_in) := ⟨rfl, rfl, rfl, by decide +kernel, rfl, by decide +kernel, by decide +kernel⟩
noncomputable abbrev s_brings : Stmt := top 16
theorem sc_brings : FnScope ["parts", "part"] ["parts", "part"] (defScope s_brings) := ⟨rfl, rfl, rfl, by decide +kernel, rfl, by decide +kernel, by decide +kernel⟩
noncomputable abbrev s_bringings : Stmt := top 17
theorem sc_bringings : FnScope ["parts", "onward", "part", "rows"] ["parts"] (defScope s_bringings) := ⟨rfl, rfl, rfl, by decide +kernel, rfl, by decide +kernel, by decide +kernel⟩
noncomputable abbrev s_named_parts : Stmt := top 18
theorem sc_named_parts : FnScope ["parts", "part", "kind", "found", "row"] ["parts", "part", "kind"] (defScope s_named_parts) := ⟨rfl, rfl, rfl, by decide +kernel, rfl, by decide +kernel, by decide +kernel⟩
noncomputable abbrev s_knots_in : Stmt := top 20
theorem sc_knots_in : FnScope ["onward", "backward", "found", "part", "knot"] ["onward"] (defScope s_knots_in) := ⟨rfl, rfl, rfl, by decide +kernel, rfl, by decide +kernel, by decide +kernel⟩
noncomputable abbrev s_knot_around : Stmt := top 21
theorem sc_knot_around : FnScope ["onward", "backward", "part", "ahead", "behind"] ["onward", "backward", "part"] (defScope s_knot_around) := ⟨rfl, rfl, rfl, by decide +kernel, rfl, by decide +kernel, by decide +kernel⟩
noncomputable abbrev s_turned : Stmt := top 22
theorem sc_turned : FnScope ["onward", "backward", "part", "other"] ["onward"] (defScope s_turned) := ⟨rfl, rfl, rfl, by decide +kernel, rfl, by decide +kernel, by decide +kernel⟩
noncomputable abbrev s_spread : Stmt := top 23
theorem sc_spread : FnScope ["onward", "some", "found", "waiting", "part"] ["onward", "some"] (defScope s_spread) := ⟨rfl, rfl, rfl, by decide +kernel, rfl, by decide +kernel, by decide +kernel⟩
noncomputable abbrev s_tangles : Stmt := top 26
theorem sc_tangles : FnScope ["parts"] ["parts"] (defScope s_tangles) := ⟨rfl, rfl, rfl, by decide +kernel, rfl, by decide +kernel, by decide +kernel⟩
noncomputable abbrev s_ring_table : Stmt := top 27
theorem sc_ring_table : FnScope ["parts", "tangle"] ["parts", "tangle"] (defScope s_ring_table) := ⟨rfl, rfl, rfl, by decide +kernel, rfl, by decide +kernel, by decide +kernel⟩
noncomputable abbrev s_steps_within : Stmt := top 28
theorem sc_steps_within : FnScope ["parts", "tangle", "onward"] ["parts", "tangle"] (defScope s_steps_within) := ⟨rfl, rfl, rfl, by decide +kernel, rfl, by decide +kernel, by decide +kernel⟩
noncomputable abbrev s_place_of : Stmt := top 29
theorem sc_place_of : FnScope ["tangle", "some"] ["tangle", "some"] (defScope s_place_of) := ⟨rfl, rfl, rfl, by decide +kernel, rfl, by decide +kernel, by decide +kernel⟩
noncomputable abbrev s_best_lasts : Stmt := top 30
theorem sc_best_lasts : FnScope ["steps", "best", "place"] ["steps"] (defScope s_best_lasts) := ⟨rfl, rfl, rfl, by decide +kernel, rfl, by decide +kernel, by decide +kernel⟩
noncomputable abbrev s_count_with_last : Stmt := top 31
theorem sc_count_with_last : FnScope ["steps", "best", "place", "last"] ["steps", "best", "place", "last"] (defScope s_count_with_last) := ⟨rfl, rfl, rfl, by decide +kernel, rfl, by decide +kernel, by decide +kernel⟩
noncomputable abbrev s_fewest : Stmt := top 32
theorem sc_fewest : FnScope ["parts", "cut", "tangle", "pair", "found", "part", "rows"] ["parts"] (defScope s_fewest) := ⟨rfl, rfl, rfl, by decide +kernel, rfl, by decide +kernel, by decide +kernel⟩
noncomputable abbrev s_fewest_within : Stmt := top 33
theorem sc_fewest_within : FnScope ["parts", "tangle", "steps", "best", "left", "cut", "last"] ["parts", "tangle"] (defScope s_fewest_within) := ⟨rfl, rfl, rfl, by decide +kernel, rfl, by decide +kernel, by decide +kernel⟩
noncomputable abbrev s_law_cell_at : Stmt := top 35
theorem sc_law_cell_at : FnScope ["_law_script", "_law_k"] ["_law_script", "_law_k"] (defScope s_law_cell_at) := ⟨rfl, rfl, rfl, by decide +kernel, rfl, by decide +kernel, by decide +kernel⟩
noncomputable abbrev s_law_mixed : Stmt := top 36
theorem sc_law_mixed : FnScope ["_law_cell", "_law_k", "_law_prime"] ["_law_cell", "_law_k", "_law_prime"] (defScope s_law_mixed) := ⟨rfl, rfl, rfl, by decide +kernel, rfl, by decide +kernel, by decide +kernel⟩
noncomputable abbrev s_law_names : Stmt := top 37
theorem sc_law_names : FnScope ["_law_cell", "_law_many", "_law_letters", "_law_signs", "_law_base", "_law_names_here", "_law_long", "_law_at", "_law_step", "_law_k", "_law_sign"] ["_law_cell", "_law_many"] (defScope s_law_names) := ⟨rfl, rfl, rfl, by decide +kernel, rfl, by decide +kernel, by decide +kernel⟩
noncomputable abbrev s_law_sizes : Stmt := top 38
theorem sc_law_sizes : FnScope ["_law_script", "_law_sizes_here", "_law_k", "_law_size"] ["_law_script"] (defScope s_law_sizes) := ⟨rfl, rfl, rfl, by decide +kernel, rfl, by decide +kernel, by decide +kernel⟩
noncomputable abbrev s_law_rings : Stmt := top 39
theorem sc_law_rings : FnScope ["_law_sizes_here", "_law_spots", "_law_rings_here", "_law_at", "_law_size"] ["_law_sizes_here", "_law_spots"] (defScope s_law_rings) := ⟨rfl, rfl, rfl, by decide +kernel, rfl, by decide +kernel, by decide +kernel⟩
noncomputable abbrev s_law_more : Stmt := top 40
theorem sc_law_more : FnScope ["_law_script", "_law_first", "_law_rings_here", "_law_names_here", "_law_rows", "_law_k", "_law_at", "_law_ring", "_law_here", "_law_later", "_law_there"] ["_law_script", "_law_first", "_law_rings_here", "_law_names_here", "_law_rows"] (defScope s_law_more) := ⟨rfl, rfl, rfl, by decide +kernel, rfl, by decide +kernel, by decide +kernel⟩
noncomputable abbrev s_law_fine : Stmt := top 41
theorem sc_law_fine : FnScope ["_law_caught_here", "_law_due"] ["_law_caught_here", "_law_due"] (defScope s_law_fine) := ⟨rfl, rfl, rfl, by decide +kernel, rfl, by decide +kernel, by decide +kernel⟩
noncomputable abbrev s_law_caught : Stmt := top 42
theorem sc_law_caught : FnScope ["_law_parts", "_law_some", "_law_caught_here", "e"] ["_law_parts", "_law_some"] (defScope s_law_caught) := ⟨rfl, rfl, rfl, by decide +kernel, rfl, by decide +kernel, by decide +kernel⟩
noncomputable abbrev s_law : Stmt := top 43
theorem sc_law : FnScope ["_law_script", "_law_sizes_here", "_law_names_here", "_law_left", "_law_spots", "_law_k", "_law_rings_here", "_law_rows", "_law_ring", "_law_parts", "_law_first", "_law_some", "_law_caught_here"] ["_law_script"] (defScope s_law) := ⟨rfl, rfl, rfl, by decide +kernel, rfl, by decide +kernel, by decide +kernel⟩
structure Adr where
  BundleError : Addr
  TooMany : Addr
  Asks : Addr
  Endless : Addr
  NoMap : Addr
  NoName : Addr
  NoPart : Addr
  NoPlace : Addr
  NoRow : Addr
  NotGiven : Addr
  Twice : Addr
structure XTxt (K : PySem.W.Frag) (mg : Str → Option Value) (A : Adr) : Prop where
  m_BundleError : mg "BundleError" = some (.ref A.BundleError)
  m_TooMany : mg "TooMany" = some (.ref A.TooMany)
  m_Asks : mg "Asks" = some (.ref A.Asks)
  m_Endless : mg "Endless" = some (.ref A.Endless)
  m_NoMap : mg "NoMap" = some (.ref A.NoMap)
  m_NoName : mg "NoName" = some (.ref A.NoName)
  m_NoPart : mg "NoPart" = some (.ref A.NoPart)
  m_NoPlace : mg "NoPlace" = some (.ref A.NoPlace)
  m_NoRow : mg "NoRow" = some (.ref A.NoRow)
  m_NotGiven : mg "NotGiven" = some (.ref A.NotGiven)
  m_Twice : mg "Twice" = some (.ref A.Twice)
  k_BundleError : XK1 K A.BundleError
  k_TooMany : XK1 K A.TooMany
  i_self : PySem.W.kitOne K (.ref A.TooMany) (.ref A.TooMany) = some true
  i_val : PySem.W.kitOne K (.ref A.TooMany) (.type "ValueError") = some true
  i_oth : PySem.W.kitAny K (.ref A.TooMany) [.ref A.Asks, .ref A.Endless, .ref A.NoMap, .ref A.NoName, .ref A.NoPart, .ref A.NoPlace, .ref A.NoRow, .ref A.NotGiven, .ref A.Twice] = some false
  s_TooMany : PySem.W.mroIn K A.TooMany (.ref A.BundleError) = some true
  x_TooMany : HasX K A.TooMany "TooMany.__init__" s_TooMany___init__
  f_TooMany : XF K A.TooMany "parts"
  b_BundleError : XB K A.BundleError
structure Txt (K : PySem.W.Frag) (mg : Str → Option Value) : Prop where
  n_len : mg "len" = none
  n_range : mg "range" = none
  n_str : mg "str" = none
  n_tuple : mg "tuple" = none
  n_dict : mg "dict" = none
  n_list : mg "list" = none
  n_isinstance : mg "isinstance" = none
  n_min : mg "min" = none
  n_zip : mg "zip" = none
  n_sum : mg "sum" = none
  n_enumerate : mg "enumerate" = none
  n_sorted : mg "sorted" = none
  n_ValueError : mg "ValueError" = none
  g_MOST_PARTS : ∃ u, mg "MOST_PARTS" = some u ∧ RelV (.int 8) u
  d_brings : HasDef K mg "brings" s_brings
  d_bringings : HasDef K mg "bringings" s_bringings
  d_named_parts : HasDef K mg "named_parts" s_named_parts
  d_knots_in : HasDef K mg "knots_in" s_knots_in
  d_knot_around : HasDef K mg "knot_around" s_knot_around
  d_turned : HasDef K mg "turned" s_turned
  d_spread : HasDef K mg "spread" s_spread
  d_tangles : HasDef K mg "tangles" s_tangles
  d_numbers_in : HasDef K mg "numbers_in" s_numbers_in
  d_ring_table : HasDef K mg "ring_table" s_ring_table
  d_steps_within : HasDef K mg "steps_within" s_steps_within
  d_place_of : HasDef K mg "place_of" s_place_of
  d_best_lasts : HasDef K mg "best_lasts" s_best_lasts
  d_count_with_last : HasDef K mg "count_with_last" s_count_with_last
  d_fewest : HasDef K mg "fewest" s_fewest
  d_fewest_within : HasDef K mg "fewest_within" s_fewest_within
  d_law_cell_at : HasDef K mg "_law_cell_at" s_law_cell_at
  d_law_mixed : HasDef K mg "_law_mixed" s_law_mixed
  d_law_names : HasDef K mg "_law_names" s_law_names
  d_law_sizes : HasDef K mg "_law_sizes" s_law_sizes
  d_law_rings : HasDef K mg "_law_rings" s_law_rings
  d_law_more : HasDef K mg "_law_more" s_law_more
  d_law_fine : HasDef K mg "_law_fine" s_law_fine
  d_law_caught : HasDef K mg "_law_caught" s_law_caught
  xs : ∃ A : Adr, XTxt K mg A
noncomputable def spNamedParts : Sp := fun vs H Q _ => ∃ (a : Addr) (ps : List Pt) (n k : Str) (rs : List Rw), vs = [.ref a, .str n, .str k] ∧ (k = "bring" ∨ k = "ask") ∧ PartsF H a ps ∧ (ps.map (·.1)).Nodup ∧ (n, rs) ∈ ps ∧ ps.length ≤ 1000 ∧ rs.length ≤ 900 ∧
  ∀ (p : Addr) (H' : Hp), Same H H' → H' p = some (.tup ((namedOf k rs).map V.str)) → Q (.ref p) H'
noncomputable def spNames (k : Str) : Sp := fun vs H Q _ => ∃ (a : Addr) (ps : List Pt) (n : Str) (rs : List Rw), vs = [.ref a, .str n] ∧ PartsF H a ps ∧ (ps.map (·.1)).Nodup ∧ (n, rs) ∈ ps ∧ ps.length ≤ 1000 ∧ rs.length ≤ 900 ∧
  ∀ (p : Addr) (H' : Hp), Same H H' → H' p = some (.tup ((namedOf k rs).map V.str)) → Q (.ref p) H'
theorem parts_pairs {K : PySem.W.Frag} {H : Hp} : ∀ {vs : List V} {ps : List Pt}, Paired (PartAt H) vs ps → ∃ qs : List (Str × V), Paired (fun v (p : Str × V) => ∃ t, v = .ref t ∧ SqT K H t [.str p.1, p.2]) vs qs ∧ qs.map (·.1) = ps.map (·.1) ∧ ∀ n rs, (n, rs) ∈ ps → ∃ u ws, (n, V.ref u) ∈ qs ∧ H u = some (.tup ws) ∧ RowsAt H ws rs
  | _, _, .nil => ⟨[], .nil, rfl, fun n rs h => by simp at h⟩
  | _, _, .cons (b := p) ⟨t, u, ws, e, h1, h2, h3⟩ hr => by
    obtain ⟨qs, g1, g2, g3⟩ := parts_pairs (K := K) hr
    refine ⟨(p.1, .ref u) :: qs, .cons ⟨t, e, SqT.of h1⟩ g1, by rw [List.map_cons, List.map_cons, g2], fun n rs h => ?_⟩
    rcases List.mem_cons.mp h with z | z
    · rw [← z] at h1 h3 ⊢
      exact ⟨u, ws, List.mem_cons_self, h2, h3⟩
    · obtain ⟨u', ws', k1, k2⟩ := g3 n rs z
      exact ⟨u', ws', List.mem_cons_of_mem _ k1, k2⟩
theorem Tups.dK {H : Hp} {l : Addr} {kvs kvs' : List (Key × V)} (h : H l = some (.dK kvs)) : Tups H (upd H l (.dK kvs')) := fun b zs q => by
  rw [upd_ne (ne_of q h (by intro z; cases z))]
  exact q
section
variable {P : Program} {w : World} {K : PySem.W.Frag} {mg : Str → Option Value} {base : Heap}
theorem ok_named_parts (T : Txt K mg) : L2.Cl P w K mg base 1 "named_parts" ["parts", "part", "kind"] spNamedParts := by
  refine Cl.of T.d_named_parts sc_named_parts (fun vs H Q E h => ?_) (fun _ _ _ _ _ _ us hl => by obtain ⟨a, b, c, rfl⟩ := len3 hl; rfl) (fun f cdv A outer s H vs Q E hr h => ?_)
  · obtain ⟨a, ps, n, k, rs, rfl, _⟩ := h
    rfl
  · obtain ⟨a, ps, n, k, rs, rfl, hk, ⟨o, vs, ha, ho, hps⟩, hnd, hmem, hl1, hl2, q⟩ := h
    have hu := hu_of hr
    refine ⟨_, (pss_cons (ps_set (i := 3) sc_named_parts.nd rfl (Or.inl rfl) pe_dnewK)
      (pss_cons (ps_for PassesOwn.never rfl (pi_tup (pe_dget hu (pe_callTy (call_dictT rfl) (by rfl) T.n_dict boot_dict (pa_cons (pv 0) pa_nil)) (pv 1) (fun _ _ => rfl))) (pg_name (i := 4) sc_named_parts.nd rfl (Or.inl rfl))
        (pss_one (ps_if (pt_cmpR op_eq (pe_ix ix_tup (pv 4) pe_int (fun _ _ => rfl)) (pv 2) (nomark _))
          (pss_one (ps_dput hu (pv 3) (pe_ix ix_tup (pv 4) pe_int (fun _ _ => rfl)) pe_bl rfl)) pss_nil)))
      (pss_one (ps_ret (pe_callTy (call_tupleD rfl) (by rfl) T.n_tuple boot_tuple (pa_cons (pv 3) pa_nil)))))), ?_⟩
    intro d gd
    have s1 : Same H (upd H d (.dK [])) := (Same.refl H).new gd
    obtain ⟨qs, g1, g2, g3⟩ := parts_pairs (K := K) (Paired.mapP hps fun _ _ z => z.mono s1.tups)
    obtain ⟨u, ws, k1, k2, k3⟩ := g3 n rs hmem
    have hql : qs.length = ps.length := by
      have := congrArg List.length g2
      simpa using this
    refine ⟨_, rfl, a, o, vs, qs, rfl, s1 _ _ ha, ho, g1, (by omega), fun e ge => ?_⟩
    have s2 := s1.new (o := .dK (foldP qs [])) ge
    refine ⟨_, rfl, e, .ref u, rfl, ?_, ?_⟩
    · have hg := DGet.k (k := Sum.inr n) (upd_same (H := upd H d (.dK [])) (a := e) (o := .dK (foldP qs [])))
      rw [foldP_get qs [] n (.ref u) (by rw [g2]; exact hnd) (.inl k1)] at hg
      exact hg
    · have s2 : Same H (upd (upd H d (.dK [])) e (.dK (foldP qs []))) := s1.new ge
      have hde : d ≠ e := ne_of_none (upd_same (H := H) (a := d) (o := .dK [])) ge
      have hwl : ws.length = rs.length := Paired.length k3
      refine ⟨u, rfl, ⟨_, SqT.of (upd_keep k2 ge)⟩, for_tup (K := K) (a := u) (xs := ws) (fun i σ H2 => ∃ v4 : Option V, σ = [some (.ref a), some (.str n), some (.str k), some (.ref d), v4] ∧ Same H H2 ∧ H2 d = some (.dK (setD (namedOf k (rs.take i)))) ∧ H2 u = some (.tup ws) ∧ RowsAt H2 ws rs)
        ⟨none, rfl, s2, ?_, upd_keep k2 ge, k3.mono (Tups.new ge)⟩ (fun i σ H2 _ ⟨_, _, _, _, e2, _⟩ => SqT.of e2) ?_ ?_⟩
      · rw [upd_ne hde, upd_same]; rfl
      · rintro i y σ H2 hx ⟨v4, rfl, s3, hd3, hu3, hr3⟩
        have hi : i < ws.length := (List.getElem?_eq_some_iff.mp hx).1
        obtain ⟨rw, hrw, r, er, hra⟩ := Paired.get? hr3 hx
        subst er
        have hlt : (namedOf k (rs.take i)).length ≤ 900 := by
          have h1 := namedOf_len k (rs.take i) []
          have h2 : (rs.take i).length ≤ rs.length := List.length_take_le' ..
          unfold namedOf
          simp only [List.length_nil] at h1
          omega
        have htk : rs.take (i + 1) = rs.take i ++ [rw] := take_succ_get hrw
        rcases hra.named hk with ⟨e1, p, rest, e2, h2⟩ | ⟨e1, e2⟩
        · have z0 : atI (V.str k :: V.str p :: rest) 0 = some (.str k) := atI_nat (j := 0) rfl
          have z1 : atI (V.str k :: V.str p :: rest) 1 = some (.str p) := atI_nat (j := 1) rfl
          refine ⟨_, rfl, r, _, _, _, rfl, rfl, SqT.of h2, z0, _, rfl, rfl, _, rfl, iteSE ?_⟩
          refine ⟨_, rfl, _, rfl, r, _, _, _, rfl, rfl, SqT.of h2, z1, d, _, rfl, DPut.k (k := Sum.inr p) hd3 (small1000 (by rw [setD_len]; omega)), ?_⟩
          refine ⟨_, rfl, s3.put gd, ?_, ?_, hr3.mono (Tups.dK hd3)⟩
          · rw [upd_same, setD_put, htk, namedOf_snoc]
            unfold stepN
            rw [e2]
          · exact Tups.dK hd3 _ _ hu3
        · obtain ⟨x, rest, h2⟩ := hra.kind
          have z0 : atI (V.str (kindS rw) :: x :: rest) 0 = some (.str (kindS rw)) := atI_nat (j := 0) rfl
          refine ⟨_, rfl, r, _, _, _, rfl, rfl, SqT.of h2, z0, _, rfl, rfl, _, rfl, iteSN e1 ?_⟩
          refine ⟨_, rfl, s3, ?_, hu3, hr3⟩
          rw [htk, namedOf_snoc]
          unfold stepN
          rw [e2]
          exact hd3
      · rintro σ H2 ⟨v4, rfl, s3, hd3, hu3, hr3⟩
        rw [hwl, List.take_length] at hd3
        refine ⟨_, rfl, d, _, rfl, .inl hd3, fun t gt => ?_⟩
        refine q t _ (s3.new gt) ?_
        rw [upd_same, setD_keys]
theorem ok_brings (T : Txt K mg) : L2.Cl P w K mg base 2 "brings" ["parts", "part"] (spNames "bring") := by
  have C_named_parts := ok_named_parts (P := P) (w := w) (base := base) T
  refine Cl.of T.d_brings sc_brings (fun vs H Q E h => ?_) (fun _ _ _ _ _ _ us hl => by obtain ⟨a, b, rfl⟩ := len2 hl; rfl) (fun f cdv A outer s H vs Q E hr h => ?_)
  · obtain ⟨a, ps, n, rs, rfl, _⟩ := h
    rfl
  · obtain ⟨a, ps, n, rs, rfl, h1, h2, h3, h4, h5, q⟩ := h
    refine ⟨_, (pss_one (ps_ret (pe_fn C_named_parts hr (by rfl) (pa_cons (pv 0) (pa_cons (pv 1) (pa_cons pe_str pa_nil)))))), ?_⟩
    exact ⟨_, rfl, _, rfl, a, ps, n, "bring", rs, rfl, .inl rfl, h1, h2, h3, h4, h5, q⟩
theorem pe_globS {X : Cx} {x : Str} {v : V} {pos : Pos} (h : ∃ u, X.mg x = some u ∧ RelV v u) (hg : Gl X x) (hd : (x == ("__debug__" : Str)) = false := by decide) : PE X (.Name x pos) (tC v) := by
  obtain ⟨u, hm, r⟩ := h
  exact pe_glob hg hm r hd
theorem mt_joinK {X : Cx} {K : PySem.W.Frag} (h : X.K = K) : MtR X "str.join" (fun x vs H Q => ∃ sep p ys, x = .str sep ∧ vs = [.ref p] ∧ (SqT K H p (ys.map V.str) ∨ SqL K H p (ys.map V.str)) ∧ sep.length ≤ 16 ∧ (ys.map (·.length)).sum + ys.length ≤ 1048576 ∧ Q (.str (Str.join sep ys)) H) := h ▸ mt_join
theorem pe_bmK {X : Cx} {K : PySem.W.Frag} (hK : X.K = K) {o e : Expr} {es : List Expr} {to : TE} {t : TA} {name : Str} {apos cpos : Pos} {T id : String} {r : V → List V → Hp → VK → Prop} (pa : PlainAttrs T) (slot : Slot T name id) (hty : typeOf (.builtin id) = pure (.type "method_descriptor")) (hm : MtR X id r) (ho : PE X o to) (ha : PA X (e :: es) t)
    (hbase : attributeBase o name X.env (eval o X.env) = eval o X.env := by rfl)
    (hfew : ((backTo cpos (starEach (e :: es) X.env)).all (fun x => !x.1) && (backToKw cpos (keywordEach [] X.env)).all (fun x => x.1.isSome) && decide ((e :: es).length + ([] : List Keyword).length + (if ([] : List Keyword).isEmpty then 0 else 1) < 30)) = true := by rfl)
    (hline : (apos.endLine == cpos.line) = true := by rfl) (hs : starEach (e :: es) X.env = (false, eval e X.env) :: starEach es X.env := by rfl) (hplain : (backTo cpos (starEach es X.env)).any (·.1) = false := by rfl) :
    PE X (.Call (.Attribute o name apos) (e :: es) [] cpos) (tBM K T r to t) := by
  subst hK
  exact pe_bm pa slot hty hm ho ha hbase hfew hline hs hplain
theorem tand_pure {t u : TT} {σ : L2.St} {H : Hp} {a b : Bool} (ht : ∀ Q : Bool → Hp → Prop, Q a H → t σ H Q) (hu : ∀ Q : Bool → Hp → Prop, Q b H → u σ H Q) : ∀ Q : Bool → Hp → Prop, Q (a && b) H → tAnd t u σ H Q := fun Q h => by
  refine ht _ ?_
  cases a with
  | true => exact iteT (hu _ h)
  | false => exact iteF h
theorem g_if_p {t : TT} {A B R : TS} {D : Ends} {r : VK} {b k : L2.St → Hp → Prop} {i : Nat} {v : V} {σ : L2.St} {H : Hp} {a : Bool} (ht : ∀ Q : Bool → Hp → Prop, Q a H → t (σ.set i (some v)) H Q) (h : if a = true then A { D with nx := R D } (σ.set i (some v)) H else B { D with nx := R D } (σ.set i (some v)) H) : gName i v σ H (Ends.nx ⟨tSeq (tIfS t A B) R D, r, b, k⟩) := ht _ h
noncomputable def ch (c : Nat) : Str := ⟨#[c]⟩
noncomputable def chs (l : List Nat) : List V := (l.map ch).map V.str
theorem chs_snoc (l : List Nat) (c : Nat) : chs (l ++ [c]) = chs l ++ [.str (ch c)] := by unfold chs; simp
theorem chs_len (l : List Nat) : (chs l).length = l.length := by unfold chs; simp
theorem chs_take (l : List Nat) (k : Nat) : (chs l).take k = chs (l.take k) := by unfold chs; rw [List.map_take, List.map_take]
theorem chs_drop (l : List Nat) (k : Nat) : (chs l).drop k = chs (l.drop k) := by unfold chs; rw [List.map_drop, List.map_drop]
theorem ch_sum : ∀ l : List Nat, ((l.map ch).map (·.length)).sum = l.length
  | [] => rfl
  | c :: r => by
    have ih := ch_sum r
    simp only [List.map_cons, List.sum_cons, List.length_cons]
    rw [ih]
    show 1 + r.length = _
    omega
theorem no_signs : ("" : Str).cps.toList = [] := by decide +kernel
theorem join0 : ∀ l : List Nat, (Str.join "" (l.map ch)).cps.toList = l
  | [] => by decide +kernel
  | [c] => rfl
  | c :: d :: r => by
    have ih := join0 (d :: r)
    show (ch c ++ "" ++ Str.join "" ((d :: r).map ch)).cps.toList = _
    rw [cps_app, cps_app, ih, no_signs]
    rfl
noncomputable def lS (l : List Nat) : Str := ⟨l.toArray⟩
theorem lS_cps (l : List Nat) : (lS l).cps.toList = l := by unfold lS; simp
theorem join0S (l : List Nat) : Str.join "" (l.map ch) = lS l := str_ext (by rw [join0, lS_cps])
theorem lS_inj {a b : List Nat} (h : lS a = lS b) : a = b := by
  have := congrArg (fun x : Str => x.cps.toList) h
  simpa [lS_cps] using this
theorem lS_app (a b : List Nat) : lS a ++ lS b = lS (a ++ b) := str_ext (by rw [cps_app, lS_cps, lS_cps, lS_cps])
theorem ch_lS (c : Nat) : ch c = lS [c] := rfl
theorem lS_len (a : List Nat) : (lS a).length = a.length := by unfold lS Str.length; simp
noncomputable def mixM (c k p : Int) : Int := (c * 48271 + 7919 * k * k + 101 * k) % p
noncomputable def baseN (c : Int) (i : Nat) : List Nat := (List.range i).map fun (j : Nat) => letAt (mixM c (j : Int) 65519 % 26)
theorem baseN_succ (c : Int) (i : Nat) : baseN c (i + 1) = baseN c i ++ [letAt (mixM c (i : Int) 65519 % 26)] := by unfold baseN; rw [List.range_succ, List.map_append]; rfl
theorem baseN_len (c : Int) (i : Nat) : (baseN c i).length = i := by unfold baseN; simp
noncomputable def nmP (c : Int) (k : Nat) : Str := lS ((baseN c 8).take (k + 1))
noncomputable def nmA (b : List Nat) (at' long : Nat) (c : Nat) : Str := lS (b.take at' ++ [c] ++ (b.drop (at' + 1)).take (long - (at' + 1)))
theorem nmP_inj {c : Int} {k l : Nat} (hk : k < 8) (hl : l < 8) (h : nmP c k = nmP c l) : k = l := by
  have := congrArg List.length (lS_inj h)
  rw [List.length_take, List.length_take, baseN_len] at this
  omega
theorem nmA_inj {b : List Nat} {at' long c d : Nat} (h : nmA b at' long c = nmA b at' long d) : c = d := by
  have h1 := lS_inj h
  rw [List.append_assoc, List.append_assoc] at h1
  have h2 := List.append_cancel_left h1
  simpa using h2
noncomputable def sg36 : Str := "abcdefghijklmnopqrstuvwxyz0123456789"
theorem sg36_len : sg36.cps.toList.length = 36 := by decide +kernel
theorem sg36_eq : lets ++ ("0123456789" : Str) = sg36 := by decide +kernel
theorem sgAt_inj0 : ∀ i : Nat, i < 36 → ∀ j : Nat, j < 36 → sg36.cps.toList.getD i 0 = sg36.cps.toList.getD j 0 → i = j := by decide +kernel
theorem sgAt_inj {i j : Int} (hi : 0 ≤ i) (hi2 : i < 36) (hj : 0 ≤ j) (hj2 : j < 36) (h : sgAt i = sgAt j) : i = j := by
  have := sgAt_inj0 i.toNat (by omega) j.toNat (by omega) h
  omega
noncomputable def stepL : List Int := [1, 5, 7, 11, 17, 25]
noncomputable def stepM (c : Int) : Int := stepL.getD (mixM c 9 65521 % 6).toNat 0
theorem stepM_in (c : Int) : stepM c = 1 ∨ stepM c = 5 ∨ stepM c = 7 ∨ stepM c = 11 ∨ stepM c = 17 ∨ stepM c = 25 := by
  unfold stepM
  generalize hz : (mixM c 9 65521 % 6).toNat = z
  have : z < 6 := by omega
  match z, this with
  | 0, _ => decide
  | 1, _ => decide
  | 2, _ => decide
  | 3, _ => decide
  | 4, _ => decide
  | 5, _ => decide
noncomputable def sgn (c : Int) (at' : Nat) (k : Nat) : Nat := if 0 < at' then sgAt ((c / 64 + (k : Int) * stepM c) % 36) else letAt ((c / 64 + (k : Int) * stepM c) % 26)
theorem sgn_inj {c : Int} {at' k l : Nat} (hk : k < 24) (hl : l < 24) (h : sgn c at' k = sgn c at' l) : k = l := by
  unfold sgn at h
  have hs := stepM_in c
  generalize stepM c = s at h hs
  generalize c / 64 = x at h
  by_cases ha : 0 < at'
  · rw [if_pos ha, if_pos ha] at h
    have := sgAt_inj (by omega) (by omega) (by omega) (by omega) h
    rcases hs with rfl | rfl | rfl | rfl | rfl | rfl <;> omega
  · rw [if_neg ha, if_neg ha] at h
    have := letAt_inj (by omega) (by omega) (by omega) (by omega) h
    rcases hs with rfl | rfl | rfl | rfl | rfl | rfl <;> omega
theorem nodup_range_map {f : Nat → Str} {n : Nat} (h : ∀ k l, k < n → l < n → f k = f l → k = l) : ((List.range n).map f).Nodup := by
  rw [List.nodup_iff_pairwise_ne, List.pairwise_map]
  refine List.Pairwise.imp_of_mem ?_ (List.nodup_range (n := n))
  intro a b ha hb hne e
  exact hne (h a b (List.mem_range.mp ha) (List.mem_range.mp hb) e)
theorem nodup_rev {l : List Str} (h : l.Nodup) : l.reverse.Nodup := List.pairwise_reverse.mpr (h.imp fun e => Ne.symm e)
theorem range_map_succ {α : Type} (f : Nat → α) (n : Nat) : (List.range (n + 1)).map f = (List.range n).map f ++ [f n] := by rw [List.range_succ, List.map_append]; rfl
theorem cut_take {xs : List V} {k : Nat} (h : k ≤ xs.length) : cutV xs none (some ((k : Nat) : Int)) = xs.take k := by
  unfold cutV
  rw [HT.sIx_none, HT.sIx_nat, Nat.min_eq_left h, List.drop_zero, Nat.sub_zero]
theorem cut_mid (xs : List V) (i j : Nat) (hij : i ≤ j) (hj : j ≤ xs.length) : cutV xs (some (i : Int)) (some (j : Int)) = (xs.drop i).take (j - i) := by
  unfold cutV
  rw [HT.sIx_nat, HT.sIx_nat, Nat.min_eq_left hj, Nat.min_eq_left (Nat.le_trans hij hj)]
noncomputable def spCell (K : PySem.W.Frag) : Sp := fun vs H Q _ => ∃ (a : Addr) (ns : List Int) (k : Int), vs = [.ref a, .int k] ∧ SqL K H a (ns.map V.int) ∧ 0 ≤ k ∧ ∀ c : Int, Q (.int c) H
theorem ok_cell (T : Txt K mg) : L2.Cl P w K mg base 1 "_law_cell_at" ["_law_script", "_law_k"] (spCell K) := by
  refine Cl.of T.d_law_cell_at sc_law_cell_at (fun vs H Q E h => ?_) (fun _ _ _ _ _ _ us hl => by obtain ⟨a, b, rfl⟩ := len2 hl; rfl) (fun f cdv A outer s H vs Q E hr h => ?_)
  · obtain ⟨a, ns, k, rfl, _⟩ := h
    rfl
  · obtain ⟨a, ns, k, rfl, hS, hk, q⟩ := h
    refine ⟨_, (pss_cons (ps_if (pt_cmpR op_lt (pv 1) (pe_callB call_len_seq (by rfl) T.n_len PySem.boot_len (pa_cons (pv 0) pa_nil)) (nomark _))
        (pss_one (ps_ret (pe_ix ix_list (pv 0) (pv 1) (fun _ _ => rfl)))) pss_nil)
      (pss_one (ps_ret pe_int))), ?_⟩
    refine ⟨_, rfl, _, rfl, a, _, rfl, .inl hS, _, _, rfl, rfl, _, rfl, ?_⟩
    refine ite2 (fun hlt => ?_) (fun hlt => ?_)
    · have hlt' : k < (ns.length : Int) := by simpa using hlt
      refine ⟨_, rfl, _, rfl, a, _, _, _, rfl, rfl, hS, atI_map V.int ns 0 hk hlt', ?_⟩
      exact q _
    · exact q 0
noncomputable def spMixed : Sp := fun vs H Q _ => ∃ c k p : Int, vs = [.int c, .int k, .int p] ∧ 0 ≤ k ∧ k < 1000 ∧ 0 < p ∧ Q (.int (mixM c k p)) H
theorem ok_mixed (T : Txt K mg) : L2.Cl P w K mg base 1 "_law_mixed" ["_law_cell", "_law_k", "_law_prime"] spMixed := by
  refine Cl.of T.d_law_mixed sc_law_mixed (fun vs H Q E h => ?_) (fun _ _ _ _ _ _ us hl => by obtain ⟨a, b, c, rfl⟩ := len3 hl; rfl) (fun f cdv A outer s H vs Q E hr h => ?_)
  · obtain ⟨c, k, p, rfl, _⟩ := h
    rfl
  · obtain ⟨c, k, p, rfl, hk, hk2, hp, q⟩ := h
    refine ⟨_, (pss_one (ps_ret (pe_op op_mod (pe_op op_add (pe_op op_add (pe_op op_mul (pv 0) pe_int) (pe_op op_mul (pe_op op_mul pe_int (pv 1)) (pv 1))) (pe_op op_mul pe_int (pv 1))) (pv 2)))), ?_⟩
    exact ⟨_, rfl, _, _, rfl, rfl, .inr ⟨by decide, by decide⟩, _, rfl, _, _, rfl, rfl, .inl ⟨by decide, by decide⟩, _, rfl, _, _, rfl, rfl, .inr ⟨by omega, by omega⟩, _, _, rfl, rfl, _, rfl, _, _, rfl, rfl, .inl ⟨by decide, by decide⟩, _, _, rfl, rfl, _, rfl, _, _, rfl, rfl, hp, q⟩
noncomputable def spNms : Sp := fun vs H Q _ => ∃ (c n : Int), vs = [.int c, .int n] ∧ 1 ≤ n ∧ n ≤ 24 ∧ ∀ (l : Addr) (ns : List Str) (H' : Hp), Same H H' → H l = none → H' l = some (.lst (ns.map V.str)) → ns.length = n.toNat → ns.Nodup → Q (.ref l) H'
theorem ok_names (T : Txt K mg) : L2.Cl P w K mg base 2 "_law_names" ["_law_cell", "_law_many"] spNms := by
  have C_law_mixed := ok_mixed (P := P) (w := w) (base := base) T
  refine Cl.of T.d_law_names sc_law_names (fun vs H Q E h => ?_) (fun _ _ _ _ _ _ us hl => by obtain ⟨a, b, rfl⟩ := len2 hl; rfl) (fun f cdv A outer s H vs Q E hr h => ?_)
  · obtain ⟨c, n, rfl, _⟩ := h
    rfl
  · obtain ⟨c, n, rfl, hn1, hn2, q⟩ := h
    refine ⟨_, (pss_cons (ps_set (i := 2) sc_law_names.nd rfl (Or.inr rfl) pe_str)
      (pss_cons (ps_set (i := 3) sc_law_names.nd rfl (Or.inl rfl) (pe_op op_add_str (pv 2) pe_str))
      (pss_cons (ps_set (i := 4) sc_law_names.nd rfl (Or.inr rfl) (pe_comp (M := ["_law_k", "_law_letters", "_law_cell"]) (ρ := [none, some 2, some 0]) (defScope s_law_names) ["_law_cell", "_law_many", "_law_letters", "_law_signs", "_law_base", "_law_names_here", "_law_long", "_law_at", "_law_step", "_law_k", "_law_sign"] ⟨rfl, by decide +kernel, by decide +kernel, by decide +kernel, rfl, by decide +kernel, by decide +kernel⟩ (pi_range1 (by rfl) T.n_range (pa_cons pe_int pa_nil)) (fun _ _ _ _ _ _ => (pg_name (i := 0) (show (["_law_k", "_law_letters", "_law_cell"] : List Str).Nodup by decide +kernel) rfl (Or.inl rfl))) (fun _ _ _ _ _ _ => pts_nil) (fun _ _ _ _ _ _ => (pe_ix ix_str (pv 1) (pe_op op_mod (pe_fn C_law_mixed hr (by rfl) (pa_cons (pv 2) (pa_cons (pv 0) (pa_cons pe_int pa_nil)))) pe_int) (fun _ _ => rfl)))))
      (pss_cons (ps_if (PW.pt (pw_and (pt_cmpR op_eq (pe_op op_mod (pe_op op_fdiv (pv 0) pe_int) pe_int) pe_int (nomark _)) (pw_and1 (pt_cmpR op_lt (pv 1) pe_int (nomark _)))))
        (pss_one (ps_setC (j := 5) (M := ["_law_k", "_law_base"]) (ρ := [none, some 4]) (defScope s_law_names) ["_law_cell", "_law_many", "_law_letters", "_law_signs", "_law_base", "_law_names_here", "_law_long", "_law_at", "_law_step", "_law_k", "_law_sign"] ⟨rfl, by decide +kernel, by decide +kernel, by decide +kernel, rfl, by decide +kernel, by decide +kernel⟩ sc_law_names.nd rfl (Or.inl rfl) (pi_range1 (by rfl) T.n_range (pa_cons (pv 1) pa_nil)) (fun _ _ _ _ _ _ => (pg_name (i := 0) (show (["_law_k", "_law_base"] : List Str).Nodup by decide +kernel) rfl (Or.inl rfl))) (fun _ _ _ _ _ _ => pts_nil) (fun _ _ _ _ _ _ => (pe_bmK (K := K) rfl PySem.F.plainAttrs_str PySem.F.slot_str_join PySem.F.type_str_join (mt_joinK (K := K) rfl) pe_str (pa_cons (pe_slice (sl_listK (K := K) rfl) (pv 1) po_none (po_some (pe_op op_add (pv 0) pe_int))) pa_nil))))) (pss_cons (ps_set (i := 6) sc_law_names.nd rfl (Or.inl rfl) (pe_op op_add pe_int (pe_op op_mod (pv 0) pe_int)))
        (pss_cons (ps_set (i := 7) sc_law_names.nd rfl (Or.inl rfl) (pe_op op_mod (pe_op op_fdiv (pv 0) pe_int) (pv 6)))
        (pss_cons (ps_set (i := 8) sc_law_names.nd rfl (Or.inl rfl) (pe_ix ix_list (pe_lst (pa_cons pe_int (pa_cons pe_int (pa_cons pe_int (pa_cons pe_int (pa_cons pe_int (pa_cons pe_int pa_nil))))))) (pe_op op_mod (pe_fn C_law_mixed hr (by rfl) (pa_cons (pv 0) (pa_cons pe_int (pa_cons pe_int pa_nil)))) pe_int) (fun _ _ => rfl)))
        (pss_cons (ps_set (i := 5) sc_law_names.nd rfl (Or.inl rfl) (pe_lst pa_nil))
        (pss_one (ps_for PassesOwn.never rfl (pi_range1 (by rfl) T.n_range (pa_cons (pv 1) pa_nil)) (pg_name (i := 9) sc_law_names.nd rfl (Or.inl rfl))
          (pss_cons (ps_set (i := 10) sc_law_names.nd rfl (Or.inl rfl) (pe_ix ix_str (pv 2) (pe_op op_mod (pe_op op_add (pe_op op_fdiv (pv 0) pe_int) (pe_op op_mul (pv 9) (pv 8))) pe_int) (fun _ _ => rfl)))
          (pss_cons (ps_if (pt_cmpR op_gt (pv 7) pe_int (nomark _))
            (pss_one (ps_set (i := 10) sc_law_names.nd rfl (Or.inl rfl) (pe_ix ix_str (pv 3) (pe_op op_mod (pe_op op_add (pe_op op_fdiv (pv 0) pe_int) (pe_op op_mul (pv 9) (pv 8))) pe_int) (fun _ _ => rfl)))) pss_nil)
          (pss_one (ps_expr (pe_bm PySem.F.plainAttrs_list PySem.F.slot_list_append PySem.F.type_list_append mt_append (pv 5) (pa_cons (pe_op op_add_str (pe_op op_add_str (pe_bm PySem.F.plainAttrs_str PySem.F.slot_str_join PySem.F.type_str_join mt_join pe_str (pa_cons (pe_slice sl_list (pv 4) po_none (po_some (pv 7))) pa_nil)) (pv 10)) (pe_bm PySem.F.plainAttrs_str PySem.F.slot_str_join PySem.F.type_str_join mt_join pe_str (pa_cons (pe_slice sl_list (pv 4) (po_some (pe_op op_add (pv 7) pe_int)) (po_some (pv 6))) pa_nil))) pa_nil)))))))))))))
      (pss_cons (ps_if (pt_cmpR op_eq (pe_op op_mod (pe_op op_fdiv (pv 0) pe_int) pe_int) pe_int (nomark _))
        (pss_one (ps_expr (pe_bm0 PySem.F.plainAttrs_list PySem.F.slot_list_reverse PySem.F.type_list_reverse mt_reverse (pv 5)))) pss_nil)
      (pss_one (ps_ret (pv 5)))))))), ?_⟩
    refine ⟨_, rfl, _, _, rfl, rfl, (by decide +kernel), _, rfl, by decide, by decide, fun B gB => ?_⟩
    refine comp_by 8 (fun i σ H2 => ∃ v0 : Option V, σ = [v0, some (.str lets), some (.int c)] ∧ Same H H2 ∧ H2 B = some (.lst (chs (baseN c i)))) ⟨_, rfl, (Same.refl H).new gB, upd_same⟩ ?_ ?_
    · rintro i σ H2 hi ⟨v0, rfl, s2, hB⟩
      refine ⟨hi, ?_⟩
      rintro x H3 ⟨rfl, rfl⟩
      refine ntG ?_
      refine ⟨_, rfl, _, rfl, _, rfl, c, 0 + (i : Int), 65519, rfl, by omega, by omega, by decide, _, _, rfl, rfl, (by show (0 : Int) < 26; decide), lets, _, _, rfl, rfl, (by decide +kernel), atI_getD _ 0 (by omega) (by rw [lets_len]; omega), ?_⟩
      refine ⟨_, hB, small1000 (by rw [chs_len, baseN_len]; omega), _, rfl, s2.put gB, ?_⟩
      rw [upd_same, baseN_succ, chs_snoc, Int.zero_add]
      rfl
    · rintro σ H2 ⟨v0, rfl, s2, hB⟩
      refine ⟨Nat.le_refl _, ?_⟩
      have gB' : H2 B = some (.lst (chs (baseN c 8))) := hB
      refine g_if_p (a := decide (V.int (c / 5 % 4) = V.int 1) && decide (n < 9)) ?_ ?_
      · exact tand_pure (fun Q' h => ⟨_, rfl, _, _, rfl, rfl, ⟨by decide, by decide⟩, _, _, rfl, rfl, (by show (0 : Int) < 4; decide), rfl, _, rfl, h⟩) (fun Q' h => ⟨_, rfl, _, _, rfl, rfl, _, rfl, h⟩)
      refine ite2 (fun hm => ?_) (fun hm => ?_)
      · have hn9 : n < 9 := by
          rw [Bool.and_eq_true] at hm
          exact of_decide_eq_true hm.2
        refine ⟨_, rfl, _, rfl, by omega, by omega, fun D gD => ?_⟩
        refine comp_by n.toNat (fun i σ H3 => ∃ v0 : Option V, σ = [v0, some (.ref B)] ∧ Same H2 H3 ∧ H3 D = some (.lst (((List.range i).map (nmP c)).map V.str))) ⟨_, rfl, (Same.refl H2).new gD, upd_same⟩ ?_ ?_
        · rintro i σ H3 hi ⟨v0, rfl, s3, hD⟩
          refine ⟨hi, ?_⟩
          rintro x H4 ⟨rfl, rfl⟩
          refine ntG ?_
          refine ⟨rfl, _, rfl, _, rfl, _, _, rfl, rfl, _, rfl, B, _, rfl, SqL.of (s3 _ _ gB'), fun p gp => ?_⟩
          have hcut : cutV (chs (baseN c 8)) none (some (0 + (i : Int) + 1)) = chs ((baseN c 8).take (i + 1)) := by
            rw [show (0 + (i : Int) + 1) = ((i + 1 : Nat) : Int) by omega, cut_take (by rw [chs_len, baseN_len]; omega), chs_take]
          rw [hcut]
          have s4 : Same H2 (upd H4 p (.lst (chs ((baseN c 8).take (i + 1))))) := s3.new gp
          refine ⟨_, p, ((baseN c 8).take (i + 1)).map ch, rfl, rfl, .inr (SqL.of upd_same), (by decide +kernel), (by rw [ch_sum, List.length_map]; have : ((baseN c 8).take (i + 1)).length ≤ 8 := by { rw [List.length_take, baseN_len]; omega }; omega), ?_⟩
          refine ⟨_, upd_keep hD gp, small1000 (by rw [List.length_map, List.length_map, List.length_range]; omega), _, rfl, s4.put gD, ?_⟩
          rw [upd_same, range_map_succ, List.map_append, join0S]
          rfl
        · rintro σ H3 ⟨v0, rfl, s3, hD⟩
          refine ⟨Nat.le_refl _, ?_⟩
          have hnd : ((List.range n.toNat).map (nmP c)).Nodup := nodup_range_map fun k l hk hl e => nmP_inj (by omega) (by omega) e
          have hlen : ((List.range n.toNat).map (nmP c)).length = n.toNat := by simp
          generalize (List.range n.toNat).map (nmP c) = ns at hnd hlen hD
          have gDH : H D = none := s2.free gD
          refine ⟨_, rfl, _, _, rfl, rfl, ⟨by decide, by decide⟩, _, _, rfl, rfl, (by show (0 : Int) < 2; decide), rfl, _, rfl, ?_⟩
          refine ite2I (fun _ => ?_) (fun _ => ?_)
          · refine ⟨_, rfl, .inl ⟨rfl, _, SqL.of hD⟩, D, _, rfl, rfl, hD, ?_⟩
            refine ⟨_, rfl, q D ns.reverse _ ((s2.trans s3).put gDH) gDH (by rw [upd_same, List.map_reverse]) (by rw [List.length_reverse, hlen]) (nodup_rev hnd)⟩
          · exact ⟨_, rfl, q D ns _ (s2.trans s3) gDH hD hlen hnd⟩
      · refine ⟨_, rfl, _, _, rfl, rfl, (by show (0 : Int) < 8; decide), _, _, rfl, rfl, ?_⟩
        refine ⟨_, rfl, _, _, rfl, rfl, ⟨by decide, by decide⟩, _, rfl, _, _, rfl, rfl, (by show (0 : Int) < 1 + c % 8; omega), ?_⟩
        obtain ⟨lg, hlg, hlg1⟩ : ∃ lg : Nat, 1 + c % 8 = (lg : Int) ∧ 1 ≤ lg ∧ lg ≤ 8 := ⟨(1 + c % 8).toNat, by omega, by omega, by omega⟩
        rw [hlg]
        obtain ⟨at', hat, hat1⟩ : ∃ a : Nat, c / 8 % (lg : Int) = (a : Int) ∧ a < lg := ⟨(c / 8 % (lg : Int)).toNat, by have := Int.emod_nonneg (c / 8) (show (lg : Int) ≠ 0 by omega); omega, by have := Int.emod_lt_of_pos (c / 8) (show 0 < (lg : Int) by omega); have := Int.emod_nonneg (c / 8) (show (lg : Int) ≠ 0 by omega); omega⟩
        show gName 7 (V.int (c / 8 % (lg : Int))) _ _ _
        rw [hat]
        refine ⟨(by show 6 ≤ sizeLine; decide), fun st gst => ?_⟩
        have s3 : Same H2 (upd H2 st (.lst [.int 1, .int 5, .int 7, .int 11, .int 17, .int 25])) := (Same.refl H2).new gst
        refine ⟨_, rfl, c, 9, 65521, rfl, by decide, by decide, by decide, _, _, rfl, rfl, (by show (0 : Int) < 6; decide), st, _, _, _, rfl, rfl, SqL.of upd_same, atI_map V.int stepL 0 (by omega) (by show mixM c 9 65521 % 6 < 6; omega), ?_⟩
        generalize upd H2 st (.lst [.int 1, .int 5, .int 7, .int 11, .int 17, .int 25]) = H3 at s3 ⊢
        refine ⟨(by show 0 ≤ sizeLine; decide), fun D gD => ?_⟩
        have s4 : Same H2 (upd H3 D (.lst [])) := s3.new gD
        have gD2 : H2 D = none := s3.free gD
        have gDH : H D = none := s2.free gD2
        refine ⟨_, rfl, _, rfl, by omega, by omega, for_range (fun i σ H5 => ∃ v9 v10 : Option V, σ = [some (.int c), some (.int n), some (.str lets), some (.str sg36), some (.ref B), some (.ref D), some (.int (lg : Int)), some (.int (at' : Int)), some (.int (stepM c)), v9, v10] ∧ Same H2 H5 ∧ H5 D = some (.lst (((List.range i).map fun k => nmA (baseN c 8) at' lg (sgn c at' k)).map V.str)))
          ⟨none, none, ?_, s4, upd_same⟩ ?_ ?_⟩
        · rw [← sg36_eq, ← hlg]; rfl
        · rintro i σ H5 hi ⟨v9, v10, rfl, s5, hD⟩
          have hst := stepM_in c
          refine ⟨_, rfl, _, rfl, _, _, rfl, rfl, ⟨by decide, by decide⟩, _, rfl, _, rfl, _, _, rfl, rfl, .inl ⟨by omega, by omega⟩, _, _, rfl, rfl, _, _, rfl, rfl, (by show (0 : Int) < 26; decide), lets, _, _, rfl, rfl, (by decide +kernel), atI_getD _ 0 (by omega) (by rw [lets_len]; omega), ?_⟩
          have hb1 : ((baseN c 8).take at').length ≤ 8 := by rw [List.length_take, baseN_len]; omega
          have hb2 : (((baseN c 8).drop (at' + 1)).take (lg - (at' + 1))).length ≤ 8 := by rw [List.length_take, List.length_drop, baseN_len]; omega
          rw [Int.zero_add]
          refine ⟨_, rfl, _, _, rfl, rfl, _, rfl, ?_⟩
          refine ite2 (fun hpos => ?_) (fun hpos => ?_)
          · have hpos' : 0 < at' := by have := of_decide_eq_true hpos; omega
            refine ⟨_, rfl, _, rfl, _, _, rfl, rfl, ⟨by decide, by decide⟩, _, rfl, _, rfl, _, _, rfl, rfl, .inl ⟨by omega, by omega⟩, _, _, rfl, rfl, _, _, rfl, rfl, (by show (0 : Int) < 36; decide), sg36, _, _, rfl, rfl, (by decide +kernel), atI_getD _ 0 (by omega) (by rw [sg36_len]; omega), ?_⟩
            refine ⟨_, rfl, .inl ⟨rfl, _, SqL.of hD⟩, rfl, _, rfl, _, rfl, _, rfl, B, _, rfl, SqL.of (s5 _ _ gB'), fun p gp => ?_⟩
            rw [cut_take (by rw [chs_len, baseN_len]; omega), chs_take]
            have s6 : Same H2 (upd H5 p (.lst (chs ((baseN c 8).take at')))) := s5.new gp
            refine ⟨_, p, ((baseN c 8).take at').map ch, rfl, rfl, .inr (SqL.of upd_same), (by decide +kernel), (by rw [ch_sum, List.length_map]; omega), ?_⟩
            rw [join0S]
            refine ⟨_, rfl, lS ((baseN c 8).take at'), ch (sgAt ((c / 64 + (i : Int) * stepM c) % 36)), rfl, rfl, (by rw [lS_len]; show _ + 1 ≤ sizeLine; exact Nat.le_of_lt (small1000 (by omega))), ?_⟩
            refine ⟨rfl, _, rfl, _, rfl, _, _, rfl, rfl, _, rfl, _, rfl, _, rfl, B, _, rfl, SqL.of (s6 _ _ gB'), fun p2 gp2 => ?_⟩
            rw [show ((at' : Int) + 1) = ((at' + 1 : Nat) : Int) by omega, cut_mid _ _ _ (by omega) (by rw [chs_len, baseN_len]; omega), chs_drop, chs_take]
            have s7 := s6.new (o := .lst (chs (((baseN c 8).drop (at' + 1)).take (lg - (at' + 1))))) gp2
            refine ⟨_, p2, (((baseN c 8).drop (at' + 1)).take (lg - (at' + 1))).map ch, rfl, rfl, .inr (SqL.of upd_same), (by decide +kernel), (by rw [ch_sum, List.length_map]; omega), ?_⟩
            rw [join0S]
            refine ⟨lS ((baseN c 8).take at') ++ ch (sgAt ((c / 64 + (i : Int) * stepM c) % 36)), lS (((baseN c 8).drop (at' + 1)).take (lg - (at' + 1))), rfl, rfl, (by rw [Str.length_append, lS_len, lS_len]; show _ + 1 + _ ≤ sizeLine; exact Nat.le_of_lt (small1000 (by omega))), ?_⟩
            refine ⟨D, _, _, rfl, rfl, upd_keep (upd_keep hD gp) gp2, small1000 (by rw [List.length_map, List.length_map, List.length_range]; omega), ?_⟩
            refine ⟨_, _, rfl, s7.put gD2, ?_⟩
            rw [upd_same, range_map_succ, List.map_append]
            have e : lS ((baseN c 8).take at') ++ ch (sgAt ((c / 64 + (i : Int) * stepM c) % 36)) ++ lS (((baseN c 8).drop (at' + 1)).take (lg - (at' + 1))) = nmA (baseN c 8) at' lg (sgn c at' i) := by
              unfold nmA sgn
              rw [if_pos hpos', ch_lS, lS_app, lS_app]
            rw [e]
            rfl
          · have hpos' : ¬ 0 < at' := fun z => hpos (decide_eq_true (by omega))
            refine ⟨_, rfl, .inl ⟨rfl, _, SqL.of hD⟩, rfl, _, rfl, _, rfl, _, rfl, B, _, rfl, SqL.of (s5 _ _ gB'), fun p gp => ?_⟩
            rw [cut_take (by rw [chs_len, baseN_len]; omega), chs_take]
            have s6 : Same H2 (upd H5 p (.lst (chs ((baseN c 8).take at')))) := s5.new gp
            refine ⟨_, p, ((baseN c 8).take at').map ch, rfl, rfl, .inr (SqL.of upd_same), (by decide +kernel), (by rw [ch_sum, List.length_map]; omega), ?_⟩
            rw [join0S]
            refine ⟨_, rfl, lS ((baseN c 8).take at'), ch (letAt ((c / 64 + (i : Int) * stepM c) % 26)), rfl, rfl, (by rw [lS_len]; show _ + 1 ≤ sizeLine; exact Nat.le_of_lt (small1000 (by omega))), ?_⟩
            refine ⟨rfl, _, rfl, _, rfl, _, _, rfl, rfl, _, rfl, _, rfl, _, rfl, B, _, rfl, SqL.of (s6 _ _ gB'), fun p2 gp2 => ?_⟩
            rw [show ((at' : Int) + 1) = ((at' + 1 : Nat) : Int) by omega, cut_mid _ _ _ (by omega) (by rw [chs_len, baseN_len]; omega), chs_drop, chs_take]
            have s7 := s6.new (o := .lst (chs (((baseN c 8).drop (at' + 1)).take (lg - (at' + 1))))) gp2
            refine ⟨_, p2, (((baseN c 8).drop (at' + 1)).take (lg - (at' + 1))).map ch, rfl, rfl, .inr (SqL.of upd_same), (by decide +kernel), (by rw [ch_sum, List.length_map]; omega), ?_⟩
            rw [join0S]
            refine ⟨lS ((baseN c 8).take at') ++ ch (letAt ((c / 64 + (i : Int) * stepM c) % 26)), lS (((baseN c 8).drop (at' + 1)).take (lg - (at' + 1))), rfl, rfl, (by rw [Str.length_append, lS_len, lS_len]; show _ + 1 + _ ≤ sizeLine; exact Nat.le_of_lt (small1000 (by omega))), ?_⟩
            refine ⟨D, _, _, rfl, rfl, upd_keep (upd_keep hD gp) gp2, small1000 (by rw [List.length_map, List.length_map, List.length_range]; omega), ?_⟩
            refine ⟨_, _, rfl, s7.put gD2, ?_⟩
            rw [upd_same, range_map_succ, List.map_append]
            have e : lS ((baseN c 8).take at') ++ ch (letAt ((c / 64 + (i : Int) * stepM c) % 26)) ++ lS (((baseN c 8).drop (at' + 1)).take (lg - (at' + 1))) = nmA (baseN c 8) at' lg (sgn c at' i) := by
              unfold nmA sgn
              rw [if_neg hpos', ch_lS, lS_app, lS_app]
            rw [e]
            rfl
        · rintro σ H5 ⟨v9, v10, rfl, s5, hD⟩
          have hnd : ((List.range n.toNat).map fun k => nmA (baseN c 8) at' lg (sgn c at' k)).Nodup := nodup_range_map fun k l hk hl e => sgn_inj (by omega) (by omega) (nmA_inj e)
          have hlen : ((List.range n.toNat).map fun k => nmA (baseN c 8) at' lg (sgn c at' k)).length = n.toNat := by simp
          generalize ((List.range n.toNat).map fun k => nmA (baseN c 8) at' lg (sgn c at' k)) = ns at hnd hlen hD
          refine ⟨_, rfl, _, _, rfl, rfl, ⟨by decide, by decide⟩, _, _, rfl, rfl, (by show (0 : Int) < 2; decide), rfl, _, rfl, ?_⟩
          refine ite2I (fun _ => ?_) (fun _ => ?_)
          · refine ⟨_, rfl, .inl ⟨rfl, _, SqL.of hD⟩, D, _, rfl, rfl, hD, ?_⟩
            refine ⟨_, rfl, q D ns.reverse _ ((s2.trans s5).put gDH) gDH (by rw [upd_same, List.map_reverse]) (by rw [List.length_reverse, hlen]) (nodup_rev hnd)⟩
          · exact ⟨_, rfl, q D ns _ (s2.trans s5) gDH hD hlen hnd⟩
theorem to_g {X R : TS} {D : Ends} {r : VK} {b k : L2.St → Hp → Prop} {i : Nat} {v : V} {σ : L2.St} {H : Hp} (h : tSeq X R D (σ.set i (some v)) H) : gName i v σ H (Ends.nx ⟨tSeq X R D, r, b, k⟩) := h
theorem call_tuple_ofF {X : Cx} : CallR X (.type "tuple") (fun xs H Q => ∃ p ys, xs = [.ref p] ∧ SqL X.K H p ys ∧ ∀ l o, H l = none → o.dict = none → Q (.ref l) (upd H l (.frz o (.tup ys)))) := by
  intro pins s σ H xs us Q I r h
  obtain ⟨p, ys, rfl, hq, q⟩ := h
  obtain ⟨u, rfl, rx⟩ := vals1 r
  cases rx
  obtain ⟨its, r', pl, hz⟩ := I.list hq
  have hlen := r'.length
  refine call_tuple_list pl.isList (fun h' kp => ?_) (by simp only [List.size_toArray] <;> omega)
  have I1 : Inv X pins σ H { s with heap := h' } := I.kept (t' := s.toks) kp
  have I2 : Inv X pins σ (upd H h'.objs.size (.frz { cls := .type "tuple", data := .seq its.toArray } (.tup ys))) { s with heap := h'.push { cls := .type "tuple", data := .seq its.toArray } } :=
    I1.laid (t' := s.toks) (fun b o e => Heap.get?_push_of_some _ e) (Nat.le_refl _) ⟨Heap.get?_push_size _ rfl, hz, its, r', ⟨_, Heap.get?_push_size _ rfl, rfl, _, rfl⟩⟩
  exact ⟨.ref h'.objs.size, _, I2, rfl, q _ _ (I1.hok.fresh (Nat.le_refl _)) rfl⟩
structure PsFit (ps : List Pt) : Prop where
  nd : (ps.map (·.1)).Nodup
  hi : ps.length ≤ 24
  rows : ∀ pt ∈ ps, pt.2.length ≤ 40
theorem comp_new {K : PySem.W.Frag} {a : Addr} {xs : List V} {Qh : Hp → Prop} {v : Option V} {H : Hp} {D : Addr} (hl : H a = some (.lst xs)) (hD : H D = none) (hx : xs.length ≤ 900)
    (q : ∀ (as : List Addr) (H' : Hp), Same H H' → H' D = some (.lst (as.map V.ref)) → as.length = xs.length → as.Nodup → (∀ b ∈ as, H b = none ∧ b ≠ D ∧ H' b = some (.lst [])) → Qh H') :
    ∃ W : Nat → Nat → L2.St → Hp → Prop, (∃ m, W 0 m [v] (upd H D (.lst []))) ∧ ∀ i m σ2 H2, W i m σ2 H2 →
      ((Itl K a).stop i H2 ∧ Qh H2) ∨ ((Itl K a).go i H2 ∧ ∃ N : L2.St → Hp → Prop, (∀ σ' H', N σ' H' → ∃ m', m' < m ∧ W (i + 1) m' σ' H') ∧ ∀ x H3, (Itl K a).yld i H2 x H3 → gName 0 x σ2 H3 fun σ4 H4 => tNoTest σ4 H4 fun b H5 =>
        if b = true then tLst tNil σ4 H5 fun y H6 => ∃ ys, H6 D = some (.lst ys) ∧ ys.length < sizeLine ∧ N σ4 (upd H6 D (.lst (ys ++ [y]))) else N σ4 H5) := by
  refine comp_by xs.length (fun i σ H2 => ∃ (v0 : Option V) (as : List Addr), σ = [v0] ∧ Same H H2 ∧ H2 D = some (.lst (as.map V.ref)) ∧ as.length = i ∧ as.Nodup ∧ ∀ b ∈ as, H b = none ∧ b ≠ D ∧ H2 b = some (.lst [])) ⟨v, [], rfl, (Same.refl H).new hD, upd_same, rfl, List.nodup_nil, by simp⟩ ?_ ?_
  · rintro i σ H2 hi ⟨v0, as, rfl, s2, hD2, hlen, hnd, hall⟩
    refine ⟨⟨xs, xs[i], SqL.of (s2 _ _ hl), by simp⟩, ?_⟩
    rintro x H3 ⟨rfl, _⟩
    refine ntG ?_
    refine ⟨(by show 0 ≤ sizeLine; decide), fun p gp => ?_⟩
    have hpD : p ≠ D := fun z => by rw [z, hD2] at gp; cases gp
    have hD3 : upd H3 p (.lst []) D = some (.lst (as.map V.ref)) := upd_keep hD2 gp
    refine ⟨_, hD3, small1000 (by rw [List.length_map]; omega), _, as ++ [p], rfl, (s2.new gp).put hD, ?_, by rw [List.length_append, hlen]; rfl, ?_, ?_⟩
    · rw [upd_same, List.map_append]; rfl
    · rw [List.nodup_append]
      refine ⟨hnd, by simp, fun b hb c hc e => ?_⟩
      rw [List.mem_singleton.mp hc] at e
      have := (hall b hb).2.2
      rw [e, gp] at this
      cases this
    · intro b hb
      rcases List.mem_append.mp hb with z | z
      · obtain ⟨h1, h2, h3⟩ := hall b z
        exact ⟨h1, h2, by rw [upd_ne h2]; exact upd_keep h3 gp⟩
      · rw [List.mem_singleton.mp z]
        exact ⟨s2.free gp, hpD, by rw [upd_ne hpD, upd_same]⟩
  · rintro σ H2 ⟨v0, as, rfl, s2, hD2, hlen, hnd, hall⟩
    exact ⟨⟨xs, SqL.of (s2 _ _ hl), Nat.le_refl _⟩, q as H2 s2 hD2 hlen hnd hall⟩
noncomputable def InN (ns : List Str) : Rw → Prop
  | .bring p _ => p ∈ ns
  | .ask p _ => p ∈ ns
  | _ => True
theorem inV_strs (x : Str) : ∀ l : List Str, inV (.str x) (l.map V.str) = decide (x ∈ l)
  | [] => by simp [inV]
  | a :: r => by
    have ih := inV_strs x r
    unfold inV at ih ⊢
    rw [List.map_cons, List.any_cons, ih]
    by_cases e : a = x
    · subst e; simp [eqV]
    · have h2 : ¬ x = a := fun z => e z.symm
      simp [eqV, e, h2]
theorem strs_flat : ∀ l : List Str, (l.map V.str).all flatV = true
  | [] => rfl
  | a :: r => by rw [List.map_cons, List.all_cons, strs_flat r]; rfl
theorem setD_val (l : List Str) (x : Str) : valV (setD l) (Sum.inr x) = if x ∈ l then some (.bl true) else none := by
  induction l with
  | nil => rfl
  | cons a r ih =>
    have e : setD (a :: r) = (Sum.inr a, .bl true) :: setD r := rfl
    rw [e]
    by_cases h : a = x
    · subst h
      rw [valV_pos rfl, if_pos List.mem_cons_self]
    · rw [valV_neg (fun z => h (Sum.inr.inj z)), ih]
      by_cases hm : x ∈ r
      · rw [if_pos hm, if_pos (List.mem_cons_of_mem _ hm)]
      · rw [if_neg hm, if_neg (fun z => by rcases List.mem_cons.mp z with y | y; exact h y.symm; exact hm y)]
theorem setD_some (l : List Str) (x : Str) : (valV (setD l) (Sum.inr x)).isSome = decide (x ∈ l) := by
  rw [setD_val]
  by_cases h : x ∈ l
  · rw [if_pos h, decide_eq_true h]; rfl
  · rw [if_neg h, decide_eq_false h]; rfl
theorem addN_mem (l : List Str) (x y : Str) : y ∈ addN l x ↔ y ∈ l ∨ y = x := by
  unfold addN
  by_cases h : x ∈ l
  · rw [if_pos h]
    exact ⟨.inl, fun z => by rcases z with z | z; exact z; rw [z]; exact h⟩
  · rw [if_neg h, List.mem_append, List.mem_singleton]
theorem g_while {c : TT} {tb R : TS} {D : Ends} {N : L2.St → Hp → Prop} {i : Nat} {v : V} {σ : L2.St} {H : Hp} (e : N = tSeq (tWhile c tb) R D) (h : tWhile c tb { D with nx := R D } (σ.set i (some v)) H) : gName i v σ H N := by
  show N (σ.set i (some v)) H
  rw [e]
  exact h
theorem addN_nodup {l : List Str} (h : l.Nodup) (x : Str) : (addN l x).Nodup := by
  unfold addN
  by_cases hx : x ∈ l
  · rw [if_pos hx]; exact h
  · rw [if_neg hx]
    refine List.nodup_append.mpr ⟨h, by simp, fun a ha b hb z => ?_⟩
    rw [List.mem_singleton.mp hb] at z
    exact hx (by rw [← z]; exact ha)
theorem mem_fold (k m : Str) : ∀ (rs : List Rw) (l : List Str), m ∈ rs.foldl (stepN k) l ↔ m ∈ l ∨ ∃ r ∈ rs, namesIt k r = some m
  | [], l => by simp
  | r :: rs, l => by
    rw [List.foldl_cons, mem_fold k m rs]
    have h : m ∈ stepN k l r ↔ m ∈ l ∨ namesIt k r = some m := by
      unfold stepN
      cases e : namesIt k r with
      | none => simp
      | some x =>
        show m ∈ addN l x ↔ _
        rw [addN_mem]
        simp only [Option.some.injEq]
        exact ⟨fun z => by rcases z with z | z; exact .inl z; exact .inr z.symm, fun z => by rcases z with z | z; exact .inl z; exact .inr z.symm⟩
    rw [h]
    simp only [List.mem_cons, exists_eq_or_imp, or_assoc]
theorem mem_namedOf (k m : Str) (rs : List Rw) : m ∈ namedOf k rs ↔ ∃ r ∈ rs, namesIt k r = some m := by
  unfold namedOf
  rw [mem_fold]
  simp
noncomputable def rowsOf (ps : List Pt) (n : Str) : List Rw := ((ps.find? fun p => decide (p.1 = n)).map (·.2)).getD []
theorem rowsOf_eq : ∀ {ps : List Pt} {n : Str} {rs : List Rw}, (ps.map (·.1)).Nodup → (n, rs) ∈ ps → rowsOf ps n = rs
  | [], n, rs, _, h => by simp at h
  | p :: ps, n, rs, hn, h => by
    rw [List.map_cons, List.nodup_cons] at hn
    rcases List.mem_cons.mp h with e | e
    · unfold rowsOf
      rw [List.find?_cons_of_pos (by rw [← e]; simp), ← e]; rfl
    · have hne : ¬ p.1 = n := fun z => hn.1 (by rw [z]; exact List.mem_map_of_mem (f := (·.1)) e)
      have := rowsOf_eq hn.2 e
      unfold rowsOf at this ⊢
      rw [List.find?_cons_of_neg (by simpa using hne)]
      exact this
noncomputable def k1 (ps : List Pt) (n : Str) : List Str := namedOf "bring" (rowsOf ps n)
noncomputable def ClosedB (ps : List Pt) : Prop := ∀ n ∈ ps.map (·.1), ∀ m ∈ k1 ps n, m ∈ ps.map (·.1)
theorem part_of {ps : List Pt} {n : Str} (h : n ∈ ps.map (·.1)) : ∃ rs, (n, rs) ∈ ps := by
  obtain ⟨p, hp, e⟩ := List.mem_map.mp h
  exact ⟨p.2, by rw [← e]; exact hp⟩
theorem nodup_len : ∀ (l N : List Str), l.Nodup → (∀ x ∈ l, x ∈ N) → l.length ≤ N.length
  | [], N, _, _ => Nat.zero_le _
  | a :: r, N, hn, hs => by
    rw [List.nodup_cons] at hn
    have ha : a ∈ N := hs a List.mem_cons_self
    have h1 := nodup_len r (N.erase a) hn.2 fun x hx => (List.mem_erase_of_ne (fun z => hn.1 (by rw [← z]; exact hx))).mpr (hs x (List.mem_cons_of_mem _ hx))
    rw [List.length_erase_of_mem ha] at h1
    have : 0 < N.length := List.length_pos_of_mem ha
    simp only [List.length_cons]; omega
inductive Rch (E : Str → Str → Prop) (S : List Str) : Str → Prop where
  | base {n : Str} : n ∈ S → Rch E S n
  | step {n m : Str} : Rch E S n → E n m → Rch E S m
theorem Rch.of {E : Str → Str → Prop} {S : List Str} {l : List Str} (h1 : ∀ n ∈ S, n ∈ l) (h2 : ∀ n ∈ l, ∀ m, E n m → m ∈ l) {n : Str} (h : Rch E S n) : n ∈ l := by
  induction h with
  | base h => exact h1 _ h
  | step _ e ih => exact h2 _ ih _ e
theorem foldP_snoc (qs : List (Str × V)) (q : Str × V) : foldP (qs ++ [q]) [] = putK (foldP qs []) (Sum.inr q.1) q.2 := by
  unfold foldP; rw [List.foldl_append]; rfl
theorem foldP_len : ∀ (qs : List (Str × V)) (m : List (Key × V)), (foldP qs m).length ≤ m.length + qs.length
  | [], m => by simp [foldP]
  | q :: r, m => by
    have h := foldP_len r (putK m (Sum.inr q.1) q.2)
    have h2 : (putK m (Sum.inr q.1) q.2).length ≤ m.length + 1 := by
      unfold putK
      split
      · rw [List.length_map]; omega
      · rw [List.length_append]; simp
    show (foldP r (putK m (Sum.inr q.1) q.2)).length ≤ _
    simp only [List.length_cons]; omega
theorem DGet.kr {H : Hp} {a : Addr} {kvs : List (Key × V)} {k : Key} (e : Rd H a (.dK kvs)) : DGet H a (kV k) (valV kvs k) := .inl ⟨kvs, k, e, rfl, rfl⟩
theorem Rd.same {H H' : Hp} {a : Addr} {u : HO} (s : Same H H') (h : Rd H a u) : Rd H' a u := by
  rcases h with h | ⟨o, h⟩
  · exact .inl (s _ _ h)
  · exact .inr ⟨o, s _ _ h⟩
noncomputable def spSpread : Sp := fun vs H Q _ => ∃ (d t : Addr) (kvs : List (Key × V)) (S N : List Str) (g : Str → List Str), vs = [.ref d, .ref t] ∧ Rd H d (.dK kvs) ∧ H t = some (.tup (S.map V.str)) ∧ (∀ n ∈ N, ∃ u, valV kvs (Sum.inr n) = some (.ref u) ∧ (H u = some (.lst ((g n).map V.str)) ∨ H u = some (.tup ((g n).map V.str)))) ∧ (∀ n ∈ S, n ∈ N) ∧ (∀ n ∈ N, ∀ m ∈ g n, m ∈ N) ∧ (∀ n ∈ N, (g n).length ≤ 2000) ∧ S.length ≤ 100 ∧ N.length ≤ 50 ∧
  ∀ (f : Addr) (l : List Str) (H' : Hp), Same H H' → H' f = some (.dK (setD l)) → (∀ n, n ∈ l ↔ Rch (fun a b => b ∈ g a) S n) → Q (.ref f) H'
noncomputable def muS (f wl : Addr) (H : Hp) : Nat := match H f, H wl with
  | some (.dK kvs), some (.lst W) => (50 - kvs.length) * 2001 + W.length
  | _, _ => 0
theorem muS_eq {f wl : Addr} {H : Hp} {l W : List Str} (h1 : H f = some (.dK (setD l))) (h2 : H wl = some (.lst (W.map V.str))) : muS f wl H = (50 - l.length) * 2001 + W.length := by
  unfold muS
  rw [h1, h2]
  simp only [setD_len, List.length_map]
theorem strs_drop (W : List Str) : (W.map V.str).dropLast = W.dropLast.map V.str := by
  rw [List.map_dropLast]
theorem ok_spread (T : Txt K mg) : L2.Cl P w K mg base 1 "spread" ["onward", "some"] spSpread := by
  refine Cl.of T.d_spread sc_spread (fun vs H Q E h => ?_) (fun _ _ _ _ _ _ us hl => by obtain ⟨a, b, rfl⟩ := len2 hl; rfl) (fun fa cdv A outer s H vs Q E hr h => ?_)
  · obtain ⟨d, t, kvs, S, N, g, rfl, _⟩ := h
    rfl
  · obtain ⟨d, t, kvs, S, N, g, rfl, hd, ht, hg, hSN, hgN, hg100, hS100, hN, q⟩ := h
    have hu := hu_of hr
    refine ⟨_, (pss_cons (ps_set (i := 2) sc_spread.nd rfl (Or.inl rfl) pe_dnewK)
      (pss_cons (ps_set (i := 3) sc_spread.nd rfl (Or.inl rfl) (pe_callTy call_list_of (by rfl) T.n_list boot_list (pa_cons (pv 1) pa_nil)))
      (pss_cons (ps_while PassesOwn.never (pt_truth (pv 3) (fun _ => rfl))
        (pss_cons (ps_set (i := 4) sc_spread.nd rfl (Or.inl rfl) (pe_bm0 PySem.F.plainAttrs_list PySem.F.slot_list_pop PySem.F.type_list_pop mt_pop (pv 3)))
        (pss_one (ps_if (pt_cmp (pc_dnotin hu (pv 4) (pv 2)))
          (pss_cons (ps_dput hu (pv 2) (pv 4) pe_bl rfl)
          (pss_one (ps_expr (pe_bm PySem.F.plainAttrs_list PySem.F.slot_list_extend PySem.F.type_list_extend mt_extend (pv 3) (pa_cons (pe_callTy call_list_of (by rfl) T.n_list boot_list (pa_cons (pe_dget hu (pv 0) (pv 4) (fun _ _ => rfl)) pa_nil)) pa_nil))))) pss_nil))))
      (pss_one (ps_ret (pv 2)))))), ?_⟩
    intro f gf
    have s1 : Same H (upd H f (.dK [])) := (Same.refl H).new gf
    refine ⟨_, rfl, t, _, rfl, .inr (SqT.of (s1 _ _ ht)), fun wl gw => ?_⟩
    have s2 : Same H (upd (upd H f (.dK [])) wl (.lst (S.map V.str))) := s1.new gw
    have hfw : f ≠ wl := ne_of_none (upd_same (H := H) (a := f) (o := .dK [])) gw
    have gwH : H wl = none := s1.free gw
    apply g_while
    · with_reducible_and_instances rfl
    refine while_by (fun σ H2 => ∃ (l W : List Str) (v4 : Option V), σ = [some (.ref d), some (.ref t), some (.ref f), some (.ref wl), v4] ∧ Same H H2 ∧ H2 f = some (.dK (setD l)) ∧ H2 wl = some (.lst (W.map V.str)) ∧ l.Nodup ∧ (∀ n ∈ l, n ∈ N) ∧ (∀ n ∈ W, n ∈ N) ∧ (∀ n ∈ l, Rch (fun a b => b ∈ g a) S n) ∧ (∀ n ∈ W, Rch (fun a b => b ∈ g a) S n) ∧ (∀ n ∈ S, n ∈ l ∨ n ∈ W) ∧ (∀ n ∈ l, ∀ m ∈ g n, m ∈ l ∨ m ∈ W) ∧ W.length + (50 - l.length) * 2001 ≤ 100200) (fun _ H2 => muS f wl H2)
      ⟨[], S, none, rfl, s2, by rw [upd_ne hfw, upd_same]; rfl, upd_same, List.nodup_nil, fun n hn => by simp at hn, hSN, fun n hn => by simp at hn, fun n hn => .base hn, fun n hn => .inr hn, fun n hn => by simp at hn, by simp only [List.length_nil]; omega⟩ ?_ ?_
    · rintro σ H2 ⟨l, W, v4, rfl, s3, hf, hw, hnd, hlN, hWN, hlR, hWR, hSl, hcl, hbd⟩
      refine ⟨_, rfl, _, .inl ⟨_, SqL.of hw, rfl⟩, ?_⟩
      have hll := nodup_len l N hnd hlN
      cases hW : W.getLast? with
      | none =>
        have hWe : W = [] := List.getLast?_eq_none_iff.mp hW
        subst hWe
        refine iteF ?_
        refine ⟨_, rfl, q f l H2 s3 hf fun n => ⟨hlR n, fun hr' => ?_⟩⟩
        refine Rch.of (fun n hn => ?_) (fun n hn m hm => ?_) hr'
        · rcases hSl n hn with z | z
          · exact z
          · simp at z
        · rcases hcl n hn m hm with z | z
          · exact z
          · simp at z
      | some x =>
        have hne : W ≠ [] := fun z => by rw [z] at hW; simp at hW
        have hWd : W = W.dropLast ++ [x] := by
          obtain ⟨ys, hys⟩ := List.getLast?_eq_some_iff.mp hW
          rw [hys, List.dropLast_concat]
        have hxW : x ∈ W := by rw [hWd]; simp
        have hpos : 0 < W.length := List.length_pos_of_mem hxW
        rw [show (!(W.map V.str).isEmpty) = true by cases W with | nil => exact absurd rfl hne | cons _ _ => rfl]
        refine iteT ?_
        have hlast : (W.map V.str)[(W.map V.str).length - 1]? = some (.str x) := by
          rw [List.getElem?_map, List.length_map, ← List.getLast?_eq_getElem?, hW]; rfl
        refine ⟨_, rfl, .inl ⟨rfl, _, SqL.of hw⟩, wl, _, _, rfl, rfl, hw, hlast, ?_⟩
        rw [strs_drop]
        have s4 : Same H (upd H2 wl (.lst (W.dropLast.map V.str))) := s3.put gwH
        have hf4 : upd H2 wl (.lst (W.dropLast.map V.str)) f = some (.dK (setD l)) := by rw [upd_ne hfw]; exact hf
        have hw4 : upd H2 wl (.lst (W.dropLast.map V.str)) wl = some (.lst (W.dropLast.map V.str)) := upd_same
        have hmu := muS_eq hf hw
        generalize upd H2 wl (.lst (W.dropLast.map V.str)) = H4 at s4 hf4 hw4 ⊢
        have hdl : W.dropLast.length = W.length - 1 := List.length_dropLast
        have hmemW : ∀ n, n ∈ W ↔ n ∈ W.dropLast ∨ n = x := fun n => by
          conv => lhs; rw [hWd]
          rw [List.mem_append, List.mem_singleton]
        refine ⟨_, rfl, _, rfl, f, _, rfl, DGet.k (k := Sum.inr x) hf4, ?_⟩
        refine ⟨_, rfl, ?_⟩
        rw [setD_some]
        by_cases hx : x ∈ l
        · rw [decide_eq_true hx]
          refine iteF ?_
          refine ⟨⟨l, W.dropLast, _, rfl, s4, hf4, hw4, hnd, hlN, fun n hn => hWN n ((hmemW n).mpr (.inl hn)), hlR, fun n hn => hWR n ((hmemW n).mpr (.inl hn)), fun n hn => ?_, fun n hn m hm => ?_, by omega⟩, ?_⟩
          · rcases hSl n hn with z | z
            · exact .inl z
            · rcases (hmemW n).mp z with y | y
              · exact .inr y
              · rw [y]; exact .inl hx
          · rcases hcl n hn m hm with z | z
            · exact .inl z
            · rcases (hmemW m).mp z with y | y
              · exact .inr y
              · rw [y]; exact .inl hx
          · show muS f wl H4 < muS f wl H2
            rw [muS_eq hf4 hw4, hmu]
            omega
        · rw [decide_eq_false hx]
          refine iteT ?_
          have hlen1 : l.length ≤ 50 := by omega
          have hxN : x ∈ N := hWN x hxW
          have hadd : addN l x = l ++ [x] := by unfold addN; rw [if_neg hx]
          have hnd' : (addN l x).Nodup := addN_nodup hnd x
          have hlN' : ∀ n ∈ addN l x, n ∈ N := fun n hn => by
            rcases (addN_mem l x n).mp hn with z | z
            · exact hlN n z
            · rw [z]; exact hxN
          have hll' := nodup_len _ N hnd' hlN'
          rw [hadd, List.length_append, List.length_singleton] at hll'
          refine ⟨_, rfl, _, rfl, f, _, rfl, DPut.k (k := Sum.inr x) hf4 (small1000 (by rw [setD_len]; omega)), ?_⟩
          rw [setD_put]
          have s5 : Same H (upd H4 f (.dK (setD (addN l x)))) := s4.put gf
          have hf5 : upd H4 f (.dK (setD (addN l x))) f = some (.dK (setD (addN l x))) := upd_same
          have hw5 : upd H4 f (.dK (setD (addN l x))) wl = some (.lst (W.dropLast.map V.str)) := by rw [upd_ne hfw.symm]; exact hw4
          generalize upd H4 f (.dK (setD (addN l x))) = H5 at s5 hf5 hw5 ⊢
          obtain ⟨u, hvu, hut⟩ := hg x hxN
          have hvd : DGet H5 d (.str x) (some (.ref u)) := by
            have := DGet.kr (k := Sum.inr x) (Rd.same s5 hd)
            rw [hvu] at this
            exact this
          refine ⟨_, rfl, .inl ⟨rfl, _, SqL.of hw5⟩, _, rfl, _, rfl, d, _, rfl, hvd, u, _, rfl, (hut.imp (fun z => SqL.of (s5 _ _ z)) fun z => SqT.of (s5 _ _ z)), fun c gc => ?_⟩
          have hwc : wl ≠ c := fun z => by rw [z, gc] at hw5; cases hw5
          have hfc : f ≠ c := fun z => by rw [z, gc] at hf5; cases hf5
          have h100 := hg100 x hxN
          refine ⟨wl, c, _, _, rfl, rfl, upd_keep hw5 gc, upd_same, Nat.le_of_lt (by
            have : sizeLine = 16777216 := sizeLine_eq
            rw [List.length_map, List.length_map]; omega), ?_⟩
          rw [← List.map_append]
          have s6 : Same H (upd (upd H5 c (.lst ((g x).map V.str))) wl (.lst ((W.dropLast ++ g x).map V.str))) := (s5.new gc).put gwH
          have hf6 : upd (upd H5 c (.lst ((g x).map V.str))) wl (.lst ((W.dropLast ++ g x).map V.str)) f = some (.dK (setD (addN l x))) := by rw [upd_ne hfw, upd_ne hfc]; exact hf5
          refine ⟨⟨addN l x, W.dropLast ++ g x, _, rfl, s6, hf6, upd_same, hnd', hlN', fun n hn => ?_, fun n hn => ?_, fun n hn => ?_, fun n hn => ?_, fun n hn m hm => ?_, ?_⟩, ?_⟩
          · rcases List.mem_append.mp hn with z | z
            · exact hWN n ((hmemW n).mpr (.inl z))
            · exact hgN x hxN n z
          · rcases (addN_mem l x n).mp hn with z | z
            · exact hlR n z
            · rw [z]; exact hWR x hxW
          · rcases List.mem_append.mp hn with z | z
            · exact hWR n ((hmemW n).mpr (.inl z))
            · exact .step (hWR x hxW) z
          · rcases hSl n hn with z | z
            · exact .inl ((addN_mem l x n).mpr (.inl z))
            · rcases (hmemW n).mp z with y | y
              · exact .inr (List.mem_append_left _ y)
              · exact .inl ((addN_mem l x n).mpr (.inr y))
          · rcases (addN_mem l x n).mp hn with z | z
            · rcases hcl n z m hm with y | y
              · exact .inl ((addN_mem l x m).mpr (.inl y))
              · rcases (hmemW m).mp y with c' | c'
                · exact .inr (List.mem_append_left _ c')
                · exact .inl ((addN_mem l x m).mpr (.inr c'))
            · subst z
              exact .inr (List.mem_append_right _ hm)
          · rw [hadd, List.length_append, List.length_append, List.length_singleton]; omega
          · show muS f wl _ < muS f wl H2
            rw [muS_eq hf6 upd_same, hmu, hadd, List.length_append, List.length_append, List.length_singleton]
            omega
    · rintro σ H2 Q1 Q2 hQ ⟨v, e, b, hb, hq⟩
      exact ⟨v, e, b, hb, hQ _ _ hq⟩
theorem putK_fresh {κ : Type} [DecidableEq κ] {kvs : List (κ × V)} {k : κ} {v : V} (h : k ∉ kvs.map (·.1)) : putK kvs k v = kvs ++ [(k, v)] := by
  unfold putK
  rw [if_neg]
  intro z
  obtain ⟨p, hp, e⟩ := List.any_eq_true.mp z
  exact h (by rw [← of_decide_eq_true e]; exact List.mem_map_of_mem (f := (·.1)) hp)
theorem foldP_map : ∀ (qs : List (Str × V)) (m : List (Key × V)), (qs.map (·.1)).Nodup → (∀ q ∈ qs, Sum.inr q.1 ∉ m.map (·.1)) → foldP qs m = m ++ qs.map fun q => (Sum.inr q.1, q.2)
  | [], m, _, _ => by simp [foldP]
  | q :: r, m, hn, hd => by
    rw [List.map_cons, List.nodup_cons] at hn
    have e : foldP (q :: r) m = foldP r (putK m (Sum.inr q.1) q.2) := rfl
    rw [e, putK_fresh (hd q List.mem_cons_self), foldP_map r _ hn.2 fun p hp z => ?_, List.append_assoc]
    · rfl
    · rw [List.map_append] at z
      rcases List.mem_append.mp z with y | y
      · exact hd p (List.mem_cons_of_mem _ hp) y
      · have e2 : Sum.inr p.1 = (Sum.inr q.1 : Key) := List.mem_singleton.mp y
        exact hn.1 (by rw [← Sum.inr.inj e2]; exact List.mem_map_of_mem (f := (·.1)) hp)
theorem keys_fold {qs : List (Str × V)} (hn : (qs.map (·.1)).Nodup) : keysV (foldP qs []) = (qs.map (·.1)).map V.str := by
  rw [foldP_map qs [] hn fun q _ z => by simp at z]
  unfold keysV
  rw [List.nil_append, List.map_map, List.map_map]
  rfl
noncomputable def But (d : Addr) (H H' : Hp) : Prop := ∀ a o, a ≠ d → H a = some o → H' a = some o
theorem But.free {d : Addr} {H H' : Hp} (b : But d H H') {c : Addr} (hc : c ≠ d) (h : H' c = none) : H c = none := by
  cases e : H c with
  | none => rfl
  | some o => rw [b c o hc e] at h; cases h
theorem But.upd {d c : Addr} {H H' : Hp} {o : HO} (b : But d H H') (h : H c = none) : But d H (L2.upd H' c o) := fun a u ha e => by
  rw [upd_ne (fun z => by rw [z, h] at e; cases e)]
  exact b a u ha e
noncomputable def bkv (qs : List (Str × Addr)) : List (Key × V) := qs.map fun q => (Sum.inr q.1, V.ref q.2)
theorem bkv_snoc (qs : List (Str × Addr)) (q : Str × Addr) : bkv (qs ++ [q]) = bkv qs ++ [(Sum.inr q.1, .ref q.2)] := by unfold bkv; rw [List.map_append]; rfl
theorem bkv_val : ∀ {qs : List (Str × Addr)} {m : Str} {c : Addr}, (qs.map (·.1)).Nodup → (m, c) ∈ qs → valV (bkv qs) (Sum.inr m) = some (.ref c)
  | [], m, c, _, h => by simp at h
  | q :: r, m, c, hn, h => by
    rw [List.map_cons, List.nodup_cons] at hn
    have e : bkv (q :: r) = (Sum.inr q.1, V.ref q.2) :: bkv r := rfl
    rw [e]
    rcases List.mem_cons.mp h with z | z
    · rw [← z]
      exact valV_pos rfl
    · rw [valV_neg (fun y => hn.1 (by rw [Sum.inr.inj y]; exact List.mem_map_of_mem (f := (·.1)) z))]
      exact bkv_val hn.2 z
noncomputable def putL (L : Str → List Str) (m n : Str) : Str → List Str := fun z => if z = m then L m ++ [n] else L z
theorem putL_same (L : Str → List Str) (m n : Str) : putL L m n m = L m ++ [n] := by unfold putL; rw [if_pos rfl]
theorem putL_ne (L : Str → List Str) {m n z : Str} (h : ¬ z = m) : putL L m n z = L z := by unfold putL; rw [if_neg h]
noncomputable def spTurned : Sp := fun vs H Q _ => ∃ (d : Addr) (kvs : List (Key × V)) (N : List Str) (g : Str → List Str), vs = [.ref d] ∧ H d = some (.dK kvs) ∧ keysV kvs = N.map V.str ∧ N.Nodup ∧ N.length ≤ 24 ∧ (∀ n ∈ N, ∃ u, valV kvs (Sum.inr n) = some (.ref u) ∧ H u = some (.tup ((g n).map V.str))) ∧ (∀ n ∈ N, ∀ m ∈ g n, m ∈ N) ∧ (∀ n ∈ N, (g n).length ≤ 80) ∧
  ∀ (bk : Addr) (bv : List (Key × V)) (L : Str → List Str) (ob : Obj) (H' : Hp), But d H H' → H' d = some (.frz ob (.dK kvs)) → H' bk = some (.dK bv) → bk ≠ d → H bk = none → (∀ n ∈ N, ∃ u, valV bv (Sum.inr n) = some (.ref u) ∧ H' u = some (.lst ((L n).map V.str))) → (∀ n ∈ N, ∀ p, p ∈ L n ↔ p ∈ N ∧ n ∈ g p) → (∀ n ∈ N, (L n).length ≤ 2000) → Q (.ref bk) H'
theorem ok_turned (T : Txt K mg) : L2.Cl P w K mg base 1 "turned" ["onward"] spTurned := by
  refine Cl.of T.d_turned sc_turned (fun vs H Q E h => ?_) (fun _ _ _ _ _ _ us hl => by obtain ⟨a, rfl⟩ := len1 hl; rfl) (fun fa cdv A outer s H vs Q E hr h => ?_)
  · obtain ⟨d, kvs, N, g, rfl, _⟩ := h
    rfl
  · obtain ⟨d, kvs, N, g, rfl, hd, hkeys, hNn, hN, hg, hgN, hg80, q⟩ := h
    have hu := hu_of hr
    have hks : (keysV kvs).length = N.length := by rw [hkeys, List.length_map]
    refine ⟨_, (pss_cons (ps_set (i := 1) sc_turned.nd rfl (Or.inl rfl) pe_dnewK)
      (pss_cons (ps_for PassesOwn.never rfl (pi_dictK (pv 0)) (pg_name (i := 2) sc_turned.nd rfl (Or.inl rfl))
        (pss_one (ps_dput hu (pv 1) (pv 2) (pe_lst pa_nil) rfl)))
      (pss_cons (ps_for PassesOwn.never rfl (pi_dictK (pv 0)) (pg_name (i := 2) sc_turned.nd rfl (Or.inl rfl))
        (pss_one (ps_for PassesOwn.never rfl (pi_tup (pe_dget hu (pv 0) (pv 2) (fun _ _ => rfl))) (pg_name (i := 3) sc_turned.nd rfl (Or.inl rfl))
          (pss_one (ps_expr (pe_bm PySem.F.plainAttrs_list PySem.F.slot_list_append PySem.F.type_list_append mt_append (pe_dget hu (pv 1) (pv 3) (fun _ _ => rfl)) (pa_cons (pv 2) pa_nil)))))))
      (pss_one (ps_ret (pv 1)))))), ?_⟩
    intro bk gb
    have hbd : bk ≠ d := (ne_of_none hd gb).symm
    refine ⟨_, rfl, d, kvs, rfl, .inl ⟨by rw [upd_ne hbd.symm]; exact hd, fun ob => ?_⟩⟩
    have b0 : But d H (upd (upd H bk (.dK [])) d (.frz ob (.dK kvs))) := fun a o ha e => by
      rw [upd_ne ha]
      exact upd_keep e gb
    have hd0 : upd (upd H bk (.dK [])) d (.frz ob (.dK kvs)) d = some (.frz ob (.dK kvs)) := upd_same
    have hb0 : upd (upd H bk (.dK [])) d (.frz ob (.dK kvs)) bk = some (.dK []) := by rw [upd_ne hbd, upd_same]
    generalize upd (upd H bk (.dK [])) d (.frz ob (.dK kvs)) = H0 at b0 hd0 hb0 ⊢
    refine for_dict (d := d) (o := ob) (u := .dK kvs) (ks := keysV kvs) (fun i σ H2 => ∃ (qs : List (Str × Addr)) (v2 : Option V), σ = [some (.ref d), some (.ref bk), v2, none] ∧ But d H H2 ∧ H2 d = some (.frz ob (.dK kvs)) ∧ H2 bk = some (.dK (bkv qs)) ∧ qs.map (·.1) = N.take i ∧ (qs.map (·.2)).Nodup ∧ ∀ q ∈ qs, H q.2 = none ∧ q.2 ≠ d ∧ q.2 ≠ bk ∧ H2 q.2 = some (.lst []))
      ⟨[], none, rfl, b0, hd0, hb0, by rw [List.take_zero]; rfl, by simp, fun q hq => by simp at hq⟩ (fun i σ H2 _ ⟨_, _, _, _, h, _⟩ => h) ?_ ?_
    · rintro i y σ H2 hy ⟨qs, v2, rfl, b2, hd2, hb2, hqk, hqa, hqs⟩
      obtain ⟨n, hn, rfl⟩ : ∃ n, N[i]? = some n ∧ y = .str n := by
        rw [hkeys, List.getElem?_map] at hy
        cases e : N[i]? with
        | none => rw [e] at hy; cases hy
        | some n => rw [e] at hy; exact ⟨n, rfl, (Option.some.inj hy).symm⟩
      have hi : i < N.length := (List.getElem?_eq_some_iff.mp hn).1
      have hql : qs.length ≤ 24 := by
        have := congrArg List.length hqk
        rw [List.length_map, List.length_take] at this
        omega
      refine ⟨(by show 0 ≤ sizeLine; decide), fun c gc => ?_⟩
      have hcd : c ≠ d := (ne_of_none hd2 gc).symm
      have hcb : c ≠ bk := (ne_of_none hb2 gc).symm
      have hcH : H c = none := b2.free hcd gc
      have hb3 : upd H2 c (.lst []) bk = some (.dK (bkv qs)) := upd_keep hb2 gc
      refine ⟨_, rfl, _, rfl, bk, _, rfl, DPut.k (k := Sum.inr n) hb3 (small1000 (by unfold bkv; rw [List.length_map]; omega)), ?_⟩
      have hnew : Sum.inr n ∉ (bkv qs).map (·.1) := fun z => by
        unfold bkv at z
        rw [List.map_map] at z
        obtain ⟨q, hq, e⟩ := List.mem_map.mp z
        have e2 : q.1 = n := Sum.inr.inj e
        have h1 : n ∈ N.take i := by rw [← hqk, ← e2]; exact List.mem_map_of_mem (f := (·.1)) hq
        have h2 : (N.take (i + 1)).Nodup := hNn.sublist (List.take_sublist _ _)
        rw [take_succ_get hn] at h2
        exact (List.nodup_append.mp h2).2.2 n h1 n (List.mem_singleton.mpr rfl) rfl
      rw [putK_fresh hnew, ← bkv_snoc qs (n, c)]
      refine ⟨qs ++ [(n, c)], _, rfl, (b2.upd hcH).upd gb, by rw [upd_ne hbd.symm, upd_ne hcd.symm]; exact hd2, upd_same, by rw [List.map_append, hqk, take_succ_get hn]; rfl, ?_, fun q hq => ?_⟩
      · rw [List.map_append]
        refine List.nodup_append.mpr ⟨hqa, by simp, fun x hx y hy z => ?_⟩
        obtain ⟨q, hq, e⟩ := List.mem_map.mp hx
        have e2 : y = c := List.mem_singleton.mp hy
        have h1 := (hqs q hq).2.2.2
        rw [e, z, e2, gc] at h1
        cases h1
      · rcases List.mem_append.mp hq with z | z
        · obtain ⟨h1, h2, h3, h4⟩ := hqs q z
          refine ⟨h1, h2, h3, ?_⟩
          rw [upd_ne h3, upd_ne (ne_of_none h4 gc)]
          exact h4
        · rw [List.mem_singleton.mp z]
          exact ⟨hcH, hcd, hcb, by rw [upd_ne hcb, upd_same]⟩
    · rintro σ H1 ⟨qs, v2, rfl, b1, hd1, hb1, hqk, hqa, hqs⟩
      rw [hks, List.take_length] at hqk
      have hqn : (qs.map (·.1)).Nodup := by rw [hqk]; exact hNn
      have hadr : ∀ q ∈ qs, ∀ q' ∈ qs, q.2 = q'.2 → q = q' := fun q hq q' hq' e => by
        obtain ⟨i, hi⟩ := List.getElem?_of_mem hq
        obtain ⟨j, hj⟩ := List.getElem?_of_mem hq'
        have h1 : (qs.map (·.2))[i]? = some q.2 := by rw [List.getElem?_map, hi]; rfl
        have h2 : (qs.map (·.2))[j]? = some q.2 := by rw [List.getElem?_map, hj, e]; rfl
        have hij := (List.getElem?_inj (List.getElem?_eq_some_iff.mp h1).1 hqa).mp (h1.trans h2.symm)
        subst hij
        rw [hi] at hj
        exact Option.some.inj hj
      refine ⟨_, rfl, d, kvs, rfl, .inr ⟨ob, hd1, ?_⟩⟩
      refine for_dict (d := d) (o := ob) (u := .dK kvs) (ks := keysV kvs) (fun i σ H2 => ∃ (L : Str → List Str) (v2 v3 : Option V), σ = [some (.ref d), some (.ref bk), v2, v3] ∧ But d H H2 ∧ H2 d = some (.frz ob (.dK kvs)) ∧ H2 bk = some (.dK (bkv qs)) ∧ (∀ q ∈ qs, H2 q.2 = some (.lst ((L q.1).map V.str))) ∧ (∀ m ∈ N, ∀ p, p ∈ L m ↔ p ∈ N.take i ∧ m ∈ g p) ∧ ∀ m ∈ N, (L m).length ≤ 80 * i)
        ⟨fun _ => [], v2, none, rfl, b1, hd1, hb1, fun q hq => (hqs q hq).2.2.2, fun m _ p => by simp, fun m _ => by simp⟩ (fun i σ H2 _ ⟨_, _, _, _, _, h, _⟩ => h) ?_ ?_
      · rintro i y σ H2 hy ⟨L, w2, w3, rfl, b2, hd2, hb2, hL, hLm, hLl⟩
        obtain ⟨n, hn, rfl⟩ : ∃ n, N[i]? = some n ∧ y = .str n := by
          rw [hkeys, List.getElem?_map] at hy
          cases e : N[i]? with
          | none => rw [e] at hy; cases hy
          | some n => rw [e] at hy; exact ⟨n, rfl, (Option.some.inj hy).symm⟩
        have hi : i < N.length := (List.getElem?_eq_some_iff.mp hn).1
        have hnN := List.mem_of_getElem? hn
        obtain ⟨u, hvu, hut⟩ := hg n hnN
        have hud : u ≠ d := fun z => by rw [z, hd] at hut; cases hut
        have hut2 := b2 _ _ hud hut
        have hget : DGet H2 d (.str n) (some (.ref u)) := by
          have h1 := DGet.kr (k := Sum.inr n) (H := H2) (.inr ⟨ob, hd2⟩)
          rw [hvu] at h1
          exact h1
        have hgl := hg80 n hnN
        refine ⟨_, rfl, _, rfl, d, _, rfl, hget, u, rfl, ⟨_, SqT.of hut2⟩, for_tup (K := K) (a := u) (xs := (g n).map V.str) (fun j σ H3 => ∃ (L : Str → List Str) (v3 : Option V), σ = [some (.ref d), some (.ref bk), some (.str n), v3] ∧ But d H H3 ∧ H3 d = some (.frz ob (.dK kvs)) ∧ H3 bk = some (.dK (bkv qs)) ∧ (∀ q ∈ qs, H3 q.2 = some (.lst ((L q.1).map V.str))) ∧ (∀ m ∈ N, ∀ p, p ∈ L m ↔ (p ∈ N.take i ∧ m ∈ g p) ∨ (p = n ∧ m ∈ (g n).take j)) ∧ ∀ m ∈ N, (L m).length ≤ 80 * i + j)
          ⟨L, w3, rfl, b2, hd2, hb2, hL, fun m hm p => by rw [hLm m hm p]; simp, fun m hm => hLl m hm⟩ (fun j σ H3 _ ⟨_, _, _, b3, _⟩ => SqT.of (b3 _ _ hud hut)) ?_ ?_⟩
        · rintro j y σ H3 hy3 ⟨L3, x3, rfl, b3, hd3, hb3, hL3, hLm3, hLl3⟩
          obtain ⟨m, hm, rfl⟩ : ∃ m, (g n)[j]? = some m ∧ y = .str m := by
            rw [List.getElem?_map] at hy3
            cases e : (g n)[j]? with
            | none => rw [e] at hy3; cases hy3
            | some m => rw [e] at hy3; exact ⟨m, rfl, (Option.some.inj hy3).symm⟩
          have hj : j < (g n).length := (List.getElem?_eq_some_iff.mp hm).1
          have hmN : m ∈ N := hgN n hnN m (List.mem_of_getElem? hm)
          obtain ⟨⟨m', c⟩, hq, e⟩ := List.mem_map.mp (show m ∈ qs.map (·.1) by rw [hqk]; exact hmN)
          have e' : m' = m := e
          subst e'
          obtain ⟨hcH, hcd, hcb, _⟩ := hqs _ hq
          have hc3 : H3 c = some (.lst ((L3 m').map V.str)) := hL3 _ hq
          have hgetb : DGet H3 bk (.str m') (some (.ref c)) := by
            have h1 := DGet.k (k := Sum.inr m') hb3
            rw [bkv_val hqn hq] at h1
            exact h1
          have hlen := hLl3 m' hmN
          refine ⟨_, rfl, _, rfl, bk, _, rfl, hgetb, .inl ⟨rfl, _, SqL.of hc3⟩, _, rfl, c, _, _, rfl, rfl, hc3, (by have : sizeLine = 16777216 := sizeLine_eq; rw [List.length_map]; omega), ?_⟩
          refine ⟨putL L3 m' n, _, rfl, b3.upd hcH, by rw [upd_ne hcd.symm]; exact hd3, by rw [upd_ne hcb.symm]; exact hb3, fun q hq2 => ?_, fun z hz p => ?_, fun z hz => ?_⟩
          · by_cases hz : q.1 = m'
            · have hqq : q = (m', c) := by
                obtain ⟨i1, hi1⟩ := List.getElem?_of_mem hq2
                obtain ⟨j1, hj1⟩ := List.getElem?_of_mem hq
                have h1 : (qs.map (·.1))[i1]? = some m' := by rw [List.getElem?_map, hi1, ← hz]; rfl
                have h2 : (qs.map (·.1))[j1]? = some m' := by rw [List.getElem?_map, hj1]; rfl
                have hij := (List.getElem?_inj (List.getElem?_eq_some_iff.mp h1).1 hqn).mp (h1.trans h2.symm)
                subst hij
                rw [hi1] at hj1
                exact Option.some.inj hj1
              rw [hqq]
              show upd H3 c _ c = some (.lst ((putL L3 m' n m').map V.str))
              rw [upd_same, putL_same, List.map_append]
              rfl
            · have hne : q.2 ≠ c := fun y => hz (by rw [hadr q hq2 (m', c) hq y])
              rw [upd_ne hne, putL_ne L3 hz]
              exact hL3 q hq2
          · rw [take_succ_get hm]
            by_cases hzm : z = m'
            · subst hzm
              rw [putL_same, List.mem_append, List.mem_singleton, List.mem_append, List.mem_singleton, hLm3 z hz p]
              constructor
              · rintro ((h1 | h1) | h1)
                · exact .inl h1
                · exact .inr ⟨h1.1, .inl h1.2⟩
                · exact .inr ⟨h1, .inr rfl⟩
              · rintro (h1 | ⟨h1, h2 | h2⟩)
                · exact .inl (.inl h1)
                · exact .inl (.inr ⟨h1, h2⟩)
                · exact .inr h1
            · rw [putL_ne L3 hzm, hLm3 z hz p, List.mem_append, List.mem_singleton]
              constructor
              · rintro (h1 | ⟨h1, h2⟩)
                · exact .inl h1
                · exact .inr ⟨h1, .inl h2⟩
              · rintro (h1 | ⟨h1, h2 | h2⟩)
                · exact .inl h1
                · exact .inr ⟨h1, h2⟩
                · exact absurd h2 hzm
          · by_cases hzm : z = m'
            · subst hzm
              rw [putL_same, List.length_append, List.length_singleton]
              omega
            · rw [putL_ne L3 hzm]
              have := hLl3 z hz
              omega
        · rintro σ H3 ⟨L3, x3, rfl, b3, hd3, hb3, hL3, hLm3, hLl3⟩
          refine ⟨L3, _, _, rfl, b3, hd3, hb3, hL3, fun m hm p => ?_, fun m hm => ?_⟩
          · rw [hLm3 m hm p, List.length_map, List.take_length, take_succ_get hn, List.mem_append, List.mem_singleton]
            constructor
            · rintro (h1 | ⟨h1, h2⟩)
              · exact ⟨.inl h1.1, h1.2⟩
              · exact ⟨.inr h1, by rw [h1]; exact h2⟩
            · rintro ⟨h1 | h1, h2⟩
              · exact .inl ⟨h1, h2⟩
              · exact .inr ⟨h1, by rw [← h1]; exact h2⟩
          · have := hLl3 m hm
            rw [List.length_map] at this
            omega
      · rintro σ H2 ⟨L, w2, w3, rfl, b2, hd2, hb2, hL, hLm, hLl⟩
        rw [hks] at hLm hLl
        refine ⟨_, rfl, q bk _ L ob H2 b2 hd2 hb2 hbd gb (fun n hn => ?_) (fun n hn p => by rw [hLm n hn p, List.take_length]) fun n hn => ?_⟩
        · obtain ⟨⟨m', c⟩, hq, e⟩ := List.mem_map.mp (show n ∈ qs.map (·.1) by rw [hqk]; exact hn)
          have e' : m' = n := e
          subst e'
          exact ⟨c, bkv_val hqn hq, hL _ hq⟩
        · have := hLl n hn
          omega
noncomputable def spAround : Sp := fun vs H Q _ => ∃ (d bk : Addr) (n : Str) (kvs bv : List (Key × V)) (N : List Str) (g L : Str → List Str) (ob : Obj), vs = [.ref d, .ref bk, .str n] ∧ H d = some (.frz ob (.dK kvs)) ∧ H bk = some (.dK bv) ∧ keysV kvs = N.map V.str ∧ N.length ≤ 24 ∧ n ∈ N ∧ (∀ n ∈ N, ∃ u, valV kvs (Sum.inr n) = some (.ref u) ∧ H u = some (.tup ((g n).map V.str))) ∧ (∀ n ∈ N, ∃ u, valV bv (Sum.inr n) = some (.ref u) ∧ H u = some (.lst ((L n).map V.str))) ∧ (∀ n ∈ N, ∀ m ∈ g n, m ∈ N) ∧ (∀ n ∈ N, ∀ m ∈ L n, m ∈ N) ∧ (∀ n ∈ N, (g n).length ≤ 2000) ∧ (∀ n ∈ N, (L n).length ≤ 2000) ∧
  ∀ (p : Addr) (l1 l2 : List Str) (H' : Hp), Same H H' → (∀ m, m ∈ l1 ↔ Rch (fun a b => b ∈ g a) [n] m) → (∀ m, m ∈ l2 ↔ Rch (fun a b => b ∈ L a) [n] m) → H' p = some (.tup ((N.filter fun m => decide (m ∈ l1) && decide (m ∈ l2)).map V.str)) → Q (.ref p) H'
theorem ok_around (T : Txt K mg) : L2.Cl P w K mg base 2 "knot_around" ["onward", "backward", "part"] spAround := by
  have C_spread := ok_spread (P := P) (w := w) (base := base) T
  refine Cl.of T.d_knot_around sc_knot_around (fun vs H Q E h => ?_) (fun _ _ _ _ _ _ us hl => by obtain ⟨a, b, c, rfl⟩ := len3 hl; rfl) (fun fa cdv A outer s H vs Q E hr h => ?_)
  · obtain ⟨d, bk, n, kvs, bv, N, g, L, ob, rfl, _⟩ := h
    rfl
  · obtain ⟨d, bk, n, kvs, bv, N, g, L, ob, rfl, hd, hb, hkeys, hN, hnN, hg, hL, hgN, hLN, hg2, hL2, q⟩ := h
    have hu := hu_of hr
    have hks : (keysV kvs).length = N.length := by rw [hkeys, List.length_map]
    refine ⟨_, (pss_cons (ps_set (i := 3) sc_knot_around.nd rfl (Or.inr rfl) (pe_fn C_spread hr (by rfl) (pa_cons (pv 0) (pa_cons (pe_tup (pa_cons (pv 2) pa_nil)) pa_nil))))
      (pss_cons (ps_set (i := 4) sc_knot_around.nd rfl (Or.inr rfl) (pe_fn C_spread hr (by rfl) (pa_cons (pv 1) (pa_cons (pe_tup (pa_cons (pv 2) pa_nil)) pa_nil))))
      (pss_one (ps_ret (pe_callTy call_tuple_of (by rfl) T.n_tuple boot_tuple (pa_cons (pe_comp (M := ["other", "ahead", "behind"]) (ρ := [none, some 3, some 4]) (defScope s_knot_around) ["onward", "backward", "part", "ahead", "behind"] ⟨rfl, by decide +kernel, by decide +kernel, by decide +kernel, rfl, by decide +kernel, by decide +kernel⟩ (pi_dictK (pv 0)) (fun _ _ _ _ _ _ => (pg_name (i := 0) (show (["other", "ahead", "behind"] : List Str).Nodup by decide +kernel) rfl (Or.inl rfl))) (fun _ _ _ _ _ _ => (pts_one (PW.pt (pw_and (pt_cmp (pc_din hu (pv 0) (pv 1))) (pw_and1 (pt_cmp (pc_din hu (pv 0) (pv 2)))))))) (fun _ _ _ _ _ _ => (pv 0))) pa_nil)))))), ?_⟩
    refine ⟨_, rfl, _, rfl, (by show 1 ≤ sizeLine; decide), fun t gt => ?_⟩
    have s1 : Same H (upd H t (.tup [.str n])) := (Same.refl H).new gt
    refine ⟨d, t, kvs, [n], N, g, rfl, .inr ⟨ob, s1 _ _ hd⟩, upd_same, fun m hm => ?_, fun m hm => by rw [List.mem_singleton.mp hm]; exact hnN, hgN, hg2, by simp, by omega, fun f1 l1 H1 s2 hf1 hl1 => ?_⟩
    · obtain ⟨u, h1, h2⟩ := hg m hm
      exact ⟨u, h1, .inr (s1 _ _ h2)⟩
    have s12 := s1.trans s2
    refine ⟨_, rfl, _, rfl, (by show 1 ≤ sizeLine; decide), fun t2 gt2 => ?_⟩
    have s3 : Same H1 (upd H1 t2 (.tup [.str n])) := (Same.refl H1).new gt2
    have s13 := s12.trans s3
    refine ⟨bk, t2, bv, [n], N, L, rfl, .inl (s13 _ _ hb), upd_same, fun m hm => ?_, fun m hm => by rw [List.mem_singleton.mp hm]; exact hnN, hLN, hL2, by simp, by omega, fun f2 l2 H2 s4 hf2 hl2 => ?_⟩
    · obtain ⟨u, h1, h2⟩ := hL m hm
      exact ⟨u, h1, .inl (s13 _ _ h2)⟩
    have s14 := s13.trans s4
    have hf1' : H2 f1 = some (.dK (setD l1)) := s4 _ _ (s3 _ _ hf1)
    have hd2 := s14 _ _ hd
    refine ⟨_, rfl, d, kvs, rfl, .inr ⟨ob, hd2, fun D hD => ?_⟩⟩
    refine comp_by (keysV kvs).length (fun i σ H3 => ∃ v0 : Option V, σ = [v0, some (.ref f1), some (.ref f2)] ∧ Same H2 H3 ∧ H3 D = some (.lst (((N.take i).filter fun m => decide (m ∈ l1) && decide (m ∈ l2)).map V.str))) ⟨_, rfl, (Same.refl H2).new hD, by rw [upd_same]; rfl⟩ ?_ ?_
    · rintro i σ H3 hi ⟨v0, rfl, s5, hD3⟩
      refine ⟨⟨s5 _ _ hd2, hi⟩, ?_⟩
      rintro v H4 ⟨rfl, hv⟩
      obtain ⟨m, hm, rfl⟩ : ∃ m, N[i]? = some m ∧ v = .str m := by
        rw [hkeys, List.getElem?_map] at hv
        cases e : N[i]? with
        | none => rw [e] at hv; cases hv
        | some m => rw [e] at hv; exact ⟨m, rfl, (Option.some.inj hv).symm⟩
      have hlen : ((N.take i).filter fun m => decide (m ∈ l1) && decide (m ∈ l2)).length ≤ 24 := by
        have h1 := List.length_filter_le (fun m => decide (m ∈ l1) && decide (m ∈ l2)) (N.take i)
        have h2 : (N.take i).length ≤ N.length := List.length_take_le' ..
        omega
      have htk := take_succ_get hm
      refine ⟨_, rfl, _, rfl, f1, _, rfl, DGet.k (k := Sum.inr m) (s5 _ _ hf1'), _, rfl, ?_⟩
      rw [setD_some]
      by_cases h1 : m ∈ l1
      · rw [decide_eq_true h1]
        refine iteT ⟨_, rfl, _, rfl, f2, _, rfl, DGet.k (k := Sum.inr m) (s5 _ _ hf2), _, rfl, ?_⟩
        rw [setD_some]
        by_cases h2 : m ∈ l2
        · rw [decide_eq_true h2]
          refine iteT ⟨_, rfl, _, hD3, small1000 (by rw [List.length_map]; omega), _, rfl, s5.put hD, ?_⟩
          rw [upd_same, htk, List.filter_append, List.map_append]
          have : [m].filter (fun m => decide (m ∈ l1) && decide (m ∈ l2)) = [m] := by simp [h1, h2]
          rw [this]
          rfl
        · rw [decide_eq_false h2]
          refine iteF ⟨_, rfl, s5, ?_⟩
          rw [htk, List.filter_append]
          have : [m].filter (fun m => decide (m ∈ l1) && decide (m ∈ l2)) = [] := by simp [h2]
          rw [this, List.append_nil]
          exact hD3
      · rw [decide_eq_false h1]
        refine iteF ?_
        show if false = true then _ else _
        refine iteF ⟨_, rfl, s5, ?_⟩
        rw [htk, List.filter_append]
        have : [m].filter (fun m => decide (m ∈ l1) && decide (m ∈ l2)) = [] := by simp [h1]
        rw [this, List.append_nil]
        exact hD3
    · rintro σ H3 ⟨v0, rfl, s5, hD3⟩
      refine ⟨⟨s5 _ _ hd2, Nat.le_refl _⟩, ?_⟩
      rw [hks, List.take_length] at hD3
      refine ⟨D, _, rfl, .inl ⟨SqL.of hD3, fun p gp => ?_⟩⟩
      exact q p l1 l2 _ ((s14.trans s5).new gp) hl1 hl2 upd_same
theorem mem_k1 {ps : List Pt} {n m : Str} {rs : List Rw} (hn : (ps.map (·.1)).Nodup) (h : (n, rs) ∈ ps) : m ∈ k1 ps n ↔ ∃ r ∈ rs, namesIt "bring" r = some m := by
  unfold k1
  rw [rowsOf_eq hn h]
  exact mem_namedOf "bring" m rs
theorem Rch.refl1 {E : Str → Str → Prop} {a : Str} : Rch E [a] a := .base (List.mem_singleton.mpr rfl)
theorem Rch.trans1 {E : Str → Str → Prop} {a b c : Str} (h1 : Rch E [a] b) (h2 : Rch E [b] c) : Rch E [a] c := by
  induction h2 with
  | base h => rw [List.mem_singleton.mp h]; exact h1
  | step _ e ih => exact .step ih e
theorem Rch.inN {g : Str → List Str} {N : List Str} (hcl : ∀ n ∈ N, ∀ m ∈ g n, m ∈ N) {n m : Str} (hn : n ∈ N) (h : Rch (fun a b => b ∈ g a) [n] m) : m ∈ N := by
  induction h with
  | base h => rw [List.mem_singleton.mp h]; exact hn
  | step _ e ih => exact hcl _ ih _ e
theorem rch_back {g L : Str → List Str} {N : List Str} (hL : ∀ n ∈ N, ∀ p, p ∈ L n ↔ p ∈ N ∧ n ∈ g p) {n m : Str} (hn : n ∈ N) (h : Rch (fun a b => b ∈ L a) [n] m) : m ∈ N ∧ Rch (fun a b => b ∈ g a) [m] n := by
  induction h with
  | base h => rw [List.mem_singleton.mp h]; exact ⟨hn, .refl1⟩
  | step _ e ih =>
    obtain ⟨h1, h2⟩ := (hL _ ih.1 _).mp e
    exact ⟨h1, Rch.trans1 (.step .refl1 h2) ih.2⟩
theorem rch_fwd {g L : Str → List Str} {N : List Str} (hcl : ∀ n ∈ N, ∀ m ∈ g n, m ∈ N) (hL : ∀ n ∈ N, ∀ p, p ∈ L n ↔ p ∈ N ∧ n ∈ g p) {n m : Str} (hm : m ∈ N) (h : Rch (fun a b => b ∈ g a) [m] n) : Rch (fun a b => b ∈ L a) [n] m := by
  induction h with
  | base h => rw [List.mem_singleton.mp h]; exact .refl1
  | step h1 e ih =>
    have hk := Rch.inN hcl hm h1
    exact Rch.trans1 (.step .refl1 ((hL _ (hcl _ hk _ e) _).mpr ⟨hk, e⟩)) ih
open Classical in
noncomputable def rB (g : Str → List Str) (n m : Str) : Bool := decide (Rch (fun a b => b ∈ g a) [n] m)
open Classical in
theorem rB_iff {g : Str → List Str} {n m : Str} : rB g n m = true ↔ Rch (fun a b => b ∈ g a) [n] m := by
  unfold rB
  exact decide_eq_true_iff
noncomputable def knotOf (g : Str → List Str) (N : List Str) (n : Str) : List Str := N.filter fun m => rB g n m && rB g m n
noncomputable def firstIn (g : Str → List Str) (N : List Str) (n : Str) : Bool := decide ((knotOf g N n).head? = some n)
noncomputable def knotsOf (g : Str → List Str) (N M : List Str) : List (List Str) := (M.filter (firstIn g N)).map (knotOf g N)
theorem knotOf_self {g : Str → List Str} {N : List Str} {n : Str} (hn : n ∈ N) : n ∈ knotOf g N n := List.mem_filter.mpr ⟨hn, by rw [rB_iff.mpr Rch.refl1]; rfl⟩
theorem knotsOf_snoc {g : Str → List Str} {N M : List Str} {n : Str} : knotsOf g N (M ++ [n]) = knotsOf g N M ++ (if firstIn g N n = true then [knotOf g N n] else []) := by
  unfold knotsOf
  rw [List.filter_append, List.map_append]
  by_cases h : firstIn g N n = true
  · rw [if_pos h, List.filter_cons_of_pos h]
    rfl
  · rw [if_neg h, List.filter_cons_of_neg h]
    rfl
theorem head_is {l : List Str} {n : Str} (h : n ∈ l) : ∃ x, l.head? = some x ∧ l[0]? = some x := by
  cases l with
  | nil => simp at h
  | cons a r => exact ⟨a, rfl, rfl⟩
noncomputable def TsAt (H : Hp) (v : V) (ks : List Str) : Prop := ∃ t, v = .ref t ∧ H t = some (.tup (ks.map V.str))
theorem knots_len (g : Str → List Str) (N M : List Str) : (knotsOf g N M).length ≤ M.length := by
  unfold knotsOf
  rw [List.length_map]
  exact List.length_filter_le _ _
noncomputable def spKnotsIn : Sp := fun vs H Q _ => ∃ (d : Addr) (kvs : List (Key × V)) (N : List Str) (g : Str → List Str), vs = [.ref d] ∧ H d = some (.dK kvs) ∧ keysV kvs = N.map V.str ∧ N.Nodup ∧ N.length ≤ 24 ∧ (∀ n ∈ N, ∃ u, valV kvs (Sum.inr n) = some (.ref u) ∧ H u = some (.tup ((g n).map V.str))) ∧ (∀ n ∈ N, ∀ m ∈ g n, m ∈ N) ∧ (∀ n ∈ N, (g n).length ≤ 80) ∧
  ∀ (p : Addr) (us : List V) (H' : Hp), But d H H' → H' p = some (.tup us) → Paired (TsAt H') us (knotsOf g N N) → Q (.ref p) H'
theorem ok_knots_in (T : Txt K mg) : L2.Cl P w K mg base 4 "knots_in" ["onward"] spKnotsIn := by
  have C_turned := ok_turned (P := P) (w := w) (base := base) T
  have C_knot_around := ok_around (P := P) (w := w) (base := base) T
  refine Cl.of T.d_knots_in sc_knots_in (fun vs H Q E h => ?_) (fun _ _ _ _ _ _ us hl => by obtain ⟨a, rfl⟩ := len1 hl; rfl) (fun fa cdv A outer s H vs Q E hr h => ?_)
  · obtain ⟨d, kvs, N, g, rfl, _⟩ := h
    rfl
  · obtain ⟨d, kvs, N, g, rfl, hd, hkeys, hNd, hN, hgv, hgN, hg80, q⟩ := h
    have hu := hu_of hr
    refine ⟨_, (pss_cons (ps_set (i := 1) sc_knots_in.nd rfl (Or.inl rfl) (pe_fn C_turned hr (by rfl) (pa_cons (pv 0) pa_nil)))
      (pss_cons (ps_set (i := 2) sc_knots_in.nd rfl (Or.inl rfl) (pe_lst pa_nil))
      (pss_cons (ps_for PassesOwn.never rfl (pi_dictK (pv 0)) (pg_name (i := 3) sc_knots_in.nd rfl (Or.inl rfl))
        (pss_cons (ps_set (i := 4) sc_knots_in.nd rfl (Or.inl rfl) (pe_fn C_knot_around hr (by rfl) (pa_cons (pv 0) (pa_cons (pv 1) (pa_cons (pv 3) pa_nil)))))
        (pss_one (ps_if (pt_cmpR op_eq (pe_ix ix_tup (pv 4) pe_int (fun _ _ => rfl)) (pv 3) (nomark _))
          (pss_one (ps_expr (pe_bm PySem.F.plainAttrs_list PySem.F.slot_list_append PySem.F.type_list_append mt_append (pv 2) (pa_cons (pv 4) pa_nil)))) pss_nil))))
      (pss_one (ps_ret (pe_callTy call_tuple_of (by rfl) T.n_tuple boot_tuple (pa_cons (pv 2) pa_nil))))))), ?_⟩
    refine ⟨_, rfl, d, _, N, g, rfl, hd, hkeys, hNd, hN, hgv, hgN, hg80, fun bk bv L ob H2 b2 hd2 hb2 hbd gbk hLv hLm hLl => ?_⟩
    have hgv2 : ∀ n ∈ N, ∃ u, valV kvs (Sum.inr n) = some (.ref u) ∧ H2 u = some (.tup ((g n).map V.str)) := fun n hn => by
      obtain ⟨u, h1, h2⟩ := hgv n hn
      exact ⟨u, h1, b2 _ _ (fun z => by rw [z, hd] at h2; cases h2) h2⟩
    have hLN : ∀ n ∈ N, ∀ m ∈ L n, m ∈ N := fun n hn m hm => ((hLm n hn m).mp hm).1
    refine ⟨(by show 0 ≤ sizeLine; decide), fun F gF => ?_⟩
    have s3 : Same H2 (upd H2 F (.lst [])) := (Same.refl H2).new gF
    refine ⟨_, rfl, d, _, rfl, .inr ⟨ob, s3 _ _ hd2, ?_⟩⟩
    have hks : (keysV kvs).length = N.length := by rw [hkeys, List.length_map]
    refine for_dict (d := d) (o := ob) (u := .dK kvs) (ks := keysV kvs) (fun i σ H3 => ∃ (us : List V) (v4 v5 : Option V), σ = [some (.ref d), some (.ref bk), some (.ref F), v4, v5] ∧ Same H2 H3 ∧ H3 F = some (.lst us) ∧ Paired (TsAt H3) us (knotsOf (g) N (N.take i)))
      ⟨[], none, none, rfl, s3, upd_same, by rw [List.take_zero]; exact .nil⟩ (fun i σ H3 _ ⟨_, _, _, _, s4, _⟩ => s4 _ _ hd2) ?_ ?_
    · rintro i y σ H3 hy ⟨us, v4, v5, rfl, s4, hF, hus⟩
      obtain ⟨n, hn, rfl⟩ : ∃ n, N[i]? = some n ∧ y = .str n := by
        rw [hkeys, List.getElem?_map] at hy
        cases e : N[i]? with
        | none => rw [e] at hy; cases hy
        | some n => rw [e] at hy; exact ⟨n, rfl, (Option.some.inj hy).symm⟩
      have hnN := List.mem_of_getElem? hn
      have hul : us.length ≤ 24 := by
        rw [Paired.length hus]
        have h1 := knots_len (g) N (N.take i)
        have h2 : (N.take i).length ≤ N.length := List.length_take_le' ..
        omega
      refine ⟨_, rfl, _, rfl, _, rfl, d, bk, n, _, bv, N, g, L, ob, rfl, s4 _ _ hd2, s4 _ _ hb2, hkeys, hN, hnN, fun m hm => ?_, fun m hm => ?_, hgN, hLN, fun m hm => by have := hg80 m hm; omega, hLl, fun p l1 l2 H4 s5 h1 h2 hp => ?_⟩
      · obtain ⟨u, h1, h2⟩ := hgv2 m hm
        exact ⟨u, h1, s4 _ _ h2⟩
      · obtain ⟨u, h1, h2⟩ := hLv m hm
        exact ⟨u, h1, s4 _ _ h2⟩
      have hK : (N.filter fun m => decide (m ∈ l1) && decide (m ∈ l2)) = knotOf (g) N n := by
        unfold knotOf
        refine List.filter_congr fun m hm => ?_
        have e1 : decide (m ∈ l1) = rB (g) n m := by
          rw [Bool.eq_iff_iff, decide_eq_true_iff, h1 m, rB_iff]
        have e2 : decide (m ∈ l2) = rB (g) m n := by
          rw [Bool.eq_iff_iff, decide_eq_true_iff, h2 m, rB_iff]
          exact ⟨fun z => (rch_back hLm hnN z).2, fun z => rch_fwd hgN hLm hm z⟩
        rw [e1, e2]
      rw [hK] at hp
      obtain ⟨x, hx1, hx2⟩ := head_is (knotOf_self (g := g) hnN)
      have hat : atI ((knotOf (g) N n).map V.str) 0 = some (.str x) := atI_nat (j := 0) (by rw [List.getElem?_map, hx2]; rfl)
      have hF4 := s5 _ _ hF
      have hus4 : Paired (TsAt H4) us (knotsOf (g) N (N.take i)) := Paired.mapP hus fun _ _ ⟨t, e, ht⟩ => ⟨t, e, s5 _ _ ht⟩
      refine ⟨_, rfl, p, _, _, _, rfl, rfl, SqT.of hp, hat, _, rfl, rfl, _, rfl, ?_⟩
      by_cases hxn : x = n
      · subst hxn
        refine iteSE ?_
        have hfi : firstIn (g) N x = true := decide_eq_true hx1
        refine ⟨_, rfl, .inl ⟨rfl, _, SqL.of hF4⟩, _, rfl, F, _, _, rfl, rfl, hF4, small1000 (by omega), ?_⟩
        have T5 := Tups.lst (ys := us ++ [.ref p]) hF4
        refine ⟨us ++ [.ref p], _, _, rfl, (s4.trans s5).put gF, upd_same, ?_⟩
        rw [take_succ_get hn, knotsOf_snoc, if_pos hfi]
        exact Paired.snoc (Paired.mapP hus4 fun _ _ ⟨t, e, ht⟩ => ⟨t, e, T5 _ _ ht⟩) ⟨p, rfl, T5 _ _ hp⟩
      · refine iteSN hxn ?_
        have hfi : ¬ firstIn (g) N n = true := fun z => hxn (by
          have := of_decide_eq_true z
          rw [hx1] at this
          exact Option.some.inj this)
        refine ⟨us, _, _, rfl, s4.trans s5, hF4, ?_⟩
        rw [take_succ_get hn, knotsOf_snoc, if_neg hfi, List.append_nil]
        exact hus4
    · rintro σ H3 ⟨us, v4, v5, rfl, s4, hF, hus⟩
      rw [hks, List.take_length] at hus
      refine ⟨_, rfl, F, _, rfl, .inl ⟨SqL.of hF, fun p gp => ?_⟩⟩
      have s5 : Same H3 (upd H3 p (.tup us)) := (Same.refl H3).new gp
      exact q p us _ (fun c o h1 h2 => (s4.trans s5) _ _ (b2 c o h1 h2)) upd_same (Paired.mapP hus fun _ _ ⟨t, e, ht⟩ => ⟨t, e, s5 _ _ ht⟩)
noncomputable def BrAt (H : Hp) (q : Str × V) (pt : Pt) : Prop := q.1 = pt.1 ∧ ∃ t, q.2 = .ref t ∧ H t = some (.tup ((namedOf "bring" pt.2).map V.str))
theorem BrAt.mono {H H' : Hp} (s : Tups H H') {q : Str × V} {pt : Pt} (h : BrAt H q pt) : BrAt H' q pt := by
  obtain ⟨e, t, e2, h⟩ := h
  exact ⟨e, t, e2, s _ _ h⟩
theorem br_keys {H : Hp} : ∀ {qs : List (Str × V)} {ps : List Pt}, Paired (BrAt H) qs ps → qs.map (·.1) = ps.map (·.1)
  | _, _, .nil => rfl
  | _, _, .cons h t => by rw [List.map_cons, List.map_cons, br_keys t, h.1]
noncomputable def spBringings : Sp := fun vs H Q _ => ∃ (a : Addr) (ps : List Pt), vs = [.ref a] ∧ PartsF H a ps ∧ PsFit ps ∧ ∀ (d : Addr) (qs : List (Str × V)) (H' : Hp), Same H H' → H d = none → H' d = some (.dK (foldP qs [])) → Paired (BrAt H') qs ps → Q (.ref d) H'
theorem ok_bringings (T : Txt K mg) : L2.Cl P w K mg base 3 "bringings" ["parts"] spBringings := by
  have C_brings := ok_brings (P := P) (w := w) (base := base) T
  refine Cl.of T.d_bringings sc_bringings (fun vs H Q E h => ?_) (fun _ _ _ _ _ _ us hl => by obtain ⟨a, rfl⟩ := len1 hl; rfl) (fun f cdv A outer s H vs Q E hr h => ?_)
  · obtain ⟨a, ps, rfl, _⟩ := h
    rfl
  · obtain ⟨a, ps, rfl, hpf, hfit, q⟩ := h
    have hu := hu_of hr
    obtain ⟨o, vs, ha, ho, hps⟩ := id hpf
    have sqa : ∀ {H2 : Hp}, Same H H2 → SqT K H2 a vs := fun s2 => .inl (.inr ⟨o, s2 _ _ ha⟩)
    refine ⟨_, (pss_cons (ps_set (i := 1) sc_bringings.nd rfl (Or.inl rfl) pe_dnewK)
      (pss_cons (ps_for PassesOwn.never rfl (pi_tup (pv 0)) (pg_tup rfl (pgs_cons (pg_name (i := 2) sc_bringings.nd rfl (Or.inl rfl)) (pgs_cons (pg_name (i := 3) sc_bringings.nd rfl (Or.inl rfl)) pgs_nil)))
        (pss_one (ps_dput hu (pv 1) (pv 2) (pe_fn C_brings hr (by rfl) (pa_cons (pv 0) (pa_cons (pv 2) pa_nil))) rfl)))
      (pss_one (ps_ret (pv 1))))), ?_⟩
    intro d gd
    have s1 : Same H (upd H d (.dK [])) := (Same.refl H).new gd
    have hvl : vs.length = ps.length := Paired.length hps
    have hhi := hfit.hi
    refine ⟨_, rfl, a, rfl, ⟨_, sqa s1⟩, for_tup (K := K) (a := a) (xs := vs) (fun i σ H2 => ∃ (qs : List (Str × V)) (v2 v3 : Option V), σ = [some (.ref a), some (.ref d), v2, v3] ∧ Same H H2 ∧ H2 d = some (.dK (foldP qs [])) ∧ Paired (BrAt H2) qs (ps.take i))
      ⟨[], none, none, rfl, s1, upd_same, by rw [List.take_zero]; exact .nil⟩ (fun i σ H2 _ ⟨_, _, _, _, s2, _⟩ => sqa s2) ?_ ?_⟩
    · rintro i y σ H2 hy ⟨qs, v2, v3, rfl, s2, hd2, hqs⟩
      obtain ⟨pt, hpt, t, u, ws, ey, ht, hu', hrs⟩ := Paired.get? hps hy
      subst ey
      obtain ⟨n, rs⟩ := pt
      have hmem := List.mem_of_getElem? hpt
      have hr40 : rs.length ≤ 40 := hfit.rows _ hmem
      have hql : qs.length ≤ 24 := by
        have := Paired.length hqs
        rw [this, List.length_take]; omega
      refine ⟨t, _, rfl, SqT.of (s2 _ _ ht), rfl, _, _, rfl, _, _, rfl, rfl, ?_⟩
      refine ⟨_, rfl, _, rfl, a, ps, n, rs, rfl, s2.partsF hpf, hfit.nd, hmem, by omega, by omega, fun p H3 s3 hp => ?_⟩
      have hd5 := s3 _ _ hd2
      have hfl := foldP_len qs []
      simp only [List.length_nil] at hfl
      refine ⟨_, rfl, _, rfl, d, _, rfl, DPut.k (k := Sum.inr n) hd5 (small1000 (by omega)), ?_⟩
      have T5 : Tups H3 (upd H3 d (.dK (putK (foldP qs []) (Sum.inr n) (.ref p)))) := Tups.dK hd5
      refine ⟨qs ++ [(n, .ref p)], _, _, rfl, (s2.trans s3).put gd, ?_, ?_⟩
      · rw [upd_same, foldP_snoc]
      · rw [take_succ_get hpt]
        exact Paired.snoc (Paired.mapP hqs fun _ _ z => z.mono (s3.tups.trans T5)) ⟨rfl, p, rfl, T5 _ _ hp⟩
    · rintro σ H2 ⟨qs, v2, v3, rfl, s2, hd2, hqs⟩
      rw [hvl, List.take_length] at hqs
      exact ⟨_, rfl, q d qs H2 s2 gd hd2 hqs⟩
theorem br_val {H : Hp} {qs : List (Str × V)} {ps : List Pt} (hn : (ps.map (·.1)).Nodup) (h : Paired (BrAt H) qs ps) : ∀ n ∈ ps.map (·.1), ∃ u, valV (foldP qs []) (Sum.inr n) = some (.ref u) ∧ H u = some (.tup ((k1 ps n).map V.str)) := by
  intro n hm
  obtain ⟨pt, hpt, e⟩ := List.mem_map.mp hm
  obtain ⟨i, hi⟩ := List.getElem?_of_mem hpt
  obtain ⟨qq, hq, e1, t, e2, ht⟩ := Paired.get?' h hi
  refine ⟨t, ?_, ?_⟩
  · refine foldP_get qs [] n (.ref t) (by rw [br_keys h]; exact hn) (.inl ?_)
    have := List.mem_of_getElem? hq
    have eq : qq = (n, .ref t) := Prod.ext (e1.trans e) e2
    rw [← eq]; exact this
  · have : (n, pt.2) ∈ ps := by rw [← e]; exact hpt
    unfold k1
    rw [rowsOf_eq hn this]
    exact ht
noncomputable def spTangles : Sp := fun vs H Q _ => ∃ (a : Addr) (ps : List Pt), vs = [.ref a] ∧ PartsF H a ps ∧ PsFit ps ∧ ClosedB ps ∧ ∀ (p : Addr) (us : List V) (H' : Hp), Same H H' → H' p = some (.tup us) → Paired (TsAt H') us (knotsOf (k1 ps) (ps.map (·.1)) (ps.map (·.1))) → Q (.ref p) H'
theorem ok_tangles (T : Txt K mg) : L2.Cl P w K mg base 5 "tangles" ["parts"] spTangles := by
  have C_bringings := ok_bringings (P := P) (w := w) (base := base) T
  have C_knots_in := ok_knots_in (P := P) (w := w) (base := base) T
  refine Cl.of T.d_tangles sc_tangles (fun vs H Q E h => ?_) (fun _ _ _ _ _ _ us hl => by obtain ⟨a, rfl⟩ := len1 hl; rfl) (fun fa cdv A outer s H vs Q E hr h => ?_)
  · obtain ⟨a, ps, rfl, _⟩ := h
    rfl
  · obtain ⟨a, ps, rfl, hpf, hfit, hcl, q⟩ := h
    have hu := hu_of hr
    have hN : (ps.map (·.1)).length ≤ 24 := by rw [List.length_map]; exact hfit.hi
    have hg80 : ∀ n ∈ ps.map (·.1), (k1 ps n).length ≤ 80 := fun n hn => by
      obtain ⟨pt, hpt, e⟩ := List.mem_map.mp hn
      have h1 : (n, pt.2) ∈ ps := by rw [← e]; exact hpt
      unfold k1
      rw [rowsOf_eq hfit.nd h1]
      have h2 := namedOf_len "bring" pt.2 []
      have h3 := hfit.rows _ hpt
      unfold namedOf
      simp only [List.length_nil] at h2
      omega
    refine ⟨_, (pss_one (ps_ret (pe_fn C_knots_in hr (by rfl) (pa_cons (pe_fn C_bringings hr (by rfl) (pa_cons (pv 0) pa_nil)) pa_nil)))), ?_⟩
    refine ⟨_, rfl, a, ps, rfl, hpf, hfit, fun d qs H1 s1 gd hd hqs => ?_⟩
    have hkeys : keysV (foldP qs []) = (ps.map (·.1)).map V.str := by
      rw [keys_fold (by rw [br_keys hqs]; exact hfit.nd), br_keys hqs]
    have hgv := br_val hfit.nd hqs
    refine ⟨d, _, ps.map (fun p => p.1), k1 ps, rfl, hd, hkeys, hfit.nd, hN, hgv, (fun n hn m hm => hcl n hn m hm), hg80, fun p us H2 b2 hp hus => ?_⟩
    exact q p us _ (fun c o e => b2 c o (fun z => by rw [z, gd] at e; cases e) (s1 _ _ e)) hp hus
theorem closedB_of {ps : List Pt} {nms : List Str} (hnm : ps.map (·.1) = nms) (hnd : nms.Nodup) (h : ∀ pt ∈ ps, ∀ r ∈ pt.2, InN nms r) : ClosedB ps := fun n hn m hm => by
  obtain ⟨rs, hmem⟩ := part_of hn
  obtain ⟨r, hr, e⟩ := (mem_k1 (by rw [hnm]; exact hnd) hmem).mp hm
  have h1 := h _ hmem r hr
  rw [hnm]
  cases r with
  | bring p ps' =>
    have : p = m := by simpa [namesIt] using e
    rw [← this]; exact h1
  | ask p w =>
    have : namesIt "bring" (.ask p w) = none := by simp [namesIt]; decide +kernel
    rw [this] at e
    cases e
  | _ => cases e
noncomputable def natsV (l : List Nat) : List V := l.map fun (m : Nat) => V.int (m : Int)
theorem natsV_snoc (l : List Nat) (m : Nat) : natsV (l ++ [m]) = natsV l ++ [.int (m : Int)] := by unfold natsV; simp
theorem natsV_len (l : List Nat) : (natsV l).length = l.length := by unfold natsV; simp
theorem natsV_get {ks : List Nat} {i : Nat} {y : V} (h : (natsV ks)[i]? = some y) : ∃ k, ks[i]? = some k ∧ y = .int (k : Int) := by
  unfold natsV at h
  rw [List.getElem?_map] at h
  cases e : ks[i]? with
  | none => rw [e] at h; cases h
  | some k => rw [e] at h; exact ⟨k, rfl, (Option.some.inj h).symm⟩
noncomputable def eqv (g : Str → List Str) (n m : Str) : Bool := rB g n m && rB g m n
theorem knotOf_eq (g : Str → List Str) (N : List Str) (n : Str) : knotOf g N n = N.filter (eqv g n) := rfl
theorem mem_knot {g : Str → List Str} {N : List Str} {n m : Str} : m ∈ knotOf g N n ↔ m ∈ N ∧ eqv g n m = true := by rw [knotOf_eq]; exact List.mem_filter
theorem nd_inj {α : Type} {l : List α} (h : l.Nodup) {i j : Nat} (hi : i < l.length) (hj : j < l.length) (e : l[i] = l[j]) : i = j := by
  have hp := List.pairwise_iff_getElem.mp h
  rcases Nat.lt_trichotomy i j with z | z | z
  · exact absurd e (hp i j hi hj z)
  · exact z
  · exact absurd e.symm (hp j i hj hi z)
theorem idx_at {N : List Str} {x : Str} (hx : x ∈ N) : N[N.idxOf x]? = some x := by
  have h1 : N.idxOf x < N.length := List.idxOf_lt_length_iff.mpr hx
  rw [List.getElem?_eq_getElem h1, List.getElem_idxOf h1]
noncomputable def tTru (K : PySem.W.Frag) (ta : TE) : TT := fun σ H Q => ta σ H fun x H' => ∃ k, TruV K x H' k ∧ Q k H'
theorem pt_truthK {X : Cx} {K : PySem.W.Frag} (hK : X.K = K) {a : Expr} {ta : TE} (ha : PE X a ta) (he : ∀ whole, isTrue a X.env whole = (do let v ← whole; standAt a.pos; holding [v] (truthy v))) :
    PT X a (tTru K ta) := by
  subst hK
  exact pt_truth ha he
theorem tb (c a : Nat) : (Builtin.bitAnd ((c : Int) / 2 ^ ((a : Nat) : Int).toNat) 1 != 0) = c.testBit a := by
  have e : (c : Int) / 2 ^ ((a : Nat) : Int).toNat = ((c / 2 ^ a : Nat) : Int) := by
    rw [Int.toNat_natCast]
    simp
  rw [e, bitAnd_pp (Int.natCast_nonneg _) (by decide), Int.toNat_natCast, Nat.testBit_eq_decide_div_mod_eq]
  have e2 : (1 : Int).toNat = 1 := rfl
  rw [e2, Nat.and_one_is_mod, Bool.eq_iff_iff, decide_eq_true_iff]
  rw [bne_iff_ne]
  omega
noncomputable def onesN (n : Nat) : Nat := if h : n = 0 then 0 else n % 2 + onesN (n / 2)
termination_by n
decreasing_by exact Nat.div_lt_self (by omega) (by decide)
theorem ones_0 : onesN 0 = 0 := by rw [onesN, dif_pos rfl]
theorem ones_p {n : Nat} (h : n ≠ 0) : onesN n = n % 2 + onesN (n / 2) := by rw [onesN, dif_neg h]
theorem ones_all (n : Nat) : onesN n = n % 2 + onesN (n / 2) := by
  by_cases h : n = 0
  · subst h
    rw [show (0 : Nat) / 2 = 0 from rfl, ones_0]
  · exact ones_p h
theorem count_bits : ∀ (n c : Nat), c < 2 ^ n → ((List.range n).filter fun i => c.testBit i).length = onesN c
  | 0, c, h => by
    have : c = 0 := by simpa using h
    subst this
    rw [ones_0]
    rfl
  | n + 1, c, h => by
    have ih := count_bits n (c / 2) (by rw [Nat.pow_succ] at h; omega)
    rw [ones_all c, ← ih, List.range_succ_eq_map, List.filter_cons]
    have e : (((List.range n).map Nat.succ).filter fun i => c.testBit i).length = ((List.range n).filter fun i => (c / 2).testBit i).length := by
      rw [List.filter_map, List.length_map]
      congr 1
      refine List.filter_congr fun i _ => ?_
      show c.testBit (i + 1) = _
      rw [Nat.testBit_succ]
    have e0 : c.testBit 0 = decide (c % 2 = 1) := Nat.testBit_zero c
    rw [e0]
    by_cases h1 : c % 2 = 1
    · rw [if_pos (decide_eq_true h1), List.length_cons, e, h1]
      omega
    · rw [if_neg (by simp [h1]), e]
      omega
theorem bits_lt (c : Nat) : c < 2 ^ (Builtin.Int.intBits (c : Int)) := by
  have := (PySem.intBits_le_iff (m := Builtin.Int.intBits (c : Int)) (x := (c : Int))).mp (Nat.le_refl _)
  simpa using this
theorem bits_few {c : Nat} (h : c < 2 ^ 24) : Builtin.Int.intBits (c : Int) ≤ 24 := (PySem.intBits_le_iff (m := 24) (x := (c : Int))).mpr (by simpa using h)
noncomputable def bitsL (c : Nat) : List Nat := (List.range 24).filter fun j => c.testBit j
theorem filt_ge {c n : Nat} (h : c < 2 ^ n) : ∀ m, n ≤ m → ((List.range m).filter fun j => c.testBit j) = (List.range n).filter fun j => c.testBit j
  | 0, hm => by rw [Nat.le_zero.mp hm]
  | m + 1, hm => by
    by_cases e : n = m + 1
    · rw [e]
    · have hb : c.testBit m = false := Nat.testBit_lt_two_pow (Nat.lt_of_lt_of_le h (Nat.pow_le_pow_right (by decide) (by omega)))
      rw [List.range_succ, List.filter_append, filt_ge h m (by omega), List.filter_cons_of_neg (by rw [hb]; decide)]
      exact List.append_nil _
theorem bitsL_eq {c n : Nat} (h : c < 2 ^ n) (hn : n ≤ 24) : ((List.range n).filter fun j => c.testBit j) = bitsL c := (filt_ge h 24 hn).symm
theorem bitsL_len {c n : Nat} (h : c < 2 ^ n) (hn : n ≤ 24) : (bitsL c).length ≤ n := by
  rw [← bitsL_eq h hn]
  have := List.length_filter_le (fun j => c.testBit j) (List.range n)
  rw [List.length_range] at this
  exact this
theorem odd_part : ∀ x : Nat, 0 < x → ∃ k m, x = 2 ^ k * (2 * m + 1) := by
  intro x
  induction x using Nat.strongRecOn with
  | ind x ih =>
    intro hx
    rcases Nat.mod_two_eq_zero_or_one x with e | e
    · obtain ⟨k, m, h⟩ := ih (x / 2) (by omega) (by omega)
      refine ⟨k + 1, m, ?_⟩
      rw [Nat.pow_succ, Nat.mul_comm (2 ^ k) 2, Nat.mul_assoc, ← h]
      omega
    · exact ⟨0, x / 2, by omega⟩
theorem getD_app {α : Type} {l : List α} {a d : α} {i : Nat} (h : i < l.length) : (l ++ [a]).getD i d = l.getD i d := by
  rw [List.getD_eq_getElem?_getD, List.getD_eq_getElem?_getD, List.getElem?_append_left h]
noncomputable def spIn2 : Sp := fun vs H Q _ => ∃ c : Nat, vs = [.int (c : Int)] ∧ c < 2 ^ 24 ∧ ∀ (p : Addr) (H' : Hp), Same H H' → H' p = some (.tup (natsV (bitsL c))) → Q (.ref p) H'
theorem ok_in2 (T : Txt K mg) : L2.Cl P w K mg base 1 "numbers_in" ["whole"] spIn2 := by
  refine Cl.of T.d_numbers_in sc_numbers_in (fun vs H Q E h => ?_) (fun _ _ _ _ _ _ us hl => by obtain ⟨a, rfl⟩ := len1 hl; rfl) (fun f cdv A outer s H vs Q E hr h => ?_)
  · obtain ⟨c, rfl, _⟩ := h
    rfl
  · obtain ⟨c, rfl, hc, q⟩ := h
    have hb := bits_few hc
    have hlt := bits_lt c
    refine ⟨_, (pss_one (ps_ret (pe_callTy call_tuple_of (by rfl) T.n_tuple boot_tuple (pa_cons (pe_comp (M := ["number", "whole"]) (ρ := [none, some 0]) (defScope s_numbers_in) ["whole"] ⟨rfl, by decide +kernel, by decide +kernel, by decide +kernel, rfl, by decide +kernel, by decide +kernel⟩ (pi_range1 (by rfl) T.n_range (pa_cons (pe_bm0 PySem.F.plainAttrs_int PySem.F.slot_int_bit_length PySem.F.type_int_bit_length mt_bit_length (pv 0)) pa_nil)) (fun _ _ _ _ _ _ => (pg_name (i := 0) (show (["number", "whole"] : List Str).Nodup by decide +kernel) rfl (Or.inl rfl))) (fun _ _ _ _ _ _ => (pts_one (pt_truthK (K := K) rfl (pe_op op_and (pe_op op_shr (pv 1) (pv 0)) pe_int) (fun _ => rfl)))) (fun _ _ _ _ _ _ => (pv 0))) pa_nil)))), ?_⟩
    refine ⟨_, rfl, rfl, _, rfl, rfl, _, rfl, by omega, by omega, fun D gD => ?_⟩
    generalize Builtin.Int.intBits (c : Int) = n at hb hlt ⊢
    rw [Int.toNat_natCast]
    refine comp_by n (fun i σ H2 => ∃ v0 : Option V, σ = [v0, some (.int (c : Int))] ∧ Same H H2 ∧ H2 D = some (.lst (natsV ((List.range i).filter fun j => c.testBit j)))) ⟨_, rfl, (Same.refl H).new gD, upd_same⟩ ?_ ?_
    · rintro i σ H2 hi ⟨v0, rfl, s2, hD2⟩
      have hyl : (natsV ((List.range i).filter fun j => c.testBit j)).length ≤ 24 := by
        rw [natsV_len]
        have := List.length_filter_le (fun j => c.testBit j) (List.range i)
        rw [List.length_range] at this
        omega
      refine ⟨hi, ?_⟩
      rintro x H3 ⟨rfl, rfl⟩
      have hsn : ((List.range (i + 1)).filter fun j => c.testBit j) = ((List.range i).filter fun j => c.testBit j) ++ if c.testBit i = true then [i] else [] := by
        rw [List.range_succ, List.filter_append]
        by_cases e : c.testBit i = true
        · rw [if_pos e, List.filter_cons_of_pos e]; rfl
        · rw [if_neg e, List.filter_cons_of_neg e]; rfl
      refine ⟨_, rfl, _, rfl, _, _, rfl, rfl, (by show 0 ≤ 0 + (i : Int); omega), _, _, rfl, rfl, _, rfl, ?_⟩
      rw [Int.zero_add, tb]
      refine ite2 (fun e => ?_) (fun e => ?_)
      · refine ⟨_, rfl, _, hD2, small1000 (by omega), _, rfl, s2.put gD, ?_⟩
        rw [upd_same, hsn, if_pos e, natsV_snoc]
      · refine ⟨_, rfl, s2, ?_⟩
        rw [hsn, if_neg e, List.append_nil]
        exact hD2
    · rintro σ H2 ⟨v0, rfl, s2, hD2⟩
      refine ⟨Nat.le_refl _, ?_⟩
      rw [bitsL_eq hlt hb] at hD2
      refine ⟨D, _, rfl, .inl ⟨SqL.of hD2, fun p gp => ?_⟩⟩
      exact q p _ (s2.new gp) upd_same
theorem two_le {i : Nat} (h : i ≤ 8) : 2 ^ i ≤ 256 := Nat.pow_le_pow_right (n := 2) (by decide) h
theorem bitAnd_nat (a b : Nat) : Builtin.bitAnd (a : Int) (b : Int) = ((a &&& b : Nat) : Int) := by
  rw [bitAnd_pp (Int.natCast_nonneg _) (Int.natCast_nonneg _), Int.toNat_natCast, Int.toNat_natCast]
theorem bit_le {x l : Nat} (h : x.testBit l = true) : 2 ^ l ≤ x := Nat.ge_two_pow_of_testBit h
noncomputable def maskN : List Bool → Nat
  | [] => 0
  | b :: r => (if b then 1 else 0) + 2 * maskN r
theorem maskN_snoc : ∀ (l : List Bool) (b : Bool), maskN (l ++ [b]) = maskN l + 2 ^ l.length * (if b then 1 else 0)
  | [], b => by simp [maskN]
  | a :: r, b => by
    have ih := maskN_snoc r b
    show (if a then 1 else 0) + 2 * maskN (r ++ [b]) = (if a then 1 else 0) + 2 * maskN r + 2 ^ (r.length + 1) * (if b then 1 else 0)
    rw [ih, Nat.pow_succ, Nat.mul_add, Nat.mul_comm (2 ^ r.length) 2, Nat.mul_assoc]
    omega
theorem maskN_bit : ∀ (l : List Bool) (i : Nat), (maskN l).testBit i = l.getD i false
  | [], i => by simp [maskN]
  | a :: r, 0 => by
    show ((if a then 1 else 0) + 2 * maskN r).testBit 0 = a
    rw [Nat.testBit_zero]
    cases a <;> simp <;> omega
  | a :: r, i + 1 => by
    show ((if a then 1 else 0) + 2 * maskN r).testBit (i + 1) = r.getD i false
    rw [Nat.testBit_succ, ← maskN_bit r i]
    congr 1
    split <;> omega
structure OptL (st : Nat → Nat) (bs : List (Int × Nat)) : Prop where
  zero : ∀ v, bs[0]? = some v → v = (0, 0)
  hit : ∀ x v, 0 < x → bs[x]? = some v → x.testBit v.2 = true ∧ v.1 = (bs.getD (x - 2 ^ v.2) (0, 0)).1 + (onesN (st v.2 &&& x) : Int)
  low : ∀ x v, 0 < x → bs[x]? = some v → ∀ l, x.testBit l = true → v.1 ≤ (bs.getD (x - 2 ^ l) (0, 0)).1 + (onesN (st l &&& x) : Int)
theorem OptL.snoc {st : Nat → Nat} {bs : List (Int × Nat)} {v : Int × Nat} (h : OptL st bs) (hl : 0 < bs.length) (h1 : bs.length.testBit v.2 = true) (h2 : v.1 = (bs.getD (bs.length - 2 ^ v.2) (0, 0)).1 + (onesN (st v.2 &&& bs.length) : Int)) (h3 : ∀ l, bs.length.testBit l = true → v.1 ≤ (bs.getD (bs.length - 2 ^ l) (0, 0)).1 + (onesN (st l &&& bs.length) : Int)) : OptL st (bs ++ [v]) := by
  have hlow : ∀ {x l : Nat}, x.testBit l = true → x - 2 ^ l < x := fun {x l} hx => by
    have h4 := bit_le hx
    have h5 := Nat.two_pow_pos l
    omega
  have hget : ∀ {x u}, (bs ++ [v])[x]? = some u → (x < bs.length ∧ bs[x]? = some u) ∨ (x = bs.length ∧ u = v) := fun {x u} e => by
    rcases Nat.lt_trichotomy x bs.length with c | c | c
    · rw [List.getElem?_append_left c] at e; exact .inl ⟨c, e⟩
    · rw [c, List.getElem?_append_right (Nat.le_refl _), Nat.sub_self] at e; exact .inr ⟨c, (Option.some.inj e).symm⟩
    · rw [List.getElem?_eq_none (by rw [List.length_append]; simp; omega)] at e; cases e
  refine ⟨fun u e => ?_, fun x u hx e => ?_, fun x u hx e p hp => ?_⟩
  · rcases hget e with ⟨_, e'⟩ | ⟨c, _⟩
    · exact h.zero u e'
    · omega
  · rcases hget e with ⟨c, e'⟩ | ⟨c, rfl⟩
    · obtain ⟨a, b⟩ := h.hit x u hx e'
      refine ⟨a, ?_⟩
      rw [getD_app (Nat.lt_trans (hlow a) c)]
      exact b
    · subst c
      refine ⟨h1, ?_⟩
      rw [getD_app (hlow h1)]
      exact h2
  · rcases hget e with ⟨c, e'⟩ | ⟨c, rfl⟩
    · rw [getD_app (Nat.lt_trans (hlow hp) c)]
      exact h.low x u hx e' p hp
    · subst c
      rw [getD_app (hlow hp)]
      exact h3 p hp
noncomputable def mskOf (tg B : List Str) : Nat := maskN (tg.map fun p => decide (p ∈ B))
noncomputable def spPlace : Sp := fun vs H Q _ => ∃ (a b : Addr) (tg B : List Str), vs = [.ref a, .ref b] ∧ H a = some (.tup (tg.map V.str)) ∧ H b = some (.tup (B.map V.str)) ∧ tg.length ≤ 8 ∧ ∀ H', Same H H' → Q (.int (mskOf tg B : Int)) H'
theorem ok_place (T : Txt K mg) : L2.Cl P w K mg base 1 "place_of" ["tangle", "some"] spPlace := by
  refine Cl.of T.d_place_of sc_place_of (fun vs H Q E h => ?_) (fun _ _ _ _ _ _ us hl => by obtain ⟨a, b, rfl⟩ := len2 hl; rfl) (fun f cdv A outer s H vs Q E hr h => ?_)
  · obtain ⟨a, b, tg, B, rfl, _⟩ := h
    rfl
  · obtain ⟨a, b, tg, B, rfl, ha, hb, ht8, q⟩ := h
    refine ⟨_, (pss_one (ps_ret (pe_callB (call_sum rfl) (by rfl) T.n_sum boot_sum (pa_cons (pe_comp (M := ["number", "part", "some"]) (ρ := [none, none, some 1]) (defScope s_place_of) ["tangle", "some"] ⟨rfl, by decide +kernel, by decide +kernel, by decide +kernel, rfl, by decide +kernel, by decide +kernel⟩ (pi_enumT (by rfl) T.n_enumerate (pa_cons (pv 0) pa_nil)) (fun _ _ _ _ _ _ => (pg_tupK (K := K) (n := 2) rfl rfl (pgs_cons (pg_name (i := 0) (show (["number", "part", "some"] : List Str).Nodup by decide +kernel) rfl (Or.inl rfl)) (pgs_cons (pg_name (i := 1) (show (["number", "part", "some"] : List Str).Nodup by decide +kernel) rfl (Or.inl rfl)) pgs_nil)))) (fun _ _ _ _ _ _ => (pts_one (pt_cmpR (op_in_seqK (K := K) rfl) (pv 1) (pv 2) (by with_unfolding_all rfl)))) (fun _ _ _ _ _ _ => (pe_op op_shl pe_int (pv 0)))) pa_nil)))), ?_⟩
    refine ⟨_, rfl, a, rfl, ⟨_, SqT.of ha⟩, fun D gD => ?_⟩
    refine comp_by tg.length (fun i σ H2 => ∃ (v0 v1 : Option V) (ns : List Int), σ = [v0, v1, some (.ref b)] ∧ Same H H2 ∧ H2 D = some (.lst (ns.map V.int)) ∧ ns.length ≤ i ∧ ns.sum = ((maskN ((tg.take i).map fun p => decide (p ∈ B)) : Nat) : Int)) ⟨_, _, [], rfl, (Same.refl H).new gD, upd_same, Nat.le_refl _, by rw [List.take_zero]; rfl⟩ ?_ ?_
    · rintro i σ H2 hi ⟨v0, v1, ns, rfl, s2, hD2, hnl, hsum⟩
      have hn : tg[i]? = some tg[i] := by simp [hi]
      refine ⟨⟨_, .str tg[i], SqT.of (s2 _ _ ha), by simp [hi]⟩, ?_⟩
      rintro x H3 ⟨p, v, hv, gp, rfl, rfl⟩
      have ev : v = .str tg[i] := Option.some.inj ((hv _ (SqT.of (s2 _ _ ha))).symm.trans (by rw [List.getElem?_map, hn]; rfl))
      subst ev
      have s3 : Same H2 (upd H2 p (.tup [.int (i : Int), .str tg[i]])) := (Same.refl H2).new gp
      have hD3 := s3 _ _ hD2
      have htk : ((tg.take i).map fun p => decide (p ∈ B)).length = i := by rw [List.length_map, List.length_take]; omega
      have hmk : maskN ((tg.take (i + 1)).map fun p => decide (p ∈ B)) = maskN ((tg.take i).map fun p => decide (p ∈ B)) + 2 ^ i * (if decide (tg[i] ∈ B) then 1 else 0) := by
        rw [take_succ_get hn, List.map_append]
        show maskN (_ ++ [decide (tg[i] ∈ B)]) = _
        rw [maskN_snoc, htk]
      refine ⟨p, _, rfl, SqT.of upd_same, rfl, _, _, rfl, _, _, rfl, rfl, ?_⟩
      refine ⟨_, rfl, _, rfl, b, _, rfl, .inr (SqT.of (s3 _ _ (s2 _ _ hb))), rfl, strs_flat _, _, rfl, ?_⟩
      rw [if_neg Bool.false_ne_true, inV_strs]
      refine ite2 (fun e => ?_) (fun e => ?_)
      · refine ⟨_, rfl, _, _, rfl, rfl, ⟨by omega, by omega, by decide⟩, ns.map V.int, hD3, small1000 (by rw [List.length_map]; omega), _, _, ns ++ [1 * 2 ^ ((i : Int)).toNat], rfl, (s2.trans s3).put gD, by rw [upd_same, List.map_append]; rfl, by rw [List.length_append]; simp; omega, ?_⟩
        rw [hmk, if_pos e, List.sum_append, hsum, Int.toNat_natCast]
        simp
      · refine ⟨_, _, ns, rfl, s2.trans s3, hD3, by omega, ?_⟩
        rw [hmk, if_neg e, hsum]
        simp
    · rintro σ H2 ⟨v0, v1, ns, rfl, s2, hD2, hnl, hsum⟩
      refine ⟨⟨_, SqT.of (s2 _ _ ha), by simp⟩, ?_⟩
      rw [List.take_length] at hsum
      refine ⟨D, ns, rfl, SqL.of hD2, ?_⟩
      rw [hsum]
      exact q H2 s2
noncomputable def stepsOf (ps : List Pt) (tg : List Str) : List Nat := tg.map fun n => mskOf tg (k1 ps n)
noncomputable def spWithin : Sp := fun vs H Q _ => ∃ (a b : Addr) (ps : List Pt) (tg : List Str), vs = [.ref a, .ref b] ∧ PartsF H a ps ∧ PsFit ps ∧ H b = some (.tup (tg.map V.str)) ∧ (∀ n ∈ tg, n ∈ ps.map (·.1)) ∧ tg.length ≤ 8 ∧ ∀ (l : Addr) (H' : Hp), Same H H' → H' l = some (.lst (natsV (stepsOf ps tg))) → Q (.ref l) H'
theorem ok_within (T : Txt K mg) : L2.Cl P w K mg base 4 "steps_within" ["parts", "tangle"] spWithin := by
  have C_bringings := ok_bringings (P := P) (w := w) (base := base) T
  have C_place_of := ok_place (P := P) (w := w) (base := base) T
  refine Cl.of T.d_steps_within sc_steps_within (fun vs H Q E h => ?_) (fun _ _ _ _ _ _ us hl => by obtain ⟨a, b, rfl⟩ := len2 hl; rfl) (fun f cdv A outer s H vs Q E hr h => ?_)
  · obtain ⟨a, b, ps, tg, rfl, _⟩ := h
    rfl
  · obtain ⟨a, b, ps, tg, rfl, hpf, hfit, hb, htin, ht8, q⟩ := h
    have hu := hu_of hr
    refine ⟨_, (pss_cons (ps_if (pt_cmpR op_gt (pe_callB call_len_seq (by rfl) T.n_len PySem.boot_len (pa_cons (pv 1) pa_nil)) (pe_globS T.g_MOST_PARTS (by rfl)) (nomark _))
        (pss_one ps_never) pss_nil)
      (pss_cons (ps_set (i := 2) sc_steps_within.nd rfl (Or.inr rfl) (pe_fn C_bringings hr (by rfl) (pa_cons (pv 0) pa_nil)))
      (pss_one (ps_ret (pe_comp (M := ["part", "tangle", "onward"]) (ρ := [none, some 1, some 2]) (defScope s_steps_within) ["parts", "tangle", "onward"] ⟨rfl, by decide +kernel, by decide +kernel, by decide +kernel, rfl, by decide +kernel, by decide +kernel⟩ (pi_tup (pv 1)) (fun _ _ _ _ _ _ => (pg_name (i := 0) (show (["part", "tangle", "onward"] : List Str).Nodup by decide +kernel) rfl (Or.inl rfl))) (fun _ _ _ _ _ _ => pts_nil) (fun _ _ _ _ _ _ => (pe_fn C_place_of hr (by rfl) (pa_cons (pv 1) (pa_cons (pe_dget hu (pv 2) (pv 0) (fun _ _ => rfl)) pa_nil))))))))), ?_⟩
    refine ⟨_, rfl, b, _, rfl, .inr (SqT.of hb), _, _, rfl, rfl, _, rfl, ite2 (fun hh => absurd (of_decide_eq_true hh) (by rw [List.length_map]; omega)) fun _ => ?_⟩
    refine ⟨_, rfl, a, ps, rfl, hpf, hfit, fun d qs H1 s1 gd hd hqs => ?_⟩
    have hgv := br_val hfit.nd hqs
    refine ⟨_, rfl, b, rfl, ⟨_, SqT.of (s1 _ _ hb)⟩, fun D gD => ?_⟩
    refine comp_by tg.length (fun i σ H2 => ∃ v0 : Option V, σ = [v0, some (.ref b), some (.ref d)] ∧ Same H1 H2 ∧ H2 D = some (.lst (natsV ((stepsOf ps tg).take i)))) ⟨_, rfl, (Same.refl H1).new gD, by rw [upd_same, List.take_zero]; rfl⟩ ?_ ?_
    · rintro i σ H2 hi ⟨v0, rfl, s2, hD2⟩
      have hn : tg[i]? = some tg[i] := by simp [hi]
      have hb2 := s2 _ _ (s1 _ _ hb)
      refine ⟨⟨_, .str tg[i], SqT.of hb2, by simp [hi]⟩, ?_⟩
      rintro y H3 ⟨rfl, hy⟩
      have ey : y = .str tg[i] := Option.some.inj ((hy _ (SqT.of hb2)).symm.trans (by rw [List.getElem?_map, hn]; rfl))
      subst ey
      obtain ⟨u, hu1, hu2⟩ := hgv _ (htin _ (List.getElem_mem hi))
      have hg := DGet.k (k := Sum.inr tg[i]) (s2 _ _ hd)
      rw [hu1] at hg
      refine ntG ?_
      refine ⟨_, rfl, _, rfl, _, rfl, d, _, rfl, hg, b, u, tg, k1 ps tg[i], rfl, hb2, s2 _ _ hu2, ht8, fun H4 s4 => ?_⟩
      have hst : (stepsOf ps tg)[i]? = some (mskOf tg (k1 ps tg[i])) := by
        unfold stepsOf
        rw [List.getElem?_map, hn]
        rfl
      refine ⟨_, s4 _ _ hD2, small1000 (by rw [natsV_len, List.length_take]; unfold stepsOf; rw [List.length_map]; omega), _, rfl, (s2.trans s4).put gD, ?_⟩
      rw [upd_same, take_succ_get hst, natsV_snoc]
    · rintro σ H2 ⟨v0, rfl, s2, hD2⟩
      refine ⟨⟨_, SqT.of (s2 _ _ (s1 _ _ hb)), by simp⟩, ?_⟩
      rw [show tg.length = (stepsOf ps tg).length by unfold stepsOf; rw [List.length_map], List.take_length] at hD2
      exact q D H2 (s1.trans s2) hD2
theorem bitsL_mem {x l : Nat} (h : x < 2 ^ 24) : l ∈ bitsL x ↔ x.testBit l = true := by
  unfold bitsL
  rw [List.mem_filter, List.mem_range]
  refine ⟨fun z => z.2, fun z => ⟨?_, z⟩⟩
  have := bit_le z
  exact (Nat.pow_lt_pow_iff_right (by decide)).mp (Nat.lt_of_le_of_lt this h)
theorem bits_ones {x : Nat} (h : x < 2 ^ 24) : (bitsL x).length = onesN x := count_bits 24 x h
noncomputable def PrB (H : Hp) (v : V) (x : Int × Nat) : Prop := ∃ t, v = .ref t ∧ H t = some (.tup [.int x.1, .int (x.2 : Int)])
theorem PrB.mono {H H' : Hp} (s : Tups H H') {v : V} {x : Int × Nat} (h : PrB H v x) : PrB H' v x := by
  obtain ⟨t, e, h⟩ := h
  exact ⟨t, e, s _ _ h⟩
noncomputable def cntL (ss : List Nat) (bs : List (Int × Nat)) (x l : Nat) : Int := (bs.getD (x - 2 ^ l) (0, 0)).1 + (onesN (ss.getD l 0 &&& x) : Int)
noncomputable def spCount : Sp := fun vs H Q _ => ∃ (sl bl : Addr) (ss : List Nat) (us : List V) (bs : List (Int × Nat)) (x l : Nat), vs = [.ref sl, .ref bl, .int (x : Int), .int (l : Int)] ∧ H sl = some (.lst (natsV ss)) ∧ H bl = some (.lst us) ∧ Paired (PrB H) us bs ∧ x.testBit l = true ∧ x < 256 ∧ l < ss.length ∧ ss.length ≤ 8 ∧ x - 2 ^ l < bs.length ∧ ∀ H', Same H H' → Q (.int (cntL ss bs x l)) H'
theorem ok_count (T : Txt K mg) : L2.Cl P w K mg base 2 "count_with_last" ["steps", "best", "place", "last"] spCount := by
  have C_numbers_in := ok_in2 (P := P) (w := w) (base := base) T
  refine Cl.of T.d_count_with_last sc_count_with_last (fun vs H Q E h => ?_) (fun _ _ _ _ _ _ us hl => by obtain ⟨a, b, c, d, rfl⟩ := len4 hl; rfl) (fun f cdv A outer s H vs Q E hr h => ?_)
  · obtain ⟨sl, bl, ss, us, bs, x, l, rfl, _⟩ := h
    rfl
  · obtain ⟨sl, bl, ss, us, bs, x, l, rfl, hsl, hbl, hus, hbit, hx, hl, hs8, hxb, q⟩ := h
    have hle := bit_le hbit
    have h2 := Nat.two_pow_pos l
    have ep : (1 : Int) * 2 ^ ((l : Int)).toNat = ((2 ^ l : Nat) : Int) := by rw [Int.one_mul, Int.toNat_natCast, Int.natCast_pow]; rfl
    have hb : bs[x - 2 ^ l]? = some bs[x - 2 ^ l] := List.getElem?_eq_getElem hxb
    obtain ⟨u, hu', tb, eb, htb⟩ := Paired.get?' hus hb
    subst eb
    have atb : atI us ((x : Int) - 1 * 2 ^ ((l : Int)).toNat) = some (.ref tb) := by
      rw [ep, show (x : Int) - ((2 ^ l : Nat) : Int) = ((x - 2 ^ l : Nat) : Int) by omega]
      exact atI_nat hu'
    have z0 : atI [V.int (bs[x - 2 ^ l]).1, V.int ((bs[x - 2 ^ l]).2 : Int)] 0 = some (.int (bs[x - 2 ^ l]).1) := atI_nat (j := 0) rfl
    have hgs : ss.getD l 0 = ss[l] := by rw [List.getD_eq_getElem?_getD, List.getElem?_eq_getElem hl]; rfl
    have ats : atI (natsV ss) (l : Int) = some (.int ((ss.getD l 0 : Nat) : Int)) := by
      rw [hgs]
      exact atI_nat (by unfold natsV; rw [List.getElem?_map, List.getElem?_eq_getElem hl]; rfl)
    have hgd : (bs.getD (x - 2 ^ l) (0, 0)) = bs[x - 2 ^ l] := by rw [List.getD_eq_getElem?_getD, hb]; rfl
    have hlt : ss.getD l 0 &&& x < 2 ^ 24 := Nat.lt_of_le_of_lt Nat.and_le_right (by omega)
    refine ⟨_, (pss_one (ps_ret (pe_op op_add (pe_ix ix_tup (pe_ix ix_list (pv 1) (pe_op op_sub (pv 2) (pe_op op_shl pe_int (pv 3))) (fun _ _ => rfl)) pe_int (fun _ _ => rfl)) (pe_callB call_len_seq (by rfl) T.n_len PySem.boot_len (pa_cons (pe_fn C_numbers_in hr (by rfl) (pa_cons (pe_op op_and (pe_ix ix_list (pv 0) (pv 3) (fun _ _ => rfl)) (pv 2)) pa_nil)) pa_nil))))), ?_⟩
    refine ⟨_, rfl, _, rfl, _, rfl, _, _, rfl, rfl, ⟨by omega, by omega, by decide⟩, _, _, rfl, rfl, bl, _, _, _, rfl, rfl, SqL.of hbl, atb, tb, _, _, _, rfl, rfl, SqT.of htb, z0, _, rfl, _, rfl, sl, _, _, _, rfl, rfl, SqL.of hsl, ats, _, rfl, _, _, rfl, rfl, ss.getD l 0 &&& x, (by show [V.int (Builtin.bitAnd ((ss.getD l 0 : Nat) : Int) (x : Int))] = _; rw [bitAnd_nat]), hlt, fun p H1 s1 hp => ?_⟩
    refine ⟨p, _, rfl, .inr (SqT.of hp), _, _, rfl, rfl, ?_⟩
    rw [natsV_len, bits_ones hlt]
    have := q H1 s1
    unfold cntL at this
    rw [hgd] at this
    exact this
noncomputable def spLasts : Sp := fun vs H Q _ => ∃ (sl : Addr) (ss : List Nat), vs = [.ref sl] ∧ H sl = some (.lst (natsV ss)) ∧ ss.length ≤ 8 ∧ ∀ (l : Addr) (us : List V) (bs : List (Int × Nat)) (H' : Hp), Same H H' → H' l = some (.lst us) → Paired (PrB H') us bs → OptL (fun k => ss.getD k 0) bs → bs.length = 2 ^ ss.length → Q (.ref l) H'
theorem ok_lasts (T : Txt K mg) : L2.Cl P w K mg base 3 "best_lasts" ["steps"] spLasts := by
  have C_numbers_in := ok_in2 (P := P) (w := w) (base := base) T
  have C_count_with_last := ok_count (P := P) (w := w) (base := base) T
  refine Cl.of T.d_best_lasts sc_best_lasts (fun vs H Q E h => ?_) (fun _ _ _ _ _ _ us hl => by obtain ⟨a, rfl⟩ := len1 hl; rfl) (fun f cdv A outer s H vs Q E hr h => ?_)
  · obtain ⟨sl, ss, rfl, _⟩ := h
    rfl
  · obtain ⟨sl, ss, rfl, hsl, hs8, q⟩ := h
    have hu := hu_of hr
    have h256 : 2 ^ ss.length ≤ 256 := two_le hs8
    have hpos : 0 < 2 ^ ss.length := Nat.two_pow_pos _
    refine ⟨_, (pss_cons (ps_set (i := 1) sc_best_lasts.nd rfl (Or.inr rfl) (pe_lst (pa_cons (pe_tup (pa_cons pe_int (pa_cons pe_int pa_nil))) pa_nil)))
      (pss_cons (ps_for PassesOwn.never rfl (pi_range2 (by rfl) T.n_range (pa_cons pe_int (pa_cons (pe_op op_shl pe_int (pe_callB call_len_seq (by rfl) T.n_len PySem.boot_len (pa_cons (pv 0) pa_nil))) pa_nil))) (pg_name (i := 2) sc_best_lasts.nd rfl (Or.inr rfl))
        (pss_one (ps_expr (pe_bm PySem.F.plainAttrs_list PySem.F.slot_list_append PySem.F.type_list_append mt_append (pv 1) (pa_cons (pe_callB (call_minP rfl hu) (by rfl) T.n_min boot_min (pa_cons (pe_comp (M := ["last", "steps", "best", "place"]) (ρ := [none, some 0, some 1, some 2]) (defScope s_best_lasts) ["steps", "best", "place"] ⟨rfl, by decide +kernel, by decide +kernel, by decide +kernel, rfl, by decide +kernel, by decide +kernel⟩ (pi_tup (pe_fn C_numbers_in hr (by rfl) (pa_cons (pv 2) pa_nil))) (fun _ _ _ _ _ _ => (pg_name (i := 0) (show (["last", "steps", "best", "place"] : List Str).Nodup by decide +kernel) rfl (Or.inl rfl))) (fun _ _ _ _ _ _ => pts_nil) (fun _ _ _ _ _ _ => (pe_tup (pa_cons (pe_fn C_count_with_last hr (by rfl) (pa_cons (pv 1) (pa_cons (pv 2) (pa_cons (pv 3) (pa_cons (pv 0) pa_nil))))) (pa_cons (pv 0) pa_nil))))) pa_nil)) pa_nil)))))
      (pss_one (ps_ret (pv 1))))), ?_⟩
    refine ⟨(by show 2 ≤ sizeLine; decide), fun q0 gq => ?_⟩
    have s3 : Same H (upd H q0 (.tup [.int 0, .int 0])) := (Same.refl H).new gq
    have hq0 : upd H q0 (.tup [.int 0, .int 0]) q0 = some (.tup [.int 0, .int 0]) := upd_same
    generalize upd H q0 (.tup [.int 0, .int 0]) = H3 at s3 hq0 ⊢
    refine ⟨(by show 1 ≤ sizeLine; decide), fun B gB => ?_⟩
    have gBH : H B = none := s3.free gB
    have s4 : Same H (upd H3 B (.lst [.ref q0])) := s3.new gB
    have hB4 : upd H3 B (.lst [.ref q0]) B = some (.lst [.ref q0]) := upd_same
    have hq4 : upd H3 B (.lst [.ref q0]) q0 = some (.tup [.int 0, .int 0]) := upd_keep hq0 gB
    generalize upd H3 B (.lst [.ref q0]) = H4 at s4 hB4 hq4 ⊢
    have e2 : (1 : Int) * 2 ^ (((natsV ss).length : Int)).toNat = ((2 ^ ss.length : Nat) : Int) := by
      rw [Int.one_mul, Int.toNat_natCast, natsV_len, Int.natCast_pow]
      rfl
    refine ⟨_, rfl, sl, _, rfl, .inl (SqL.of (s4 _ _ hsl)), _, _, rfl, rfl, ⟨by omega, by rw [natsV_len]; omega, by decide⟩, _, _, rfl, ?_⟩
    rw [e2]
    have hn : (((2 ^ ss.length : Nat) : Int) - 1).toNat = 2 ^ ss.length - 1 := by omega
    refine ⟨⟨by omega, by omega, by omega, by omega⟩, ?_⟩
    rw [hn]
    refine for_range (fun i σ H5 => ∃ (v2 : Option V) (us : List V) (bs : List (Int × Nat)), σ = [some (.ref sl), some (.ref B), v2] ∧ Same H H5 ∧ H5 B = some (.lst us) ∧ Paired (PrB H5) us bs ∧ OptL (fun k => ss.getD k 0) bs ∧ bs.length = i + 1)
      ⟨none, [.ref q0], [(0, 0)], rfl, s4, hB4, .cons ⟨q0, rfl, hq4⟩ .nil, ⟨fun v e => (Option.some.inj e).symm, fun x v hx e => ?_, fun x v hx e => ?_⟩, rfl⟩ ?_ ?_
    · rw [List.getElem?_eq_none (by simp; omega)] at e; cases e
    · rw [List.getElem?_eq_none (by simp; omega)] at e; cases e
    · rintro i σ H5 hi ⟨v2, us, bs, rfl, s5, hB5, hus, hopt, hbl⟩
      have hul : us.length = bs.length := Paired.length hus
      have ex : (1 : Int) + (i : Int) = ((bs.length : Nat) : Int) := by omega
      rw [ex]
      have hx24 : bs.length < 2 ^ 24 := by omega
      refine ⟨_, rfl, .inl ⟨rfl, _, SqL.of hB5⟩, _, rfl, bs.length, rfl, hx24, fun p H6 s6 hp => ?_⟩
      have hbm := fun l => bitsL_mem (x := bs.length) (l := l) hx24
      have hbl24 : (bitsL bs.length).length ≤ 24 := bitsL_len (n := 24) hx24 (by decide)
      have hbne : bitsL bs.length ≠ [] := fun z => by
        have h1 := bits_ones hx24
        rw [z] at h1
        obtain ⟨k, m, e⟩ := odd_part bs.length (by omega)
        have : k ∈ bitsL bs.length := (hbm k).mpr (by rw [Nat.testBit_eq_decide_div_mod_eq, e, Nat.mul_div_cancel_left _ (Nat.two_pow_pos k)]; exact decide_eq_true (by omega))
        rw [z] at this
        simp at this
      generalize bitsL bs.length = ls at hp hbm hbl24 hbne
      refine ⟨p, rfl, ⟨_, SqT.of hp⟩, fun D7 gD7 => ?_⟩
      refine comp_by ls.length (fun j σ H7 => ∃ (v0 : Option V) (ws : List V), σ = [v0, some (.ref sl), some (.ref B), some (.int ((bs.length : Nat) : Int))] ∧ Same H6 H7 ∧ H7 D7 = some (.lst ws) ∧ Paired (PrB H7) ws ((ls.take j).map fun l => (cntL ss bs bs.length l, l))) ⟨_, [], rfl, (Same.refl H6).new gD7, upd_same, by rw [List.take_zero]; exact .nil⟩ ?_ ?_
      · rintro j σ H7 hj ⟨v0, ws, rfl, s7, hD7, hws⟩
        refine ⟨⟨_, .int (ls[j] : Int), SqT.of (s7 _ _ hp), by unfold natsV; simp [hj]⟩, ?_⟩
        rintro y H8 ⟨rfl, hy⟩
        obtain ⟨l, hl, rfl⟩ := natsV_get (hy _ (SqT.of (s7 _ _ hp)))
        have hbit := (hbm l).mp (List.mem_of_getElem? hl)
        have hble := bit_le hbit
        have hlss : l < ss.length := (Nat.pow_lt_pow_iff_right (a := 2) (by decide)).mp (by omega)
        have h2l := Nat.two_pow_pos l
        have hwl : ws.length ≤ 24 := by rw [Paired.length hws, List.length_map, List.length_take]; omega
        have s67 := s6.trans s7
        refine ntG ?_
        refine ⟨_, rfl, _, rfl, _, rfl, _, rfl, sl, B, ss, us, bs, bs.length, l, rfl, s67 _ _ (s5 _ _ hsl), s67 _ _ hB5, Paired.mapP hus fun _ _ z => z.mono s67.tups, hbit, by omega, hlss, hs8, by omega, fun H9 s9 => ?_⟩
        refine ⟨_, rfl, (by show 2 ≤ sizeLine; decide), fun r gr => ?_⟩
        have s8 := (Same.refl H9).new (o := .tup [.int (cntL ss bs bs.length l), .int (l : Int)]) gr
        have hD9 := s8 _ _ (s9 _ _ hD7)
        have T9 := Tups.lst (ys := ws ++ [.ref r]) hD9
        refine ⟨ws, hD9, small1000 (by omega), _, ws ++ [.ref r], rfl, ((s7.trans s9).trans s8).put gD7, upd_same, ?_⟩
        rw [take_succ_get hl, List.map_append]
        refine Paired.snoc (Paired.mapP hws fun _ _ z => z.mono ((s9.trans s8).tups.trans T9)) ⟨r, rfl, T9 _ _ ?_⟩
        rw [upd_same]
      rintro σ H7 ⟨v0, ws, rfl, s7, hD7, hws⟩
      refine ⟨⟨_, SqT.of (s7 _ _ hp), by rw [natsV_len]; exact Nat.le_refl _⟩, ?_⟩
      rw [List.take_length] at hws
      refine ⟨D7, ws, (ls.map fun l => (cntL ss bs bs.length l, l)).map fun x => (x.1, (x.2 : Int)), rfl, SqL.of hD7, ?_, fun z => hbne (List.map_eq_nil_iff.mp (List.map_eq_nil_iff.mp z)), fun k v n hv hn hmin => ?_⟩
      · clear hD7
        generalize (ls.map fun l => (cntL ss bs bs.length l, l)) = xs at hws ⊢
        induction hws with
        | nil => exact .nil
        | cons h _ ih =>
          obtain ⟨tt, e, ht⟩ := h
          exact .cons ⟨tt, e, SqT.of ht⟩ ih
      obtain ⟨x, hx, tv, ev, htv⟩ := Paired.get? hws hv
      subst ev
      rw [List.getElem?_map] at hx
      cases ep : ls[k]? with
      | none => rw [ep] at hx; cases hx
      | some l =>
        rw [ep] at hx
        cases hx
        have hn' : n = (cntL ss bs bs.length l, (l : Int)) := by
          rw [List.getElem?_map, List.getElem?_map, ep] at hn
          exact (Option.some.inj hn).symm
        have hbit := (hbm l).mp (List.mem_of_getElem? ep)
        have hB7 := (s6.trans s7) _ _ hB5
        refine ⟨B, _, _, rfl, rfl, hB7, small1000 (by omega), ?_⟩
        have T8 := Tups.lst (ys := us ++ [.ref tv]) hB7
        refine ⟨_, us ++ [.ref tv], bs ++ [(cntL ss bs bs.length l, l)], rfl, ((s5.trans s6).trans s7).put gBH, upd_same, ?_, ?_, ?_⟩
        · exact Paired.snoc (Paired.mapP hus fun _ _ z => z.mono ((s6.trans s7).tups.trans T8)) ⟨tv, rfl, T8 _ _ htv⟩
        · refine hopt.snoc (by omega) hbit rfl fun l' hl' => ?_
          have h1 := hmin (cntL ss bs bs.length l', (l' : Int)) (List.mem_map.mpr ⟨_, List.mem_map.mpr ⟨l', (hbm l').mpr hl', rfl⟩, rfl⟩)
          rw [hn'] at h1
          exact h1
        · rw [List.length_append, hbl]; rfl
    · rintro σ H5 ⟨v2, us, bs, rfl, s5, hB5, hus, hopt, hbl⟩
      exact ⟨_, rfl, q B us bs H5 s5 hB5 hus hopt (by omega)⟩
theorem sub_bit : ∀ (l x a : Nat), x.testBit l = true → (x - 2 ^ l).testBit a = (x.testBit a && !decide (a = l))
  | 0, x, 0, h => by
    rw [Nat.testBit_zero] at h
    have h' : x % 2 = 1 := of_decide_eq_true h
    rw [Nat.testBit_zero, Nat.testBit_zero]
    have e : (x - 2 ^ 0) % 2 = 0 := by omega
    rw [e]
    simp
  | 0, x, a + 1, h => by
    rw [Nat.testBit_zero] at h
    have h' : x % 2 = 1 := of_decide_eq_true h
    rw [Nat.testBit_succ, Nat.testBit_succ, show (x - 2 ^ 0) / 2 = x / 2 by omega]
    simp
  | l + 1, x, 0, h => by
    rw [Nat.testBit_succ] at h
    have hle : 2 ^ l ≤ x / 2 := Nat.ge_two_pow_of_testBit h
    have hp : 2 ^ (l + 1) = 2 * 2 ^ l := by rw [Nat.pow_succ, Nat.mul_comm]
    rw [Nat.testBit_zero, Nat.testBit_zero, show (x - 2 ^ (l + 1)) % 2 = x % 2 by rw [hp]; omega]
    simp
  | l + 1, x, a + 1, h => by
    rw [Nat.testBit_succ] at h
    have ih := sub_bit l (x / 2) a h
    have hle : 2 ^ l ≤ x / 2 := Nat.ge_two_pow_of_testBit h
    have hp : 2 ^ (l + 1) = 2 * 2 ^ l := by rw [Nat.pow_succ, Nat.mul_comm]
    rw [Nat.testBit_succ, Nat.testBit_succ, show (x - 2 ^ (l + 1)) / 2 = x / 2 - 2 ^ l by rw [hp]; omega, ih]
    congr 2
    exact decide_eq_decide.mpr ⟨fun z => by omega, fun z => by omega⟩
noncomputable def pick (st : Nat → Nat) (bs : List (Int × Nat)) : Nat → Nat → List (Nat × Nat)
  | 0, _ => []
  | k + 1, x => if x = 0 then [] else (bitsL (st (bs.getD x (0, 0)).2 &&& x)).map (fun m => ((bs.getD x (0, 0)).2, m)) ++ pick st bs k (x - 2 ^ (bs.getD x (0, 0)).2)
theorem pick_zero (st : Nat → Nat) (bs : List (Int × Nat)) (k : Nat) : pick st bs k 0 = [] := by
  cases k with
  | zero => rfl
  | succ k => rfl
theorem pick_succ {st : Nat → Nat} {bs : List (Int × Nat)} {k x : Nat} (h : x ≠ 0) : pick st bs (k + 1) x = (bitsL (st (bs.getD x (0, 0)).2 &&& x)).map (fun m => ((bs.getD x (0, 0)).2, m)) ++ pick st bs k (x - 2 ^ (bs.getD x (0, 0)).2) := by
  show (if x = 0 then [] else _) = _
  rw [if_neg h]
theorem getD_some {bs : List (Int × Nat)} {x : Nat} (h : x < bs.length) : bs[x]? = some (bs.getD x (0, 0)) := by
  rw [List.getD_eq_getElem?_getD, List.getElem?_eq_getElem h]; rfl
theorem OptL.bit {st : Nat → Nat} {bs : List (Int × Nat)} (h : OptL st bs) {x : Nat} (hx : x ≠ 0) (hl : x < bs.length) : x.testBit (bs.getD x (0, 0)).2 = true := (h.hit x _ (by omega) (getD_some hl)).1
theorem OptL.less {st : Nat → Nat} {bs : List (Int × Nat)} (h : OptL st bs) {x : Nat} (hx : x ≠ 0) (hl : x < bs.length) : x - 2 ^ (bs.getD x (0, 0)).2 < x := by
  have h1 := bit_le (h.bit hx hl)
  have h2 := Nat.two_pow_pos (bs.getD x (0, 0)).2
  omega
theorem and24 {s x : Nat} (h : x < 2 ^ 24) : s &&& x < 2 ^ 24 := Nat.lt_of_le_of_lt Nat.and_le_right h
theorem pick_len {st : Nat → Nat} {bs : List (Int × Nat)} (h : OptL st bs) : ∀ k x, x ≤ k → x < bs.length → x < 2 ^ 24 → ((pick st bs k x).length : Int) = (bs.getD x (0, 0)).1
  | k, 0, _, hl, _ => by
    rw [pick_zero, h.zero _ (getD_some hl)]
    rfl
  | 0, x + 1, hk, _, _ => by omega
  | k + 1, x + 1, hk, hl, h24 => by
    obtain ⟨h1, h2⟩ := h.hit (x + 1) _ (by omega) (getD_some hl)
    have hlt := h.less (by omega) hl
    have ih := pick_len h k (x + 1 - 2 ^ (bs.getD (x + 1) (0, 0)).2) (by omega) (by omega) (by omega)
    rw [pick_succ (by omega), List.length_append, List.length_map, bits_ones (and24 h24), h2, ← ih]
    omega
theorem pick_small (st : Nat → Nat) (bs : List (Int × Nat)) : ∀ k x, (pick st bs k x).length ≤ 24 * k
  | 0, _ => Nat.le_refl _
  | k + 1, x => by
    by_cases hx : x = 0
    · rw [hx, pick_zero]; exact Nat.zero_le _
    · have ih := pick_small st bs k (x - 2 ^ (bs.getD x (0, 0)).2)
      have h2 : (bitsL (st (bs.getD x (0, 0)).2 &&& x)).length ≤ 24 := by
        unfold bitsL
        exact Nat.le_trans (List.length_filter_le _ _) (by rw [List.length_range]; exact Nat.le_refl _)
      rw [pick_succ hx, List.length_append, List.length_map]
      omega
theorem pick_mem {st : Nat → Nat} {bs : List (Int × Nat)} (h : OptL st bs) : ∀ k x, x < bs.length → x < 2 ^ 24 → ∀ p ∈ pick st bs k x, x.testBit p.1 = true ∧ x.testBit p.2 = true ∧ (st p.1).testBit p.2 = true
  | 0, _, _, _, p, hp => by simp [pick] at hp
  | k + 1, x, hl, h24, p, hp => by
    by_cases hx : x = 0
    · rw [hx, pick_zero] at hp; simp at hp
    rw [pick_succ hx] at hp
    have hb := h.bit hx hl
    have hlt := h.less hx hl
    rcases List.mem_append.mp hp with z | z
    · obtain ⟨m, hm, e⟩ := List.mem_map.mp z
      have hm' := (bitsL_mem (and24 h24)).mp hm
      rw [Nat.testBit_and] at hm'
      have h3 := Bool.and_eq_true_iff.mp hm'
      rw [← e]
      exact ⟨hb, h3.2, h3.1⟩
    · obtain ⟨a1, a2, a3⟩ := pick_mem h k _ (by omega) (by omega) p z
      rw [sub_bit _ _ _ hb] at a1 a2
      exact ⟨(Bool.and_eq_true_iff.mp a1).1, (Bool.and_eq_true_iff.mp a2).1, a3⟩
theorem pick_nodup {st : Nat → Nat} {bs : List (Int × Nat)} (h : OptL st bs) : ∀ k x, x < bs.length → x < 2 ^ 24 → (pick st bs k x).Nodup
  | 0, _, _, _ => List.nodup_nil
  | k + 1, x, hl, h24 => by
    by_cases hx : x = 0
    · rw [hx, pick_zero]; exact List.nodup_nil
    have hb := h.bit hx hl
    have hlt := h.less hx hl
    rw [pick_succ hx]
    refine List.nodup_append.mpr ⟨?_, pick_nodup h k _ (by omega) (by omega), fun a ha b hb' e => ?_⟩
    · unfold List.Nodup
      rw [List.pairwise_map]
      refine List.Pairwise.imp (fun hne z => hne (Prod.mk.inj z).2) (show (bitsL _).Nodup from ?_)
      unfold bitsL
      exact List.nodup_range.filter _
    · obtain ⟨m, hm, e1⟩ := List.mem_map.mp ha
      obtain ⟨a1, _, _⟩ := pick_mem h k _ (by omega) (by omega) b hb'
      rw [sub_bit _ _ _ hb, ← e, ← e1] at a1
      simp at a1
theorem pick_rank {st : Nat → Nat} {bs : List (Int × Nat)} (h : OptL st bs) : ∀ k x, x ≤ k → x < bs.length → x < 2 ^ 24 → ∃ ρ : Nat → Nat, (∀ a, ρ a ≤ k) ∧ ∀ a b, x.testBit a = true → x.testBit b = true → (st a).testBit b = true → (a, b) ∉ pick st bs k x → ρ b < ρ a
  | 0, x, hk, _, _ => ⟨fun _ => 0, fun _ => Nat.le_refl _, fun a b ha => by rw [Nat.le_zero.mp hk] at ha; simp at ha⟩
  | k + 1, x, hk, hl, h24 => by
    by_cases hx : x = 0
    · exact ⟨fun _ => 0, fun _ => Nat.zero_le _, fun a b ha => by rw [hx] at ha; simp at ha⟩
    have hb := h.bit hx hl
    have hlt := h.less hx hl
    obtain ⟨ρ, h1, h2⟩ := pick_rank h k (x - 2 ^ (bs.getD x (0, 0)).2) (by omega) (by omega) (by omega)
    rw [pick_succ hx]
    generalize (bs.getD x (0, 0)).2 = l at hb hlt h2 ⊢
    refine ⟨fun a => if a = l then 0 else ρ a + 1, fun a => ?_, fun a b ha hb' hs hn => ?_⟩
    · show (if a = l then 0 else ρ a + 1) ≤ k + 1
      have := h1 a
      split <;> omega
    · show (if b = l then 0 else ρ b + 1) < (if a = l then 0 else ρ a + 1)
      have hn1 : ∀ p ∈ (bitsL (st l &&& x)).map (fun m => (l, m)), p ≠ (a, b) := fun p hp z => hn (z ▸ List.mem_append_left _ hp)
      have hn2 : (a, b) ∉ pick st bs k (x - 2 ^ l) := fun z => hn (List.mem_append_right _ z)
      by_cases e : a = l
      · exfalso
        refine hn1 (l, b) (List.mem_map.mpr ⟨b, (bitsL_mem (and24 h24)).mpr ?_, rfl⟩) (by rw [e])
        rw [Nat.testBit_and, hb', ← e, hs]
        rfl
      · rw [if_neg e]
        by_cases e2 : b = l
        · rw [if_pos e2]; omega
        · rw [if_neg e2]
          have := h2 a b (by rw [sub_bit _ _ _ hb, ha]; simp [e]) (by rw [sub_bit _ _ _ hb, hb']; simp [e2]) hs hn2
          omega
theorem opt_uniq {st : Nat → Nat} {bs bs' : List (Int × Nat)} (h : OptL st bs) (h' : OptL st bs') (hl : bs.length = bs'.length) : ∀ n x, x ≤ n → x < bs.length → (bs.getD x (0, 0)).1 = (bs'.getD x (0, 0)).1
  | n, 0, _, hx => by rw [h.zero _ (getD_some hx), h'.zero _ (getD_some (by omega))]
  | 0, x + 1, hn, _ => by omega
  | n + 1, x + 1, hn, hx => by
    have hx' : x + 1 < bs'.length := by omega
    have a := h.hit (x + 1) _ (by omega) (getD_some hx)
    have b := h'.hit (x + 1) _ (by omega) (getD_some hx')
    have c := h.low (x + 1) _ (by omega) (getD_some hx) _ b.1
    have d := h'.low (x + 1) _ (by omega) (getD_some hx') _ a.1
    have l1 := h.less (x := x + 1) (by omega) hx
    have l2 := h'.less (x := x + 1) (by omega) hx'
    have e1 := opt_uniq h h' hl n (x + 1 - 2 ^ (bs.getD (x + 1) (0, 0)).2) (by omega) (by omega)
    have e2 := opt_uniq h h' hl n (x + 1 - 2 ^ (bs'.getD (x + 1) (0, 0)).2) (by omega) (by omega)
    omega
structure CutOk (g : Str → List Str) (tg : List Str) (cs : List (Str × Str)) : Prop where
  mem : ∀ c ∈ cs, c.1 ∈ tg ∧ c.2 ∈ tg ∧ c.2 ∈ g c.1
  nd : cs.Nodup
  rank : ∃ ρ : Str → Nat, (∀ a, ρ a ≤ 256) ∧ ∀ a ∈ tg, ∀ b ∈ tg, b ∈ g a → (a, b) ∉ cs → ρ b < ρ a
noncomputable def cutN (tg : List Str) (ps : List (Nat × Nat)) : List (Str × Str) := ps.map fun p => (tg.getD p.1 "", tg.getD p.2 "")
theorem steps_bit {ps : List Pt} {tg : List Str} {a b : Nat} (ha : a < tg.length) (hb : b < tg.length) : ((stepsOf ps tg).getD a 0).testBit b = decide (tg.getD b "" ∈ k1 ps (tg.getD a "")) := by
  have e1 : (stepsOf ps tg).getD a 0 = mskOf tg (k1 ps (tg.getD a "")) := by
    unfold stepsOf
    rw [List.getD_eq_getElem?_getD, List.getElem?_map, List.getElem?_eq_getElem ha, List.getD_eq_getElem?_getD, List.getElem?_eq_getElem ha]
    rfl
  rw [e1]
  unfold mskOf
  have e2 : tg.getD b "" = tg[b] := by rw [List.getD_eq_getElem?_getD, List.getElem?_eq_getElem hb]; rfl
  rw [maskN_bit, List.getD_eq_getElem?_getD, List.getElem?_map, List.getElem?_eq_getElem hb, e2]
  rfl
theorem getD_in {tg : List Str} {i : Nat} (h : i < tg.length) : tg.getD i "" ∈ tg := by
  rw [List.getD_eq_getElem?_getD, List.getElem?_eq_getElem h]
  exact List.getElem_mem h
theorem getD_inj {tg : List Str} (hn : tg.Nodup) {i j : Nat} (hi : i < tg.length) (hj : j < tg.length) (e : tg.getD i "" = tg.getD j "") : i = j := by
  rw [List.getD_eq_getElem?_getD, List.getElem?_eq_getElem hi, List.getD_eq_getElem?_getD, List.getElem?_eq_getElem hj] at e
  exact nd_inj hn hi hj e
theorem cut_ok {ps : List Pt} {tg : List Str} {bs : List (Int × Nat)} (h : OptL (fun k => (stepsOf ps tg).getD k 0) bs) (hl : bs.length = 2 ^ tg.length) (hn : tg.Nodup) (h8 : tg.length ≤ 8) : CutOk (k1 ps) tg (cutN tg (pick (fun k => (stepsOf ps tg).getD k 0) bs 256 (2 ^ tg.length - 1))) := by
  have h256 : 2 ^ tg.length ≤ 256 := two_le h8
  have hpos := Nat.two_pow_pos tg.length
  have hbit : ∀ i, (2 ^ tg.length - 1).testBit i = decide (i < tg.length) := fun i => Nat.testBit_two_pow_sub_one _ _
  have hm := pick_mem h 256 (2 ^ tg.length - 1) (by omega) (by omega)
  have hm' : ∀ p ∈ pick (fun k => (stepsOf ps tg).getD k 0) bs 256 (2 ^ tg.length - 1), p.1 < tg.length ∧ p.2 < tg.length ∧ tg.getD p.2 "" ∈ k1 ps (tg.getD p.1 "") := fun p hp => by
    obtain ⟨a1, a2, a3⟩ := hm p hp
    rw [hbit] at a1 a2
    have l1 := of_decide_eq_true a1
    have l2 := of_decide_eq_true a2
    refine ⟨l1, l2, ?_⟩
    have := steps_bit (ps := ps) l1 l2
    rw [a3] at this
    exact of_decide_eq_true this.symm
  refine ⟨fun c hc => ?_, ?_, ?_⟩
  · obtain ⟨p, hp, e⟩ := List.mem_map.mp hc
    obtain ⟨l1, l2, l3⟩ := hm' p hp
    rw [← e]
    exact ⟨getD_in l1, getD_in l2, l3⟩
  · unfold cutN List.Nodup
    rw [List.pairwise_map]
    refine List.Pairwise.imp_of_mem (fun {a b} ha hb hne z => hne ?_) (pick_nodup h 256 (2 ^ tg.length - 1) (by omega) (by omega))
    obtain ⟨z1, z2⟩ := Prod.mk.inj z
    exact Prod.ext (getD_inj hn (hm' a ha).1 (hm' b hb).1 z1) (getD_inj hn (hm' a ha).2.1 (hm' b hb).2.1 z2)
  · obtain ⟨ρ, h1, h2⟩ := pick_rank h 256 (2 ^ tg.length - 1) (by omega) (by omega) (by omega)
    refine ⟨fun a => ρ (tg.idxOf a), fun a => h1 _, fun a ha b hb hg hc => ?_⟩
    have ia := List.idxOf_lt_length_iff.mpr ha
    have ib := List.idxOf_lt_length_iff.mpr hb
    have ea : tg.getD (tg.idxOf a) "" = a := by rw [List.getD_eq_getElem?_getD, idx_at ha]; rfl
    have eb : tg.getD (tg.idxOf b) "" = b := by rw [List.getD_eq_getElem?_getD, idx_at hb]; rfl
    refine h2 _ _ (by rw [hbit]; exact decide_eq_true ia) (by rw [hbit]; exact decide_eq_true ib) ?_ fun z => hc (List.mem_map.mpr ⟨_, z, by rw [ea, eb]⟩)
    show ((stepsOf ps tg).getD _ 0).testBit _ = true
    rw [steps_bit ia ib, ea, eb]
    exact decide_eq_true hg
noncomputable def pairsOf (N : List Str) (p : Str → Str → Bool) : List (Str × Str) := N.flatMap fun a => (N.filter (p a)).map fun b => (a, b)
theorem pairsOf_len {N : List Str} {p : Str → Str → Bool} (M : List Str) : (M.flatMap fun a => (N.filter (p a)).map fun b => (a, b)).length ≤ M.length * N.length := by
  induction M with
  | nil => simp
  | cons a r ih =>
    rw [List.flatMap_cons, List.length_append, List.length_map, List.length_cons, Nat.succ_mul]
    have := List.length_filter_le (p a) N
    omega
theorem knot_sub {g : Str → List Str} {N tg : List Str} (h : tg ∈ knotsOf g N N) : ∀ a ∈ tg, a ∈ N := fun a ha => by
  unfold knotsOf at h
  obtain ⟨n, _, e⟩ := List.mem_map.mp h
  rw [← e] at ha
  exact (mem_knot.mp ha).1
theorem knot_nd {g : Str → List Str} {N tg : List Str} (hn : N.Nodup) (h : tg ∈ knotsOf g N N) : tg.Nodup := by
  unfold knotsOf at h
  obtain ⟨n, _, e⟩ := List.mem_map.mp h
  rw [← e, knotOf_eq]
  exact hn.filter _
theorem paired_app {α β : Type} {F : α → β → Prop} : ∀ {l₁ : List α} {l₂ : List β} {m₁ : List α} {m₂ : List β}, Paired F l₁ l₂ → Paired F m₁ m₂ → Paired F (l₁ ++ m₁) (l₂ ++ m₂)
  | _, _, _, _, .nil, h => h
  | _, _, _, _, .cons a t, h => .cons a (paired_app t h)
theorem ts2_tups {H H' : Hp} (s : Tups H H') {v : V} {d : Str × Str} (h : TS2 H v d) : TS2 H' v d := TS2.mono s h
theorem at_name {tg : List Str} {i : Nat} (h : i < tg.length) : atI (tg.map V.str) (i : Int) = some (.str (tg.getD i "")) := by
  refine atI_nat ?_
  rw [List.getElem?_map, List.getElem?_eq_getElem h, List.getD_eq_getElem?_getD, List.getElem?_eq_getElem h]
  rfl
noncomputable def spFW : Sp := fun vs H Q _ => ∃ (a b : Addr) (ps : List Pt) (tg : List Str), vs = [.ref a, .ref b] ∧ PartsF H a ps ∧ PsFit ps ∧ H b = some (.tup (tg.map V.str)) ∧ (∀ n ∈ tg, n ∈ ps.map (·.1)) ∧ tg.Nodup ∧ tg.length ≤ 8 ∧
  ∀ (l : Addr) (us : List V) (cs : List (Str × Str)) (H' : Hp), Same H H' → H' l = some (.lst us) → Paired (TS2 H') us cs → CutOk (k1 ps) tg cs → cs.length ≤ 6144 → (∀ bs, OptL (fun k => (stepsOf ps tg).getD k 0) bs → bs.length = 2 ^ tg.length → (cs.length : Int) = (bs.getD (2 ^ tg.length - 1) (0, 0)).1) → Q (.ref l) H'
theorem ok_fwithin (T : Txt K mg) : L2.Cl P w K mg base 5 "fewest_within" ["parts", "tangle"] spFW := by
  have C_best_lasts := ok_lasts (P := P) (w := w) (base := base) T
  have C_steps_within := ok_within (P := P) (w := w) (base := base) T
  have C_numbers_in := ok_in2 (P := P) (w := w) (base := base) T
  refine Cl.of T.d_fewest_within sc_fewest_within (fun vs H Q E h => ?_) (fun _ _ _ _ _ _ us hl => by obtain ⟨a, b, rfl⟩ := len2 hl; rfl) (fun f cdv A outer s H vs Q E hr h => ?_)
  · obtain ⟨a, b, ps, tg, rfl, _⟩ := h
    rfl
  · obtain ⟨a, b, ps, tg, rfl, hpf, hfit, hb, htin, htn, ht8, q⟩ := h
    have hsl : (stepsOf ps tg).length = tg.length := by unfold stepsOf; rw [List.length_map]
    have h256 : 2 ^ tg.length ≤ 256 := two_le ht8
    have hpos := Nat.two_pow_pos tg.length
    refine ⟨_, (pss_cons (ps_set (i := 2) sc_fewest_within.nd rfl (Or.inl rfl) (pe_fn C_steps_within hr (by rfl) (pa_cons (pv 0) (pa_cons (pv 1) pa_nil))))
      (pss_cons (ps_set (i := 3) sc_fewest_within.nd rfl (Or.inl rfl) (pe_fn C_best_lasts hr (by rfl) (pa_cons (pv 2) pa_nil)))
      (pss_cons (ps_set (i := 4) sc_fewest_within.nd rfl (Or.inl rfl) (pe_op op_sub (pe_callB call_len_seq (by rfl) T.n_len PySem.boot_len (pa_cons (pv 3) pa_nil)) pe_int))
      (pss_cons (ps_set (i := 5) sc_fewest_within.nd rfl (Or.inl rfl) (pe_lst pa_nil))
      (pss_cons (ps_while PassesOwn.never (pt_cmpR op_gt (pv 4) pe_int (nomark _))
        (pss_cons (ps_set (i := 6) sc_fewest_within.nd rfl (Or.inr rfl) (pe_ix ix_tup (pe_ix ix_list (pv 3) (pv 4) (fun _ _ => rfl)) pe_int (fun _ _ => rfl)))
        (pss_cons (ps_expr (pe_bm PySem.F.plainAttrs_list PySem.F.slot_list_extend PySem.F.type_list_extend mt_extend (pv 5) (pa_cons (pe_comp (M := ["number", "tangle", "last"]) (ρ := [none, some 1, some 6]) (defScope s_fewest_within) ["parts", "tangle", "steps", "best", "left", "cut", "last"] ⟨rfl, by decide +kernel, by decide +kernel, by decide +kernel, rfl, by decide +kernel, by decide +kernel⟩ (pi_tup (pe_fn C_numbers_in hr (by rfl) (pa_cons (pe_op op_and (pe_ix ix_list (pv 2) (pv 6) (fun _ _ => rfl)) (pv 4)) pa_nil))) (fun _ _ _ _ _ _ => (pg_name (i := 0) (show (["number", "tangle", "last"] : List Str).Nodup by decide +kernel) rfl (Or.inl rfl))) (fun _ _ _ _ _ _ => pts_nil) (fun _ _ _ _ _ _ => (pe_tup (pa_cons (pe_ix (ix_tupK (K := K) rfl) (pv 1) (pv 2) (fun _ _ => rfl)) (pa_cons (pe_ix (ix_tupK (K := K) rfl) (pv 1) (pv 0) (fun _ _ => rfl)) pa_nil))))) pa_nil)))
        (pss_one (ps_aug (i := 4) sc_fewest_within.nd rfl (Or.inl rfl) (pe_op op_shl pe_int (pv 6)) ip_sub)))))
      (pss_one (ps_ret (pv 5)))))))), ?_⟩
    refine ⟨_, rfl, _, rfl, a, b, ps, tg, rfl, hpf, hfit, hb, htin, ht8, fun sl H1 s1 hl1 => ?_⟩
    refine ⟨_, rfl, sl, _, rfl, hl1, by omega, fun B us bs H2 s2 hB hus hopt hbl => ?_⟩
    have hul : us.length = bs.length := Paired.length hus
    rw [hsl] at hbl
    have s02 := s1.trans s2
    refine ⟨_, rfl, B, _, rfl, .inl (SqL.of hB), _, _, rfl, rfl, ?_⟩
    refine ⟨(by show 0 ≤ sizeLine; decide), fun C gC => ?_⟩
    have gCH : H C = none := s02.free gC
    have s3 : Same H2 (upd H2 C (.lst [])) := (Same.refl H2).new gC
    have hC3 : upd H2 C (.lst []) C = some (.lst []) := upd_same
    generalize upd H2 C (.lst []) = H3 at s3 hC3 ⊢
    refine to_g ?_
    refine ⟨fun m σ H4 => ∃ (cs : List (Nat × Nat)) (ws : List V) (k : Nat) (v6 : Option V), σ = [some (.ref a), some (.ref b), some (.ref sl), some (.ref B), some (.int (m : Int)), some (.ref C), v6] ∧ Same H2 H4 ∧ H4 C = some (.lst ws) ∧ Paired (TS2 H4) ws (cutN tg cs) ∧ m ≤ k ∧ m < bs.length ∧ cs ++ pick (fun k => (stepsOf ps tg).getD k 0) bs k m = pick (fun k => (stepsOf ps tg).getD k 0) bs 256 (2 ^ tg.length - 1),
      ⟨2 ^ tg.length - 1, [], [], 256, none, ?_, s3, hC3, .nil, by omega, by omega, rfl⟩, ?_⟩
    · have e : (us.length : Int) - 1 = ((2 ^ tg.length - 1 : Nat) : Int) := by omega
      rw [← e]
      rfl
    rintro m σ H4 ⟨cs, ws, k, v6, rfl, s4, hC4, hws, hmk, hmb, hcs⟩
    have hwl : ws.length = cs.length := by rw [Paired.length hws]; unfold cutN; rw [List.length_map]
    have hsmall := pick_small (fun k => (stepsOf ps tg).getD k 0) bs 256 (2 ^ tg.length - 1)
    refine ⟨_, rfl, _, _, rfl, rfl, _, rfl, ?_⟩
    refine ite2 (fun hlt => ?_) (fun hlt => ?_)
    · have hm0 : m ≠ 0 := by have := of_decide_eq_true hlt; omega
      have hm24 : m < 2 ^ 24 := by omega
      have hbit := hopt.bit hm0 hmb
      have hless := hopt.less hm0 hmb
      obtain ⟨k, rfl⟩ : ∃ k', k = k' + 1 := ⟨k - 1, by omega⟩
      rw [pick_succ hm0] at hcs
      obtain ⟨u, hu', tb, eb, htb⟩ := Paired.get?' hus (getD_some hmb)
      subst eb
      generalize hlv : (bs.getD m (0, 0)).2 = l at hbit hless hcs htb
      have hl8 : l < tg.length := (Nat.pow_lt_pow_iff_right (a := 2) (by decide)).mp (Nat.lt_of_le_of_lt (bit_le hbit) (by omega))
      have s24 := s4
      have hB4 := s4 _ _ hB
      have htb4 := s4 _ _ htb
      have z1 : atI [V.int (bs.getD m (0, 0)).1, V.int (l : Int)] 1 = some (.int (l : Int)) := atI_nat (j := 1) rfl
      refine ⟨_, fun σ' H' h => h, ?_⟩
      refine ⟨_, rfl, _, rfl, B, _, _, _, rfl, rfl, SqL.of hB4, atI_nat hu', tb, _, _, _, rfl, rfl, SqT.of htb4, z1, ?_⟩
      have hlt : (stepsOf ps tg).getD l 0 &&& m < 2 ^ 24 := and24 hm24
      have ats : atI (natsV (stepsOf ps tg)) (l : Int) = some (.int (((stepsOf ps tg).getD l 0 : Nat) : Int)) := by
        refine atI_nat ?_
        unfold natsV
        rw [List.getElem?_map, List.getD_eq_getElem?_getD, List.getElem?_eq_getElem (by omega)]
        rfl
      refine ⟨_, rfl, .inl ⟨rfl, _, SqL.of hC4⟩, _, rfl, _, rfl, sl, _, _, _, rfl, rfl, SqL.of (s4 _ _ (s2 _ _ hl1)), ats, _, rfl, _, _, rfl, rfl, (stepsOf ps tg).getD l 0 &&& m, (by show [V.int (Builtin.bitAnd (((stepsOf ps tg).getD l 0 : Nat) : Int) (m : Int))] = _; rw [bitAnd_nat]), hlt, fun p H5 s5 hp => ?_⟩
      have hbm := fun j => bitsL_mem (x := (stepsOf ps tg).getD l 0 &&& m) (l := j) hlt
      have hbj : ∀ j ∈ bitsL ((stepsOf ps tg).getD l 0 &&& m), j < tg.length := fun j hj => by
        have h1 := (hbm j).mp hj
        rw [Nat.testBit_and] at h1
        exact (Nat.pow_lt_pow_iff_right (a := 2) (by decide)).mp (Nat.lt_of_le_of_lt (bit_le (Bool.and_eq_true_iff.mp h1).2) (by omega))
      have hb24 : (bitsL ((stepsOf ps tg).getD l 0 &&& m)).length ≤ 24 := by
        unfold bitsL
        exact Nat.le_trans (List.length_filter_le _ _) (by rw [List.length_range]; exact Nat.le_refl _)
      generalize bitsL ((stepsOf ps tg).getD l 0 &&& m) = js at hp hbj hb24 hcs
      have hb5 := s5 _ _ (s4 _ _ (s02 _ _ hb))
      refine ⟨p, rfl, ⟨_, SqT.of hp⟩, fun D gD => ?_⟩
      refine comp_by js.length (fun i σ H6 => ∃ (v0 : Option V) (xs : List V), σ = [v0, some (.ref b), some (.int (l : Int))] ∧ Same H5 H6 ∧ H6 D = some (.lst xs) ∧ Paired (TS2 H6) xs (cutN tg ((js.take i).map fun j => (l, j)))) ⟨_, [], rfl, (Same.refl H5).new gD, upd_same, by rw [List.take_zero]; exact .nil⟩ ?_ ?_
      · rintro i σ H6 hi ⟨v0, xs, rfl, s6, hD6, hxs⟩
        refine ⟨⟨_, .int (js[i] : Int), SqT.of (s6 _ _ hp), by unfold natsV; simp [hi]⟩, ?_⟩
        rintro y H7 ⟨rfl, hy⟩
        obtain ⟨j, hj, rfl⟩ := natsV_get (hy _ (SqT.of (s6 _ _ hp)))
        have hjl := hbj j (List.mem_of_getElem? hj)
        have hb6 := s6 _ _ hb5
        have hxl : xs.length ≤ 24 := by rw [Paired.length hxs]; unfold cutN; rw [List.length_map, List.length_map, List.length_take]; omega
        refine ntG ?_
        refine ⟨_, rfl, _, rfl, b, _, _, _, rfl, rfl, SqT.of hb6, at_name hl8, _, rfl, _, rfl, b, _, _, _, rfl, rfl, SqT.of hb6, at_name hjl, (by show 2 ≤ sizeLine; decide), fun r gr => ?_⟩
        have s7 : Same _ _ := (Same.refl H7).new (o := .tup [.str (tg.getD l ""), .str (tg.getD j "")]) gr
        have hD7 := s7 _ _ hD6
        have T8 := Tups.lst (ys := xs ++ [.ref r]) hD7
        refine ⟨xs, hD7, small1000 (by omega), _, xs ++ [.ref r], rfl, (s6.trans s7).put gD, upd_same, ?_⟩
        rw [take_succ_get hj, List.map_append]
        unfold cutN
        rw [List.map_append]
        exact Paired.snoc (Paired.mapP hxs fun _ _ z => ts2_tups (s7.tups.trans T8) z) ⟨r, rfl, T8 _ _ upd_same⟩
      rintro σ H6 ⟨v0, xs, rfl, s6, hD6, hxs⟩
      refine ⟨⟨_, SqT.of (s6 _ _ hp), by rw [natsV_len]; exact Nat.le_refl _⟩, ?_⟩
      rw [List.take_length] at hxs
      have hxl : xs.length ≤ 24 := by rw [Paired.length hxs]; unfold cutN; rw [List.length_map, List.length_map]; exact hb24
      have hC6 := s6 _ _ (s5 _ _ hC4)
      have hcl : cs.length ≤ 6144 := by
        have := congrArg List.length hcs
        rw [List.length_append] at this
        omega
      refine ⟨C, D, _, _, rfl, rfl, hC6, hD6, (by show ws.length + xs.length ≤ 2 ^ 24; omega), ?_⟩
      have T7 := Tups.lst (ys := ws ++ xs) hC6
      have ep : (1 : Int) * 2 ^ ((l : Int)).toNat = ((2 ^ l : Nat) : Int) := by rw [Int.one_mul, Int.toNat_natCast, Int.natCast_pow]; rfl
      refine ⟨_, rfl, _, rfl, _, _, rfl, rfl, ⟨by omega, by omega, by decide⟩, _, _, rfl, rfl, ?_⟩
      refine ⟨m - 2 ^ l, hless, cs ++ js.map (fun j => (l, j)), ws ++ xs, k, some (.int (l : Int)), ?_, ((s4.trans s5).trans s6).put gC, upd_same, ?_, by omega, by omega, ?_⟩
      · have e : (m : Int) - 1 * 2 ^ ((l : Int)).toNat = ((m - 2 ^ l : Nat) : Int) := by
          have := bit_le hbit
          rw [ep]
          omega
        rw [← e]
        rfl
      · unfold cutN
        rw [List.map_append]
        exact paired_app (Paired.mapP hws fun _ _ z => ts2_tups ((s5.trans s6).tups.trans T7) z) (Paired.mapP hxs fun _ _ z => ts2_tups T7 z)
      · rw [List.append_assoc]
        exact hcs
    · have hm0 : m = 0 := by
        have h0 : ¬ (0 : Int) < (m : Int) := fun z => hlt (decide_eq_true z)
        omega
      subst hm0
      rw [pick_zero, List.append_nil] at hcs
      subst hcs
      refine ⟨_, rfl, q C ws _ H4 (s02.trans s4) hC4 hws (cut_ok hopt hbl htn ht8) (by unfold cutN; rw [List.length_map]; exact hsmall) fun bs' ho' hl' => ?_⟩
      have h1 := pick_len hopt 256 (2 ^ tg.length - 1) (by omega) (by omega) (by omega)
      unfold cutN
      rw [List.length_map, h1]
      exact opt_uniq hopt ho' (by omega) _ _ (Nat.le_refl _) (by omega)
noncomputable def key2 (k : Str × Str) : List Key := [Sum.inr k.1, Sum.inr k.2]
theorem key2_inj {a b : Str × Str} (h : key2 a = key2 b) : a = b := by
  unfold key2 at h
  simp only [List.cons.injEq, Sum.inr.injEq, and_true] at h
  exact Prod.ext h.1 h.2
noncomputable def CutL (ps : List Pt) (cs : List (Str × Str)) (tg : List Str) : Prop := CutOk (k1 ps) tg cs ∧ ∀ bs, OptL (fun k => (stepsOf ps tg).getD k 0) bs → bs.length = 2 ^ tg.length → (cs.length : Int) = (bs.getD (2 ^ tg.length - 1) (0, 0)).1
noncomputable def spFewest : Sp := fun vs H Q _ => ∃ (a : Addr) (ps : List Pt), vs = [.ref a] ∧ PartsF H a ps ∧ PsFit ps ∧ ClosedB ps ∧ (∀ tg ∈ knotsOf (k1 ps) (ps.map (·.1)) (ps.map (·.1)), tg.length ≤ 8) ∧
  ∀ (p : Addr) (us : List V) (css : List (List (Str × Str))) (H' : Hp), Same H H' → H' p = some (.tup us) → Paired (TS2 H') us (pairsOf (ps.map (·.1)) fun a b => decide ((a, b) ∈ css.flatten)) → Paired (CutL ps) css (knotsOf (k1 ps) (ps.map (·.1)) (ps.map (·.1))) → Q (.ref p) H'
theorem some_put {kvs : List (List Key × V)} {C : List (Str × Str)} {c0 : Str × Str} {v : V} (h : ∀ c, (valV kvs (key2 c)).isSome = decide (c ∈ C)) : ∀ c, (valV (putK kvs (key2 c0) v) (key2 c)).isSome = decide (c ∈ C ++ [c0]) := fun c => by
  rw [valV_put]
  by_cases e : c = c0
  · subst e
    rw [if_pos rfl]
    simp
  · rw [if_neg fun z => e (key2_inj z), h c]
    simp [e]
theorem ok_fewest (T : Txt K mg) : L2.Cl P w K mg base 6 "fewest" ["parts"] spFewest := by
  have C_tangles := ok_tangles (P := P) (w := w) (base := base) T
  have C_fewest_within := ok_fwithin (P := P) (w := w) (base := base) T
  refine Cl.of T.d_fewest sc_fewest (fun vs H Q E h => ?_) (fun _ _ _ _ _ _ us hl => by obtain ⟨a, rfl⟩ := len1 hl; rfl) (fun f cdv A outer s H vs Q E hr h => ?_)
  · obtain ⟨a, ps, rfl, _⟩ := h
    rfl
  · obtain ⟨a, ps, rfl, hpf, hfit, hcl, h8, q⟩ := h
    have hu := hu_of hr
    have hpl := hfit.hi
    obtain ⟨o, vs, ha, ho, hps⟩ := id hpf
    have hvl : vs.length = ps.length := Paired.length hps
    have hks24 : (knotsOf (k1 ps) (ps.map (·.1)) (ps.map (·.1))).length ≤ 24 := by
      have := knots_len (k1 ps) (ps.map (·.1)) (ps.map (·.1))
      rw [List.length_map] at this
      omega
    have hsub := fun tg (h : tg ∈ knotsOf (k1 ps) (ps.map (·.1)) (ps.map (·.1))) => knot_sub h
    have hknd := fun tg (h : tg ∈ knotsOf (k1 ps) (ps.map (·.1)) (ps.map (·.1))) => knot_nd hfit.nd h
    refine ⟨_, (pss_cons (ps_set (i := 1) sc_fewest.nd rfl (Or.inr rfl) pe_dnewT)
      (pss_cons (ps_for PassesOwn.never rfl (pi_tup (pe_fn C_tangles hr (by rfl) (pa_cons (pv 0) pa_nil))) (pg_name (i := 2) sc_fewest.nd rfl (Or.inl rfl))
        (pss_one (ps_for PassesOwn.never rfl (pi_list (pe_fn C_fewest_within hr (by rfl) (pa_cons (pv 0) (pa_cons (pv 2) pa_nil)))) (pg_name (i := 3) sc_fewest.nd rfl (Or.inl rfl))
          (pss_one (ps_dput hu (pv 1) (pv 3) pe_bl rfl)))))
      (pss_cons (ps_set (i := 4) sc_fewest.nd rfl (Or.inl rfl) (pe_lst pa_nil))
      (pss_cons (ps_for PassesOwn.never rfl (pi_tup (pv 0)) (pg_tup rfl (pgs_cons (pg_name (i := 5) sc_fewest.nd rfl (Or.inr rfl)) (pgs_cons (pg_name (i := 6) sc_fewest.nd rfl (Or.inl rfl)) pgs_nil)))
        (pss_one (ps_expr (pe_bm PySem.F.plainAttrs_list PySem.F.slot_list_extend PySem.F.type_list_extend mt_extend (pv 4) (pa_cons (pe_comp (M := ["other", "inner", "part", "cut"]) (ρ := [none, none, some 5, some 1]) (defScope s_fewest) ["parts", "cut", "tangle", "pair", "found", "part", "rows"] ⟨rfl, by decide +kernel, by decide +kernel, by decide +kernel, rfl, by decide +kernel, by decide +kernel⟩ (pi_tup (pv 0)) (fun _ _ _ _ _ _ => (pg_tupK (K := K) (n := 2) rfl rfl (pgs_cons (pg_name (i := 0) (show (["other", "inner", "part", "cut"] : List Str).Nodup by decide +kernel) rfl (Or.inl rfl)) (pgs_cons (pg_name (i := 1) (show (["other", "inner", "part", "cut"] : List Str).Nodup by decide +kernel) rfl (Or.inl rfl)) pgs_nil)))) (fun _ _ _ _ _ _ => (pts_one (pt_cmp (pc_din hu (pe_tup (pa_cons (pv 2) (pa_cons (pv 0) pa_nil))) (pv 3))))) (fun _ _ _ _ _ _ => (pe_tup (pa_cons (pv 2) (pa_cons (pv 0) pa_nil))))) pa_nil)))))
      (pss_one (ps_ret (pe_callTy call_tuple_of (by rfl) T.n_tuple boot_tuple (pa_cons (pv 4) pa_nil)))))))), ?_⟩
    intro d gd
    have s1 : Same H (upd H d (.dT [])) := (Same.refl H).new gd
    have hd1 : upd H d (.dT []) d = some (.dT []) := upd_same
    generalize upd H d (.dT []) = H1 at s1 hd1 ⊢
    refine ⟨_, rfl, a, ps, rfl, s1.partsF hpf, hfit, hcl, fun p us H2 s2 hp hus => ?_⟩
    generalize knotsOf (k1 ps) (ps.map (·.1)) (ps.map (·.1)) = ks at h8 q hks24 hsub hknd hus
    have hul : us.length = ks.length := Paired.length hus
    have hpd : p ≠ d := fun z => by rw [z, s2 _ _ hd1] at hp; cases hp
    have same2 : ∀ {H3 : Hp}, (∀ c o, c ≠ d → H2 c = some o → H3 c = some o) → Same H H3 := fun h c o e => h c o (fun z => by rw [z, gd] at e; cases e) (s2 _ _ (s1 _ _ e))
    refine ⟨p, rfl, ⟨_, SqT.of hp⟩, for_tup (K := K) (a := p) (xs := us) (fun i σ H3 => ∃ (kvs : List (List Key × V)) (css : List (List (Str × Str))) (v2 v3 : Option V), σ = [some (.ref a), some (.ref d), v2, v3, none, none, none] ∧ (∀ c o, c ≠ d → H2 c = some o → H3 c = some o) ∧ H3 d = some (.dT kvs) ∧ kvs.length ≤ 6144 * i ∧ Paired (CutL ps) css (ks.take i) ∧ ∀ c, (valV kvs (key2 c)).isSome = decide (c ∈ css.flatten))
      ⟨[], [], none, none, rfl, fun _ _ _ h => h, s2 _ _ hd1, Nat.zero_le _, by rw [List.take_zero]; exact .nil, fun c => by simp [valV]⟩ (fun i σ H3 _ ⟨_, _, _, _, _, hk3, _⟩ => SqT.of (hk3 _ _ hpd hp)) ?_ ?_⟩
    · rintro i y σ H3 hy ⟨kvs, css, v2, v3, rfl, hk3, hd3, hkl, hcss, hval⟩
      obtain ⟨tg, htg, t, et, ht⟩ := Paired.get? hus hy
      subst et
      have htm := List.mem_of_getElem? htg
      have hi24 : i < 24 := by have := (List.getElem?_eq_some_iff.mp htg).1; omega
      have ht3 := hk3 _ _ (fun z => by rw [z, s2 _ _ hd1] at ht; cases ht) ht
      refine ⟨_, rfl, _, rfl, a, t, ps, tg, rfl, (same2 hk3).partsF hpf, hfit, ht3, hsub tg htm, hknd tg htm, h8 tg htm, fun l ws cs H4 s4 hl hws hok hc6 hlen => ?_⟩
      have hd4 := s4 _ _ hd3
      have hld : l ≠ d := fun z => by rw [z, hd4] at hl; cases hl
      have hwl : ws.length = cs.length := Paired.length hws
      refine ⟨l, rfl, ⟨_, SqL.of hl⟩, for_list (K := K) (a := l) (xs := ws) (fun j σ H5 => ∃ (kvs' : List (List Key × V)) (v3 : Option V), σ = [some (.ref a), some (.ref d), some (.ref t), v3, none, none, none] ∧ (∀ c o, c ≠ d → H4 c = some o → H5 c = some o) ∧ H5 d = some (.dT kvs') ∧ kvs'.length ≤ kvs.length + j ∧ ∀ c, (valV kvs' (key2 c)).isSome = decide (c ∈ css.flatten ++ cs.take j))
        ⟨kvs, _, rfl, fun _ _ _ h => h, hd4, Nat.le_refl _, fun c => by rw [List.take_zero, List.append_nil]; exact hval c⟩ (fun j σ H5 _ ⟨_, _, _, hk5, _⟩ => SqL.of (hk5 _ _ hld hl)) ?_ ?_⟩
      · rintro j y σ H5 hy5 ⟨kvs', v3', rfl, hk5, hd5, hkl5, hval5⟩
        obtain ⟨c0, hc0, r, er, hr0⟩ := Paired.get? hws hy5
        subst er
        have hj : j < ws.length := (List.getElem?_eq_some_iff.mp hy5).1
        have hr5 := hk5 _ _ (fun z => by rw [z, hd4] at hr0; cases hr0) hr0
        refine ⟨_, rfl, _, rfl, d, _, rfl, DPut.t (k := key2 c0) hd5 hr5 (by show kvs'.length < 2 ^ 24; omega), ?_⟩
        refine ⟨_, _, rfl, fun c o hc h => by rw [upd_ne hc]; exact hk5 c o hc h, upd_same, ?_, ?_⟩
        · have := length_putK kvs' (key2 c0) (.bl true)
          omega
        · rw [take_succ_get hc0, ← List.append_assoc]
          exact some_put hval5
      · rintro σ H5 ⟨kvs', v3', rfl, hk5, hd5, hkl5, hval5⟩
        refine ⟨kvs', css ++ [cs], _, _, rfl, fun c o hc h => hk5 c o hc (s4 _ _ (hk3 c o hc h)), hd5, by omega, ?_, fun c => ?_⟩
        · rw [take_succ_get htg]
          exact Paired.snoc hcss ⟨hok, hlen⟩
        · rw [hval5 c, hwl, List.take_length, List.flatten_append]
          simp
    · rintro σ H3 ⟨kvs, css, v2, v3, rfl, hk3, hd3, hkl, hcss, hval⟩
      rw [hul, List.take_length] at hcss
      have s03 := same2 hk3
      refine ⟨(by show 0 ≤ sizeLine; decide), fun F gF => ?_⟩
      have gFH : H F = none := s03.free gF
      have s4 : Same H3 (upd H3 F (.lst [])) := (Same.refl H3).new gF
      have hF4 : upd H3 F (.lst []) F = some (.lst []) := upd_same
      generalize upd H3 F (.lst []) = H4 at s4 hF4 ⊢
      have sqa : ∀ {H5 : Hp}, Same H3 H5 → SqT K H5 a vs := fun s5 => .inl (.inr ⟨o, s5 _ _ (s03 _ _ ha)⟩)
      have hNl : (ps.map (·.1)).length ≤ 24 := by rw [List.length_map]; exact hpl
      refine ⟨_, rfl, a, rfl, ⟨_, sqa s4⟩, for_tup (K := K) (a := a) (xs := vs) (fun i σ H5 => ∃ (ws : List V) (v2 v3 v5 v6 : Option V), σ = [some (.ref a), some (.ref d), v2, v3, some (.ref F), v5, v6] ∧ Same H3 H5 ∧ H5 F = some (.lst ws) ∧ Paired (TS2 H5) ws (((ps.take i).map (·.1)).flatMap fun x => ((ps.map (·.1)).filter fun z => decide ((x, z) ∈ css.flatten)).map fun z => (x, z)))
        ⟨[], v2, v3, none, none, rfl, s4, hF4, by rw [List.take_zero]; exact .nil⟩ (fun i σ H5 _ ⟨_, _, _, _, _, _, s5, _⟩ => sqa s5) ?_ ?_⟩
      · rintro i y σ H5 hy ⟨ws, v2', v3', v5, v6, rfl, s5, hF5, hws⟩
        obtain ⟨pt, hpt, t, u, rs, ey, ht, hu', hrs⟩ := Paired.get? hps hy
        subst ey
        obtain ⟨n, rws⟩ := pt
        have s05 := s03.trans s5
        have hi24 : i < 24 := by have := (List.getElem?_eq_some_iff.mp hpt).1; omega
        refine ⟨t, _, rfl, SqT.of (s05 _ _ ht), rfl, _, _, rfl, _, _, rfl, rfl, ?_⟩
        refine ⟨_, rfl, .inl ⟨rfl, _, SqL.of hF5⟩, _, rfl, a, rfl, ⟨_, sqa s5⟩, fun D gD => ?_⟩
        refine comp_by vs.length (fun j σ H6 => ∃ (v0 v1 : Option V) (xs : List V), σ = [v0, v1, some (.str n), some (.ref d)] ∧ Same H5 H6 ∧ H6 D = some (.lst xs) ∧ Paired (TS2 H6) xs ((((ps.take j).map (·.1)).filter fun z => decide ((n, z) ∈ css.flatten)).map fun z => (n, z))) ⟨_, _, [], rfl, (Same.refl H5).new gD, upd_same, by rw [List.take_zero]; exact .nil⟩ ?_ ?_
        · rintro j σ H6 hj ⟨v0, v1, xs, rfl, s6, hD6, hxs⟩
          have s36 := s5.trans s6
          refine ⟨⟨vs, vs[j], sqa s36, by simp⟩, ?_⟩
          rintro y H7 ⟨rfl, hy7⟩
          obtain ⟨pt2, hpt2, t2, u2, rs2, ey, ht2, hu2, _⟩ := Paired.get? hps (hy7 _ (sqa s36))
          subst ey
          obtain ⟨m, rws2⟩ := pt2
          have hxl : xs.length ≤ 24 := by
            rw [Paired.length hxs, List.length_map]
            refine Nat.le_trans (List.length_filter_le _ _) ?_
            rw [List.length_map, List.length_take]
            omega
          refine ⟨t2, _, rfl, SqT.of (s36 _ _ (s03 _ _ ht2)), rfl, _, _, rfl, _, _, rfl, rfl, ?_⟩
          refine ⟨_, rfl, _, rfl, (by show 2 ≤ sizeLine; decide), fun r gr => ?_⟩
          have s7 : Same H7 (upd H7 r (.tup [.str n, .str m])) := (Same.refl H7).new gr
          have hr7 : upd H7 r (.tup [.str n, .str m]) r = some (.tup [.str n, .str m]) := upd_same
          generalize upd H7 r (.tup [.str n, .str m]) = H8 at s7 hr7 ⊢
          have s38 := s36.trans s7
          refine ⟨_, rfl, d, _, rfl, DGet.t (k := key2 (n, m)) (s38 _ _ hd3) hr7, _, rfl, ?_⟩
          rw [hval (n, m)]
          have hD8 := s7 _ _ hD6
          rw [take_succ_get hpt2, List.map_append, List.filter_append, List.map_append]
          by_cases hin : (n, m) ∈ css.flatten
          · rw [decide_eq_true hin]
            refine iteT ?_
            refine ⟨_, rfl, _, rfl, (by show 2 ≤ sizeLine; decide), fun r2 gr2 => ?_⟩
            have s9 := (Same.refl H8).new (o := .tup [.str n, .str m]) gr2
            have hD9 := s9 _ _ hD8
            have T9 := Tups.lst (ys := xs ++ [.ref r2]) hD9
            refine ⟨xs, hD9, small1000 (by omega), _, _, xs ++ [.ref r2], rfl, ((s6.trans s7).trans s9).put gD, upd_same, ?_⟩
            have e : [m].filter (fun z => decide ((n, z) ∈ css.flatten)) = [m] := by
              rw [List.filter_cons_of_pos (by exact decide_eq_true hin), List.filter_nil]
            show Paired _ _ (_ ++ ([m].filter fun z => decide ((n, z) ∈ css.flatten)).map _)
            rw [e]
            exact Paired.snoc (Paired.mapP hxs fun _ _ z => ts2_tups ((s7.trans s9).tups.trans T9) z) ⟨r2, rfl, T9 _ _ upd_same⟩
          · rw [decide_eq_false hin]
            refine iteF ?_
            refine ⟨_, _, xs, rfl, s6.trans s7, hD8, ?_⟩
            have e : [m].filter (fun z => decide ((n, z) ∈ css.flatten)) = [] := by
              rw [List.filter_cons_of_neg (by simpa using hin), List.filter_nil]
            show Paired _ _ (_ ++ ([m].filter fun z => decide ((n, z) ∈ css.flatten)).map _)
            rw [e, List.map_nil, List.append_nil]
            exact Paired.mapP hxs fun _ _ z => ts2_tups s7.tups z
        rintro σ H6 ⟨v0, v1, xs, rfl, s6, hD6, hxs⟩
        refine ⟨⟨vs, sqa (s5.trans s6), Nat.le_refl _⟩, ?_⟩
        rw [hvl, List.take_length] at hxs
        have hxl : xs.length ≤ 24 := by
          rw [Paired.length hxs, List.length_map]
          exact Nat.le_trans (List.length_filter_le _ _) hNl
        have hwl : ws.length ≤ 600 := by
          rw [Paired.length hws]
          refine Nat.le_trans (pairsOf_len _) ?_
          rw [List.length_map, List.length_take]
          have h1 : min i ps.length ≤ 24 := by omega
          exact Nat.le_trans (Nat.mul_le_mul h1 hNl) (by decide)
        have hF6 := s6 _ _ hF5
        refine ⟨F, D, _, _, rfl, rfl, hF6, hD6, (by show ws.length + xs.length ≤ 2 ^ 24; omega), ?_⟩
        have T7 := Tups.lst (ys := ws ++ xs) hF6
        refine ⟨ws ++ xs, _, _, _, _, rfl, (s5.trans s6).put gF, upd_same, ?_⟩
        rw [take_succ_get hpt, List.map_append, List.flatMap_append]
        refine paired_app (Paired.mapP hws fun _ _ z => ts2_tups (s6.tups.trans T7) z) ?_
        have e : ([(n, rws)].map (·.1)).flatMap (fun x => ((ps.map (·.1)).filter fun z => decide ((x, z) ∈ css.flatten)).map fun z => (x, z)) = ((ps.map (·.1)).filter fun z => decide ((n, z) ∈ css.flatten)).map fun z => (n, z) := by
          simp
        rw [e]
        exact Paired.mapP hxs fun _ _ z => ts2_tups T7 z
      · rintro σ H5 ⟨ws, v2', v3', v5, v6, rfl, s5, hF5, hws⟩
        rw [hvl, List.take_length] at hws
        refine ⟨_, rfl, F, _, rfl, .inl ⟨SqL.of hF5, fun p' gp => ?_⟩⟩
        have s6 : Same H5 (upd H5 p' (.tup ws)) := (Same.refl H5).new gp
        exact q p' ws css _ ((s03.trans s5).trans s6) upd_same (Paired.mapP hws fun _ _ z => ts2_tups s6.tups z) hcss
theorem ok_initT {A : Adr} (hX : XTxt K mg A) : XCl P w K mg base 1 A.TooMany "parts" ["self", "parts"] := by
  refine XCl.of hX.x_TooMany sc_TooMany___init__ rfl (fun _ _ _ _ _ _ us hl => by obtain ⟨a, b, rfl⟩ := len2 hl; rfl) (fun f' cdv A0 outer s H vs Q E xi hr h => ?_)
  obtain ⟨e, v, rfl, he, q⟩ := h
  refine ⟨_, (pss_cons (ps_initB (by rfl) hX.m_BundleError hX.b_BundleError (pa_cons (pv 0) (pa_cons (pv 1) pa_nil)))
      (pss_one (ps_fldX (pv 0) (pv 1) rfl))), ?_⟩
  exact ⟨_, rfl, _, rfl, e, A.TooMany, f', v, rfl, he, xi, _, rfl, _, rfl, e, A.TooMany, rfl, he, hX.k_TooMany, hX.f_TooMany, fun dx hdx => q dx hdx⟩
noncomputable def spWithinX (A : Adr) : Sp := fun vs H Q E => ∃ (a b : Addr) (ps : List Pt) (tg : List Str), vs = [.ref a, .ref b] ∧ PartsF H a ps ∧ PsFit ps ∧ H b = some (.tup (tg.map V.str)) ∧ (∀ n ∈ tg, n ∈ ps.map (·.1)) ∧ (tg.length ≤ 8 → ∀ (l : Addr) (H' : Hp), Same H H' → H' l = some (.lst (natsV (stepsOf ps tg))) → Q (.ref l) H') ∧ (8 < tg.length → ∀ (dx : Addr) (H' : Hp), Same H H' → H' dx = some (.xd [("parts", .ref b)]) → E (.ref A.TooMany) (some dx) H')
theorem ok_withinX (T : Txt K mg) {A : Adr} (hX : XTxt K mg A) : L2.ClE P w K mg base 4 "steps_within" ["parts", "tangle"] (spWithinX A) := by
  have X_TooMany := ok_initT (P := P) (w := w) (base := base) hX
  have C_bringings := ok_bringings (P := P) (w := w) (base := base) T
  have C_place_of := ok_place (P := P) (w := w) (base := base) T
  refine ClE.of T.d_steps_within sc_steps_within (fun vs H Q E h => ?_) (fun _ _ _ _ _ _ us hl => by obtain ⟨a, b, rfl⟩ := len2 hl; rfl) (fun f cdv A0 outer s H vs Q E hr h => ?_)
  · obtain ⟨a, b, ps, tg, rfl, _⟩ := h
    rfl
  · obtain ⟨a, b, ps, tg, rfl, hpf, hfit, hb, htin, q0, qx⟩ := h
    have hu := hu_of hr
    refine ⟨_, (pss_cons (ps_if (pt_cmpR op_gt (pe_callB call_len_seq (by rfl) T.n_len PySem.boot_len (pa_cons (pv 1) pa_nil)) (pe_globS T.g_MOST_PARTS (by rfl)) (nomark _))
        (pss_one (ps_raise1 X_TooMany hr (by rfl) hX.m_TooMany hX.k_TooMany (pa_cons (pv 1) pa_nil))) pss_nil)
      (pss_cons (ps_set (i := 2) sc_steps_within.nd rfl (Or.inr rfl) (pe_fn C_bringings hr (by rfl) (pa_cons (pv 0) pa_nil)))
      (pss_one (ps_ret (pe_comp (M := ["part", "tangle", "onward"]) (ρ := [none, some 1, some 2]) (defScope s_steps_within) ["parts", "tangle", "onward"] ⟨rfl, by decide +kernel, by decide +kernel, by decide +kernel, rfl, by decide +kernel, by decide +kernel⟩ (pi_tup (pv 1)) (fun _ _ _ _ _ _ => (pg_name (i := 0) (show (["part", "tangle", "onward"] : List Str).Nodup by decide +kernel) rfl (Or.inl rfl))) (fun _ _ _ _ _ _ => pts_nil) (fun _ _ _ _ _ _ => (pe_fn C_place_of hr (by rfl) (pa_cons (pv 1) (pa_cons (pe_dget hu (pv 2) (pv 0) (fun _ _ => rfl)) pa_nil))))))))), ?_⟩
    by_cases ht8 : tg.length ≤ 8
    case neg =>
      refine ⟨_, rfl, b, _, rfl, .inr (SqT.of hb), _, _, rfl, rfl, _, rfl, ite2 (fun _ => ?_) (fun hh => absurd (decide_eq_true (show (8 : Int) < ((tg.map V.str).length : Int) by rw [List.length_map]; omega)) hh)⟩
      exact ⟨_, rfl, _, rfl, fun dx gdx => qx (by omega) dx _ ((Same.refl H).new gdx) upd_same⟩
    have q := q0 ht8
    refine ⟨_, rfl, b, _, rfl, .inr (SqT.of hb), _, _, rfl, rfl, _, rfl, ite2 (fun hh => absurd (of_decide_eq_true hh) (by rw [List.length_map]; omega)) fun _ => ?_⟩
    refine ⟨_, rfl, a, ps, rfl, hpf, hfit, fun d qs H1 s1 gd hd hqs => ?_⟩
    have hgv := br_val hfit.nd hqs
    refine ⟨_, rfl, b, rfl, ⟨_, SqT.of (s1 _ _ hb)⟩, fun D gD => ?_⟩
    refine comp_by tg.length (fun i σ H2 => ∃ v0 : Option V, σ = [v0, some (.ref b), some (.ref d)] ∧ Same H1 H2 ∧ H2 D = some (.lst (natsV ((stepsOf ps tg).take i)))) ⟨_, rfl, (Same.refl H1).new gD, by rw [upd_same, List.take_zero]; rfl⟩ ?_ ?_
    · rintro i σ H2 hi ⟨v0, rfl, s2, hD2⟩
      have hn : tg[i]? = some tg[i] := by simp [hi]
      have hb2 := s2 _ _ (s1 _ _ hb)
      refine ⟨⟨_, .str tg[i], SqT.of hb2, by simp [hi]⟩, ?_⟩
      rintro y H3 ⟨rfl, hy⟩
      have ey : y = .str tg[i] := Option.some.inj ((hy _ (SqT.of hb2)).symm.trans (by rw [List.getElem?_map, hn]; rfl))
      subst ey
      obtain ⟨u, hu1, hu2⟩ := hgv _ (htin _ (List.getElem_mem hi))
      have hg := DGet.k (k := Sum.inr tg[i]) (s2 _ _ hd)
      rw [hu1] at hg
      refine ntG ?_
      refine ⟨_, rfl, _, rfl, _, rfl, d, _, rfl, hg, b, u, tg, k1 ps tg[i], rfl, hb2, s2 _ _ hu2, ht8, fun H4 s4 => ?_⟩
      have hst : (stepsOf ps tg)[i]? = some (mskOf tg (k1 ps tg[i])) := by
        unfold stepsOf
        rw [List.getElem?_map, hn]
        rfl
      refine ⟨_, s4 _ _ hD2, small1000 (by rw [natsV_len, List.length_take]; unfold stepsOf; rw [List.length_map]; omega), _, rfl, (s2.trans s4).put gD, ?_⟩
      rw [upd_same, take_succ_get hst, natsV_snoc]
    · rintro σ H2 ⟨v0, rfl, s2, hD2⟩
      refine ⟨⟨_, SqT.of (s2 _ _ (s1 _ _ hb)), by simp⟩, ?_⟩
      rw [show tg.length = (stepsOf ps tg).length by unfold stepsOf; rw [List.length_map], List.take_length] at hD2
      exact q D H2 (s1.trans s2) hD2
noncomputable def spRingX (A : Adr) : Sp := fun vs H Q E => ∃ (a b : Addr) (ps : List Pt) (tg : List Str), vs = [.ref a, .ref b] ∧ PartsF H a ps ∧ PsFit ps ∧ H b = some (.tup (tg.map V.str)) ∧ (∀ n ∈ tg, n ∈ ps.map (·.1)) ∧ (tg.length ≤ 8 → ∀ (p : Addr) (H' : Hp), Same H H' → Q (.ref p) H') ∧ (8 < tg.length → ∀ (dx : Addr) (H' : Hp), Same H H' → H' dx = some (.xd [("parts", .ref b)]) → E (.ref A.TooMany) (some dx) H')
theorem ok_ringX (T : Txt K mg) {A : Adr} (hX : XTxt K mg A) : L2.ClE P w K mg base 5 "ring_table" ["parts", "tangle"] (spRingX A) := by
  have C_best_lasts := ok_lasts (P := P) (w := w) (base := base) T
  have C_steps_within := ok_withinX (P := P) (w := w) (base := base) T hX
  refine ClE.of T.d_ring_table sc_ring_table (fun vs H Q E h => ?_) (fun _ _ _ _ _ _ us hl => by obtain ⟨a, b, rfl⟩ := len2 hl; rfl) (fun f cdv A0 outer s H vs Q E hr h => ?_)
  · obtain ⟨a, b, ps, tg, rfl, _⟩ := h
    rfl
  · obtain ⟨a, b, ps, tg, rfl, hpf, hfit, hb, htin, q0, qx⟩ := h
    refine ⟨_, (@pss_one _ _ _ (@ps_ret _ _ _ _ (@pe_callTy _ _ _ _ _ _ _ _ _ (@call_tuple_of _) (by rfl) T.n_tuple boot_tuple (@pa_cons _ _ _ _ _ (@pe_comp _ _ _ _ _ _ _ (["count", "last"]) ([none, none]) _ _ _ _ (defScope s_ring_table) ["parts", "tangle"] ⟨rfl, by decide +kernel, by decide +kernel, by decide +kernel, rfl, by decide +kernel, by decide +kernel⟩ (@pi_list _ _ _ _ (@pe_fn _ _ _ _ _ _ _ _ _ _ _ C_best_lasts hr (by rfl) (@pa_cons _ _ _ _ _ (@pe_fnE _ _ _ _ _ _ _ _ _ _ _ _ C_steps_within (@passE _ _ _ _ _ _ _ _ _ _ _ _ _ _ _) hr (by rfl) (@pa_cons _ _ _ _ _ (@pv _ 0 _ _ (by rfl) (by first   | exact Or.inl rfl   | exact Or.inr (Or.inl rfl)   | exact Or.inr (Or.inr rfl)) (by decide) (by decide)) (@pa_cons _ _ _ _ _ (@pv _ 1 _ _ (by rfl) (by first   | exact Or.inl rfl   | exact Or.inr (Or.inl rfl)   | exact Or.inr (Or.inr rfl)) (by decide) (by decide)) (@pa_nil _) (by rfl)) (by rfl)) (by decide) (by decide) (by rfl) (by rfl)) (@pa_nil _) (by rfl)) (by decide) (by decide) (by rfl) (by rfl))) (fun _ _ _ _ _ _ => (@pg_tupK _ (K) _ _ _ _ (2) rfl rfl (@pgs_cons _ _ _ _ _ (@pg_name _ _ (0) _ (show (["count", "last"] : List Str).Nodup by decide +kernel) rfl (Or.inl rfl) (by first   | exact .inl rfl   | exact .inr rfl   | assumption)) (@pgs_cons _ _ _ _ _ (@pg_name _ _ (1) _ (show (["count", "last"] : List Str).Nodup by decide +kernel) rfl (Or.inl rfl) (by first   | exact .inl rfl   | exact .inr rfl   | assumption)) (@pgs_nil _) (by rfl)) (by rfl)) (by rfl) (by rfl))) (fun _ _ _ _ _ _ => @pts_nil _) (fun _ _ _ _ _ _ => (@pv _ 0 _ _ (by rfl) (by first   | exact Or.inl rfl   | exact Or.inr (Or.inl rfl)   | exact Or.inr (Or.inr rfl)) (by decide) (by decide))) (by rfl) (by rfl) (by rfl) (by intro _; rfl)) (@pa_nil _) (by rfl)) (by decide) (by decide) (by rfl) (by rfl)))), ?_⟩
    by_cases ht8 : tg.length ≤ 8
    case neg => exact ⟨_, rfl, _, rfl, a, b, ps, tg, rfl, hpf, hfit, hb, htin, fun z => absurd z ht8, qx⟩
    have q := q0 ht8
    have hsl : (stepsOf ps tg).length = tg.length := by unfold stepsOf; rw [List.length_map]
    have h256 : 2 ^ tg.length ≤ 256 := two_le ht8
    refine ⟨_, rfl, _, rfl, a, b, ps, tg, rfl, hpf, hfit, hb, htin, fun _ sl H1 s1 hl1 => ?_, fun z => absurd z (by omega)⟩
    refine ⟨sl, _, rfl, hl1, by omega, fun l us bs H2 s2 hl hus hopt hbl => ?_⟩
    have hul : us.length = bs.length := Paired.length hus
    rw [hsl] at hbl
    refine ⟨l, rfl, ⟨_, SqL.of hl⟩, fun D gD => ?_⟩
    refine comp_by us.length (fun i σ H3 => ∃ v0 v1 : Option V, σ = [v0, v1] ∧ Same H2 H3 ∧ H3 D = some (.lst (((bs.take i).map (·.1)).map V.int))) ⟨_, _, rfl, (Same.refl H2).new gD, by rw [upd_same, List.take_zero]; rfl⟩ ?_ ?_
    · rintro i σ H3 hi ⟨v0, v1, rfl, s3, hD3⟩
      refine ⟨⟨us, us[i], SqL.of (s3 _ _ hl), by simp⟩, ?_⟩
      rintro y H4 ⟨rfl, hy4⟩
      obtain ⟨x, hx, t4, ey, ht4⟩ := Paired.get? hus (hy4 _ (SqL.of (s3 _ _ hl)))
      subst ey
      refine ⟨t4, _, rfl, SqT.of (s3 _ _ ht4), rfl, _, _, rfl, _, _, rfl, rfl, ?_⟩
      refine nt ?_
      refine ⟨_, rfl, _, hD3, small1000 (by rw [List.length_map, List.length_map, List.length_take]; omega), _, _, rfl, s3.put gD, ?_⟩
      rw [upd_same, take_succ_get hx, List.map_append, List.map_append]
      rfl
    · rintro σ H3 ⟨v0, v1, rfl, s3, hD3⟩
      refine ⟨⟨us, SqL.of (s3 _ _ hl), Nat.le_refl _⟩, ?_⟩
      rw [hul, List.take_length] at hD3
      refine ⟨D, _, rfl, .inl ⟨SqL.of hD3, fun p gp => ?_⟩⟩
      exact q p _ (((s1.trans s2).trans s3).new gp)
noncomputable def spFWX (A : Adr) : Sp := fun vs H Q E => ∃ (a b : Addr) (ps : List Pt) (tg : List Str), vs = [.ref a, .ref b] ∧ PartsF H a ps ∧ PsFit ps ∧ H b = some (.tup (tg.map V.str)) ∧ (∀ n ∈ tg, n ∈ ps.map (·.1)) ∧ tg.Nodup ∧ (tg.length ≤ 8 →
  ∀ (l : Addr) (us : List V) (cs : List (Str × Str)) (H' : Hp), Same H H' → H' l = some (.lst us) → Paired (TS2 H') us cs → CutOk (k1 ps) tg cs → cs.length ≤ 6144 → (∀ bs, OptL (fun k => (stepsOf ps tg).getD k 0) bs → bs.length = 2 ^ tg.length → (cs.length : Int) = (bs.getD (2 ^ tg.length - 1) (0, 0)).1) → Q (.ref l) H') ∧ (8 < tg.length → ∀ (dx : Addr) (H' : Hp), Same H H' → H' dx = some (.xd [("parts", .ref b)]) → E (.ref A.TooMany) (some dx) H')
theorem ok_fwithinX (T : Txt K mg) {A : Adr} (hX : XTxt K mg A) : L2.ClE P w K mg base 5 "fewest_within" ["parts", "tangle"] (spFWX A) := by
  have C_best_lasts := ok_lasts (P := P) (w := w) (base := base) T
  have C_steps_within := ok_withinX (P := P) (w := w) (base := base) T hX
  have C_numbers_in := ok_in2 (P := P) (w := w) (base := base) T
  refine ClE.of T.d_fewest_within sc_fewest_within (fun vs H Q E h => ?_) (fun _ _ _ _ _ _ us hl => by obtain ⟨a, b, rfl⟩ := len2 hl; rfl) (fun f cdv A0 outer s H vs Q E hr h => ?_)
  · obtain ⟨a, b, ps, tg, rfl, _⟩ := h
    rfl
  · obtain ⟨a, b, ps, tg, rfl, hpf, hfit, hb, htin, htn, q0, qx⟩ := h
    refine ⟨_, (@pss_cons _ _ _ _ _ (@ps_set _ _ (2) _ _ _ _ sc_fewest_within.nd rfl (Or.inl rfl) (@pe_fnE _ _ _ _ _ _ _ _ _ _ _ _ C_steps_within (@passE _ _ _ _ _ _ _ _ _ _ _ _ _ _ _) hr (by rfl) (@pa_cons _ _ _ _ _ (@pv _ 0 _ _ (by rfl) (by first   | exact Or.inl rfl   | exact Or.inr (Or.inl rfl)   | exact Or.inr (Or.inr rfl)) (by decide) (by decide)) (@pa_cons _ _ _ _ _ (@pv _ 1 _ _ (by rfl) (by first   | exact Or.inl rfl   | exact Or.inr (Or.inl rfl)   | exact Or.inr (Or.inr rfl)) (by decide) (by decide)) (@pa_nil _) (by rfl)) (by rfl)) (by decide) (by decide) (by rfl) (by rfl)) (by rfl) (by first   | exact .inl rfl   | exact .inr rfl   | assumption)) (@pss_cons _ _ _ _ _ (@ps_set _ _ (3) _ _ _ _ sc_fewest_within.nd rfl (Or.inl rfl) (@pe_fn _ _ _ _ _ _ _ _ _ _ _ C_best_lasts hr (by rfl) (@pa_cons _ _ _ _ _ (@pv _ 2 _ _ (by rfl) (by first   | exact Or.inl rfl   | exact Or.inr (Or.inl rfl)   | exact Or.inr (Or.inr rfl)) (by decide) (by decide)) (@pa_nil _) (by rfl)) (by decide) (by decide) (by rfl) (by rfl)) (by rfl) (by first   | exact .inl rfl   | exact .inr rfl   | assumption)) (@pss_cons _ _ _ _ _ (@ps_set _ _ (4) _ _ _ _ sc_fewest_within.nd rfl (Or.inl rfl) (@pe_op _ _ _ _ _ _ _ _ (@op_sub _) (@pe_callB _ _ _ _ _ _ _ _ _ (@call_len_seq _) (by rfl) T.n_len PySem.boot_len (@pa_cons _ _ _ _ _ (@pv _ 3 _ _ (by rfl) (by first   | exact Or.inl rfl   | exact Or.inr (Or.inl rfl)   | exact Or.inr (Or.inr rfl)) (by decide) (by decide)) (@pa_nil _) (by rfl)) (by decide) (by decide) (by rfl) (by rfl)) (@pe_int _ _ _ _)) (by rfl) (by first   | exact .inl rfl   | exact .inr rfl   | assumption)) (@pss_cons _ _ _ _ _ (@ps_set _ _ (5) _ _ _ _ sc_fewest_within.nd rfl (Or.inl rfl) (@pe_lst _ _ _ _ (@pa_nil _)) (by rfl) (by first   | exact .inl rfl   | exact .inr rfl   | assumption)) (@pss_cons _ _ _ _ _ (@ps_while _ _ _ _ _ _ passOwn (@pt_cmpR _ _ _ _ _ _ _ _ (@op_gt _) (@pv _ 4 _ _ (by rfl) (by first   | exact Or.inl rfl   | exact Or.inr (Or.inl rfl)   | exact Or.inr (Or.inr rfl)) (by decide) (by decide)) (@pe_int _ _ _ _) (nomark _)) (@pss_cons _ _ _ _ _ (@ps_set _ _ (6) _ _ _ _ sc_fewest_within.nd rfl (Or.inr rfl) (@pe_ix _ _ _ _ _ _ _ (@ix_tup _) (@pe_ix _ _ _ _ _ _ _ (@ix_list _) (@pv _ 3 _ _ (by rfl) (by first   | exact Or.inl rfl   | exact Or.inr (Or.inl rfl)   | exact Or.inr (Or.inr rfl)) (by decide) (by decide)) (@pv _ 4 _ _ (by rfl) (by first   | exact Or.inl rfl   | exact Or.inr (Or.inl rfl)   | exact Or.inr (Or.inr rfl)) (by decide) (by decide)) (fun _ _ => rfl)) (@pe_int _ _ _ _) (fun _ _ => rfl)) (by rfl) (by first   | exact .inl rfl   | exact .inr rfl   | assumption)) (@pss_cons _ _ _ _ _ (@ps_expr _ _ _ _ (@pe_bm _ _ _ _ _ _ _ _ _ _ _ _ PySem.F.plainAttrs_list PySem.F.slot_list_extend PySem.F.type_list_extend (@mt_extend _) (@pv _ 5 _ _ (by rfl) (by first   | exact Or.inl rfl   | exact Or.inr (Or.inl rfl)   | exact Or.inr (Or.inr rfl)) (by decide) (by decide)) (@pa_cons _ _ _ _ _ (@pe_comp _ _ _ _ _ _ _ (["number", "tangle", "last"]) ([none, some 1, some 6]) _ _ _ _ (defScope s_fewest_within) ["parts", "tangle", "steps", "best", "left", "cut", "last"] ⟨rfl, by decide +kernel, by decide +kernel, by decide +kernel, rfl, by decide +kernel, by decide +kernel⟩ (@pi_tup _ _ _ _ (@pe_fn _ _ _ _ _ _ _ _ _ _ _ C_numbers_in hr (by rfl) (@pa_cons _ _ _ _ _ (@pe_op _ _ _ _ _ _ _ _ (@op_and _) (@pe_ix _ _ _ _ _ _ _ (@ix_list _) (@pv _ 2 _ _ (by rfl) (by first   | exact Or.inl rfl   | exact Or.inr (Or.inl rfl)   | exact Or.inr (Or.inr rfl)) (by decide) (by decide)) (@pv _ 6 _ _ (by rfl) (by first   | exact Or.inl rfl   | exact Or.inr (Or.inl rfl)   | exact Or.inr (Or.inr rfl)) (by decide) (by decide)) (fun _ _ => rfl)) (@pv _ 4 _ _ (by rfl) (by first   | exact Or.inl rfl   | exact Or.inr (Or.inl rfl)   | exact Or.inr (Or.inr rfl)) (by decide) (by decide))) (@pa_nil _) (by rfl)) (by decide) (by decide) (by rfl) (by rfl))) (fun _ _ _ _ _ _ => (@pg_name _ _ (0) _ (show (["number", "tangle", "last"] : List Str).Nodup by decide +kernel) rfl (Or.inl rfl) (by first   | exact .inl rfl   | exact .inr rfl   | assumption))) (fun _ _ _ _ _ _ => @pts_nil _) (fun _ _ _ _ _ _ => (@pe_tup _ _ _ _ _ (@pa_cons _ _ _ _ _ (@pe_ix _ _ _ _ _ _ _ (@ix_tupK _ (K) rfl) (@pv _ 1 _ _ (by rfl) (by first   | exact Or.inl rfl   | exact Or.inr (Or.inl rfl)   | exact Or.inr (Or.inr rfl)) (by decide) (by decide)) (@pv _ 2 _ _ (by rfl) (by first   | exact Or.inl rfl   | exact Or.inr (Or.inl rfl)   | exact Or.inr (Or.inr rfl)) (by decide) (by decide)) (fun _ _ => rfl)) (@pa_cons _ _ _ _ _ (@pe_ix _ _ _ _ _ _ _ (@ix_tupK _ (K) rfl) (@pv _ 1 _ _ (by rfl) (by first   | exact Or.inl rfl   | exact Or.inr (Or.inl rfl)   | exact Or.inr (Or.inr rfl)) (by decide) (by decide)) (@pv _ 0 _ _ (by rfl) (by first   | exact Or.inl rfl   | exact Or.inr (Or.inl rfl)   | exact Or.inr (Or.inr rfl)) (by decide) (by decide)) (fun _ _ => rfl)) (@pa_nil _) (by rfl)) (by rfl)))) (by rfl) (by rfl) (by rfl) (by intro _; rfl)) (@pa_nil _) (by rfl)) (by rfl) (by rfl) (by rfl) (by rfl) (by rfl)) (by rfl)) (@pss_one _ _ _ (@ps_aug _ _ (4) _ _ _ _ _ _ sc_fewest_within.nd rfl (Or.inl rfl) (@pe_op _ _ _ _ _ _ _ _ (@op_shl _) (@pe_int _ _ _ _) (@pv _ 6 _ _ (by rfl) (by first   | exact Or.inl rfl   | exact Or.inr (Or.inl rfl)   | exact Or.inr (Or.inr rfl)) (by decide) (by decide))) ip_sub (by first   | exact .inl rfl   | exact .inr rfl   | assumption)))))) (@pss_one _ _ _ (@ps_ret _ _ _ _ (@pv _ 5 _ _ (by rfl) (by first   | exact Or.inl rfl   | exact Or.inr (Or.inl rfl)   | exact Or.inr (Or.inr rfl)) (by decide) (by decide))))))))), ?_⟩
    by_cases ht8 : tg.length ≤ 8
    case neg => exact ⟨_, rfl, _, rfl, a, b, ps, tg, rfl, hpf, hfit, hb, htin, fun z => absurd z ht8, qx⟩
    have q := q0 ht8
    have hsl : (stepsOf ps tg).length = tg.length := by unfold stepsOf; rw [List.length_map]
    have h256 : 2 ^ tg.length ≤ 256 := two_le ht8
    have hpos := Nat.two_pow_pos tg.length
    refine ⟨_, rfl, _, rfl, a, b, ps, tg, rfl, hpf, hfit, hb, htin, fun _ sl H1 s1 hl1 => ?_, fun z => absurd z (by omega)⟩
    refine ⟨_, rfl, sl, _, rfl, hl1, by omega, fun B us bs H2 s2 hB hus hopt hbl => ?_⟩
    have hul : us.length = bs.length := Paired.length hus
    rw [hsl] at hbl
    have s02 := s1.trans s2
    refine ⟨_, rfl, B, _, rfl, .inl (SqL.of hB), _, _, rfl, rfl, ?_⟩
    refine ⟨(by show 0 ≤ sizeLine; decide), fun C gC => ?_⟩
    have gCH : H C = none := s02.free gC
    have s3 : Same H2 (upd H2 C (.lst [])) := (Same.refl H2).new gC
    have hC3 : upd H2 C (.lst []) C = some (.lst []) := upd_same
    generalize upd H2 C (.lst []) = H3 at s3 hC3 ⊢
    refine to_g ?_
    refine ⟨fun m σ H4 => ∃ (cs : List (Nat × Nat)) (ws : List V) (k : Nat) (v6 : Option V), σ = [some (.ref a), some (.ref b), some (.ref sl), some (.ref B), some (.int (m : Int)), some (.ref C), v6] ∧ Same H2 H4 ∧ H4 C = some (.lst ws) ∧ Paired (TS2 H4) ws (cutN tg cs) ∧ m ≤ k ∧ m < bs.length ∧ cs ++ pick (fun k => (stepsOf ps tg).getD k 0) bs k m = pick (fun k => (stepsOf ps tg).getD k 0) bs 256 (2 ^ tg.length - 1),
      ⟨2 ^ tg.length - 1, [], [], 256, none, ?_, s3, hC3, .nil, by omega, by omega, rfl⟩, ?_⟩
    · have e : (us.length : Int) - 1 = ((2 ^ tg.length - 1 : Nat) : Int) := by omega
      rw [← e]
      rfl
    rintro m σ H4 ⟨cs, ws, k, v6, rfl, s4, hC4, hws, hmk, hmb, hcs⟩
    have hwl : ws.length = cs.length := by rw [Paired.length hws]; unfold cutN; rw [List.length_map]
    have hsmall := pick_small (fun k => (stepsOf ps tg).getD k 0) bs 256 (2 ^ tg.length - 1)
    refine ⟨_, rfl, _, _, rfl, rfl, _, rfl, ?_⟩
    refine ite2 (fun hlt => ?_) (fun hlt => ?_)
    · have hm0 : m ≠ 0 := by have := of_decide_eq_true hlt; omega
      have hm24 : m < 2 ^ 24 := by omega
      have hbit := hopt.bit hm0 hmb
      have hless := hopt.less hm0 hmb
      obtain ⟨k, rfl⟩ : ∃ k', k = k' + 1 := ⟨k - 1, by omega⟩
      rw [pick_succ hm0] at hcs
      obtain ⟨u, hu', tb, eb, htb⟩ := Paired.get?' hus (getD_some hmb)
      subst eb
      generalize hlv : (bs.getD m (0, 0)).2 = l at hbit hless hcs htb
      have hl8 : l < tg.length := (Nat.pow_lt_pow_iff_right (a := 2) (by decide)).mp (Nat.lt_of_le_of_lt (bit_le hbit) (by omega))
      have s24 := s4
      have hB4 := s4 _ _ hB
      have htb4 := s4 _ _ htb
      have z1 : atI [V.int (bs.getD m (0, 0)).1, V.int (l : Int)] 1 = some (.int (l : Int)) := atI_nat (j := 1) rfl
      refine ⟨_, fun σ' H' h => h, ?_⟩
      refine ⟨_, rfl, _, rfl, B, _, _, _, rfl, rfl, SqL.of hB4, atI_nat hu', tb, _, _, _, rfl, rfl, SqT.of htb4, z1, ?_⟩
      have hlt : (stepsOf ps tg).getD l 0 &&& m < 2 ^ 24 := and24 hm24
      have ats : atI (natsV (stepsOf ps tg)) (l : Int) = some (.int (((stepsOf ps tg).getD l 0 : Nat) : Int)) := by
        refine atI_nat ?_
        unfold natsV
        rw [List.getElem?_map, List.getD_eq_getElem?_getD, List.getElem?_eq_getElem (by omega)]
        rfl
      refine ⟨_, rfl, .inl ⟨rfl, _, SqL.of hC4⟩, _, rfl, _, rfl, sl, _, _, _, rfl, rfl, SqL.of (s4 _ _ (s2 _ _ hl1)), ats, _, rfl, _, _, rfl, rfl, (stepsOf ps tg).getD l 0 &&& m, (by show [V.int (Builtin.bitAnd (((stepsOf ps tg).getD l 0 : Nat) : Int) (m : Int))] = _; rw [bitAnd_nat]), hlt, fun p H5 s5 hp => ?_⟩
      have hbm := fun j => bitsL_mem (x := (stepsOf ps tg).getD l 0 &&& m) (l := j) hlt
      have hbj : ∀ j ∈ bitsL ((stepsOf ps tg).getD l 0 &&& m), j < tg.length := fun j hj => by
        have h1 := (hbm j).mp hj
        rw [Nat.testBit_and] at h1
        exact (Nat.pow_lt_pow_iff_right (a := 2) (by decide)).mp (Nat.lt_of_le_of_lt (bit_le (Bool.and_eq_true_iff.mp h1).2) (by omega))
      have hb24 : (bitsL ((stepsOf ps tg).getD l 0 &&& m)).length ≤ 24 := by
        unfold bitsL
        exact Nat.le_trans (List.length_filter_le _ _) (by rw [List.length_range]; exact Nat.le_refl _)
      generalize bitsL ((stepsOf ps tg).getD l 0 &&& m) = js at hp hbj hb24 hcs
      have hb5 := s5 _ _ (s4 _ _ (s02 _ _ hb))
      refine ⟨p, rfl, ⟨_, SqT.of hp⟩, fun D gD => ?_⟩
      refine comp_by js.length (fun i σ H6 => ∃ (v0 : Option V) (xs : List V), σ = [v0, some (.ref b), some (.int (l : Int))] ∧ Same H5 H6 ∧ H6 D = some (.lst xs) ∧ Paired (TS2 H6) xs (cutN tg ((js.take i).map fun j => (l, j)))) ⟨_, [], rfl, (Same.refl H5).new gD, upd_same, by rw [List.take_zero]; exact .nil⟩ ?_ ?_
      · rintro i σ H6 hi ⟨v0, xs, rfl, s6, hD6, hxs⟩
        refine ⟨⟨_, .int (js[i] : Int), SqT.of (s6 _ _ hp), by unfold natsV; simp [hi]⟩, ?_⟩
        rintro y H7 ⟨rfl, hy⟩
        obtain ⟨j, hj, rfl⟩ := natsV_get (hy _ (SqT.of (s6 _ _ hp)))
        have hjl := hbj j (List.mem_of_getElem? hj)
        have hb6 := s6 _ _ hb5
        have hxl : xs.length ≤ 24 := by rw [Paired.length hxs]; unfold cutN; rw [List.length_map, List.length_map, List.length_take]; omega
        refine ntG ?_
        refine ⟨_, rfl, _, rfl, b, _, _, _, rfl, rfl, SqT.of hb6, at_name hl8, _, rfl, _, rfl, b, _, _, _, rfl, rfl, SqT.of hb6, at_name hjl, (by show 2 ≤ sizeLine; decide), fun r gr => ?_⟩
        have s7 : Same _ _ := (Same.refl H7).new (o := .tup [.str (tg.getD l ""), .str (tg.getD j "")]) gr
        have hD7 := s7 _ _ hD6
        have T8 := Tups.lst (ys := xs ++ [.ref r]) hD7
        refine ⟨xs, hD7, small1000 (by omega), _, xs ++ [.ref r], rfl, (s6.trans s7).put gD, upd_same, ?_⟩
        rw [take_succ_get hj, List.map_append]
        unfold cutN
        rw [List.map_append]
        exact Paired.snoc (Paired.mapP hxs fun _ _ z => ts2_tups (s7.tups.trans T8) z) ⟨r, rfl, T8 _ _ upd_same⟩
      rintro σ H6 ⟨v0, xs, rfl, s6, hD6, hxs⟩
      refine ⟨⟨_, SqT.of (s6 _ _ hp), by rw [natsV_len]; exact Nat.le_refl _⟩, ?_⟩
      rw [List.take_length] at hxs
      have hxl : xs.length ≤ 24 := by rw [Paired.length hxs]; unfold cutN; rw [List.length_map, List.length_map]; exact hb24
      have hC6 := s6 _ _ (s5 _ _ hC4)
      have hcl : cs.length ≤ 6144 := by
        have := congrArg List.length hcs
        rw [List.length_append] at this
        omega
      refine ⟨C, D, _, _, rfl, rfl, hC6, hD6, (by show ws.length + xs.length ≤ 2 ^ 24; omega), ?_⟩
      have T7 := Tups.lst (ys := ws ++ xs) hC6
      have ep : (1 : Int) * 2 ^ ((l : Int)).toNat = ((2 ^ l : Nat) : Int) := by rw [Int.one_mul, Int.toNat_natCast, Int.natCast_pow]; rfl
      refine ⟨_, rfl, _, rfl, _, _, rfl, rfl, ⟨by omega, by omega, by decide⟩, _, _, rfl, rfl, ?_⟩
      refine ⟨m - 2 ^ l, hless, cs ++ js.map (fun j => (l, j)), ws ++ xs, k, some (.int (l : Int)), ?_, ((s4.trans s5).trans s6).put gC, upd_same, ?_, by omega, by omega, ?_⟩
      · have e : (m : Int) - 1 * 2 ^ ((l : Int)).toNat = ((m - 2 ^ l : Nat) : Int) := by
          have := bit_le hbit
          rw [ep]
          omega
        rw [← e]
        rfl
      · unfold cutN
        rw [List.map_append]
        exact paired_app (Paired.mapP hws fun _ _ z => ts2_tups ((s5.trans s6).tups.trans T7) z) (Paired.mapP hxs fun _ _ z => ts2_tups T7 z)
      · rw [List.append_assoc]
        exact hcs
    · have hm0 : m = 0 := by
        have h0 : ¬ (0 : Int) < (m : Int) := fun z => hlt (decide_eq_true z)
        omega
      subst hm0
      rw [pick_zero, List.append_nil] at hcs
      subst hcs
      refine ⟨_, rfl, q C ws _ H4 (s02.trans s4) hC4 hws (cut_ok hopt hbl htn ht8) (by unfold cutN; rw [List.length_map]; exact hsmall) fun bs' ho' hl' => ?_⟩
      have h1 := pick_len hopt 256 (2 ^ tg.length - 1) (by omega) (by omega) (by omega)
      unfold cutN
      rw [List.length_map, h1]
      exact opt_uniq hopt ho' (by omega) _ _ (Nat.le_refl _) (by omega)
noncomputable def spFewestX (A : Adr) : Sp := fun vs H Q E => ∃ (a : Addr) (ps : List Pt) (I : Nat) (tG : List Str), vs = [.ref a] ∧ PartsF H a ps ∧ PsFit ps ∧ ClosedB ps ∧ (knotsOf (k1 ps) (ps.map (·.1)) (ps.map (·.1)))[I]? = some tG ∧ 8 < tG.length ∧ (∀ j tg, j < I → (knotsOf (k1 ps) (ps.map (·.1)) (ps.map (·.1)))[j]? = some tg → tg.length ≤ 8) ∧
  ∀ (p dx : Addr) (H' : Hp), Same H H' → H' p = some (.tup (tG.map V.str)) → H' dx = some (.xd [("parts", .ref p)]) → E (.ref A.TooMany) (some dx) H'
theorem ok_fewestX (T : Txt K mg) {A : Adr} (hX : XTxt K mg A) : L2.ClE P w K mg base 6 "fewest" ["parts"] (spFewestX A) := by
  have C_tangles := ok_tangles (P := P) (w := w) (base := base) T
  have C_fewest_within := ok_fwithinX (P := P) (w := w) (base := base) T hX
  refine ClE.of T.d_fewest sc_fewest (fun vs H Q E h => ?_) (fun _ _ _ _ _ _ us hl => by obtain ⟨a, rfl⟩ := len1 hl; rfl) (fun f cdv A0 outer s H vs Q E hr h => ?_)
  · obtain ⟨a, ps, I, tG, rfl, _⟩ := h
    rfl
  · obtain ⟨a, ps, I, tG, rfl, hpf, hfit, hcl, hI, hG8, h8, q⟩ := h
    have hu := hu_of hr
    have hpl := hfit.hi
    obtain ⟨o, vs, ha, ho, hps⟩ := id hpf
    have hvl : vs.length = ps.length := Paired.length hps
    have hks24 : (knotsOf (k1 ps) (ps.map (·.1)) (ps.map (·.1))).length ≤ 24 := by
      have := knots_len (k1 ps) (ps.map (·.1)) (ps.map (·.1))
      rw [List.length_map] at this
      omega
    have hsub := fun tg (h : tg ∈ knotsOf (k1 ps) (ps.map (·.1)) (ps.map (·.1))) => knot_sub h
    have hknd := fun tg (h : tg ∈ knotsOf (k1 ps) (ps.map (·.1)) (ps.map (·.1))) => knot_nd hfit.nd h
    refine ⟨_, (pss_cons (ps_set (i := 1) sc_fewest.nd rfl (Or.inr rfl) pe_dnewT)
      (pss_cons (ps_for passOwn rfl (pi_tup (pe_fn C_tangles hr (by rfl) (pa_cons (pv 0) pa_nil))) (pg_name (i := 2) sc_fewest.nd rfl (Or.inl rfl))
        (pss_one (ps_for passOwn rfl (pi_list (pe_fnE C_fewest_within passE hr (by rfl) (pa_cons (pv 0) (pa_cons (pv 2) pa_nil)))) (pg_name (i := 3) sc_fewest.nd rfl (Or.inl rfl))
          (pss_one (ps_dput hu (pv 1) (pv 3) pe_bl rfl)))))
      (pss_cons (ps_set (i := 4) sc_fewest.nd rfl (Or.inl rfl) (pe_lst pa_nil))
      (pss_cons (ps_for passOwn rfl (pi_tup (pv 0)) (pg_tup rfl (pgs_cons (pg_name (i := 5) sc_fewest.nd rfl (Or.inr rfl)) (pgs_cons (pg_name (i := 6) sc_fewest.nd rfl (Or.inl rfl)) pgs_nil)))
        (pss_one (ps_expr (pe_bm PySem.F.plainAttrs_list PySem.F.slot_list_extend PySem.F.type_list_extend mt_extend (pv 4) (pa_cons (pe_comp (M := ["other", "inner", "part", "cut"]) (ρ := [none, none, some 5, some 1]) (defScope s_fewest) ["parts", "cut", "tangle", "pair", "found", "part", "rows"] ⟨rfl, by decide +kernel, by decide +kernel, by decide +kernel, rfl, by decide +kernel, by decide +kernel⟩ (pi_tup (pv 0)) (fun _ _ _ _ _ _ => (pg_tupK (K := K) (n := 2) rfl rfl (pgs_cons (pg_name (i := 0) (show (["other", "inner", "part", "cut"] : List Str).Nodup by decide +kernel) rfl (Or.inl rfl)) (pgs_cons (pg_name (i := 1) (show (["other", "inner", "part", "cut"] : List Str).Nodup by decide +kernel) rfl (Or.inl rfl)) pgs_nil)))) (fun _ _ _ _ _ _ => (pts_one (pt_cmp (pc_din hu (pe_tup (pa_cons (pv 2) (pa_cons (pv 0) pa_nil))) (pv 3))))) (fun _ _ _ _ _ _ => (pe_tup (pa_cons (pv 2) (pa_cons (pv 0) pa_nil))))) pa_nil)))))
      (pss_one (ps_ret (pe_callTy call_tuple_of (by rfl) T.n_tuple boot_tuple (pa_cons (pv 4) pa_nil)))))))), ?_⟩
    intro d gd
    have s1 : Same H (upd H d (.dT [])) := (Same.refl H).new gd
    have hd1 : upd H d (.dT []) d = some (.dT []) := upd_same
    generalize upd H d (.dT []) = H1 at s1 hd1 ⊢
    refine ⟨_, rfl, a, ps, rfl, s1.partsF hpf, hfit, hcl, fun p us H2 s2 hp hus => ?_⟩
    generalize knotsOf (k1 ps) (ps.map (·.1)) (ps.map (·.1)) = ks at h8 hI hks24 hsub hknd hus
    have hul : us.length = ks.length := Paired.length hus
    have hpd : p ≠ d := fun z => by rw [z, s2 _ _ hd1] at hp; cases hp
    have same2 : ∀ {H3 : Hp}, (∀ c o, c ≠ d → H2 c = some o → H3 c = some o) → Same H H3 := fun h c o e => h c o (fun z => by rw [z, gd] at e; cases e) (s2 _ _ (s1 _ _ e))
    refine ⟨p, rfl, ⟨_, SqT.of hp⟩, for_tup (K := K) (a := p) (xs := us) (fun i σ H3 => ∃ (kvs : List (List Key × V)) (css : List (List (Str × Str))) (v2 v3 : Option V), σ = [some (.ref a), some (.ref d), v2, v3, none, none, none] ∧ i ≤ I ∧ (∀ c o, c ≠ d → H2 c = some o → H3 c = some o) ∧ H3 d = some (.dT kvs) ∧ kvs.length ≤ 6144 * i ∧ Paired (CutL ps) css (ks.take i) ∧ ∀ c, (valV kvs (key2 c)).isSome = decide (c ∈ css.flatten))
      ⟨[], [], none, none, rfl, Nat.zero_le _, fun _ _ _ h => h, s2 _ _ hd1, Nat.zero_le _, by rw [List.take_zero]; exact .nil, fun c => by simp [valV]⟩ (fun i σ H3 _ ⟨_, _, _, _, _, _, hk3, _⟩ => SqT.of (hk3 _ _ hpd hp)) ?_ ?_⟩
    · rintro i y σ H3 hy ⟨kvs, css, v2, v3, rfl, hiI, hk3, hd3, hkl, hcss, hval⟩
      obtain ⟨tg, htg, t, et, ht⟩ := Paired.get? hus hy
      subst et
      have htm := List.mem_of_getElem? htg
      have hi24 : i < 24 := by have := (List.getElem?_eq_some_iff.mp htg).1; omega
      have ht3 := hk3 _ _ (fun z => by rw [z, s2 _ _ hd1] at ht; cases ht) ht
      refine ⟨_, rfl, _, rfl, a, t, ps, tg, rfl, (same2 hk3).partsF hpf, hfit, ht3, hsub tg htm, hknd tg htm, fun ht8 l ws cs H4 s4 hl hws hok hc6 hlen => ?_, fun hx dx H4 s4 hdx => ?_⟩
      case refine_2 =>
        have eI : i = I := by
          rcases Nat.lt_or_eq_of_le hiI with z | z
          · exact absurd (h8 i tg z htg) (by omega)
          · exact z
        subst eI
        rw [htg] at hI
        cases hI
        exact q t dx H4 ((same2 hk3).trans s4) (s4 _ _ ht3) hdx
      have hiI' : i + 1 ≤ I := by
        rcases Nat.lt_or_eq_of_le hiI with z | z
        · exact z
        · subst z
          rw [htg] at hI
          cases hI
          omega
      have hd4 := s4 _ _ hd3
      have hld : l ≠ d := fun z => by rw [z, hd4] at hl; cases hl
      have hwl : ws.length = cs.length := Paired.length hws
      refine ⟨l, rfl, ⟨_, SqL.of hl⟩, for_list (K := K) (a := l) (xs := ws) (fun j σ H5 => ∃ (kvs' : List (List Key × V)) (v3 : Option V), σ = [some (.ref a), some (.ref d), some (.ref t), v3, none, none, none] ∧ (∀ c o, c ≠ d → H4 c = some o → H5 c = some o) ∧ H5 d = some (.dT kvs') ∧ kvs'.length ≤ kvs.length + j ∧ ∀ c, (valV kvs' (key2 c)).isSome = decide (c ∈ css.flatten ++ cs.take j))
        ⟨kvs, _, rfl, fun _ _ _ h => h, hd4, Nat.le_refl _, fun c => by rw [List.take_zero, List.append_nil]; exact hval c⟩ (fun j σ H5 _ ⟨_, _, _, hk5, _⟩ => SqL.of (hk5 _ _ hld hl)) ?_ ?_⟩
      · rintro j y σ H5 hy5 ⟨kvs', v3', rfl, hk5, hd5, hkl5, hval5⟩
        obtain ⟨c0, hc0, r, er, hr0⟩ := Paired.get? hws hy5
        subst er
        have hj : j < ws.length := (List.getElem?_eq_some_iff.mp hy5).1
        have hr5 := hk5 _ _ (fun z => by rw [z, hd4] at hr0; cases hr0) hr0
        refine ⟨_, rfl, _, rfl, d, _, rfl, DPut.t (k := key2 c0) hd5 hr5 (by show kvs'.length < 2 ^ 24; omega), ?_⟩
        refine ⟨_, _, rfl, fun c o hc h => by rw [upd_ne hc]; exact hk5 c o hc h, upd_same, ?_, ?_⟩
        · have := length_putK kvs' (key2 c0) (.bl true)
          omega
        · rw [take_succ_get hc0, ← List.append_assoc]
          exact some_put hval5
      · rintro σ H5 ⟨kvs', v3', rfl, hk5, hd5, hkl5, hval5⟩
        refine ⟨kvs', css ++ [cs], _, _, rfl, hiI', fun c o hc h => hk5 c o hc (s4 _ _ (hk3 c o hc h)), hd5, by omega, ?_, fun c => ?_⟩
        · rw [take_succ_get htg]
          exact Paired.snoc hcss ⟨hok, hlen⟩
        · rw [hval5 c, hwl, List.take_length, List.flatten_append]
          simp
    · rintro σ H3 ⟨kvs, css, v2, v3, rfl, hiI, hk3, hd3, hkl, hcss, hval⟩
      have := (List.getElem?_eq_some_iff.mp hI).1
      omega
noncomputable def Cgt (A : Adr) (H : Hp) (e : Addr) (xs : List Str) : Prop := ∃ dx p, H e = some (ExO e A.TooMany (some dx)) ∧ H dx = some (.xd [("parts", .ref p)]) ∧ H p = some (.tup (xs.map V.str))
noncomputable def spCaught (A : Adr) : Sp := fun vs H Q _ => ∃ (a : Addr) (ps : List Pt), PartsF H a ps ∧ PsFit ps ∧ ClosedB ps ∧
  ((∃ (b : Addr) (tg : List Str), vs = [.ref a, .ref b] ∧ H b = some (.tup (tg.map V.str)) ∧ (∀ n ∈ tg, n ∈ ps.map (·.1)) ∧ (tg.length ≤ 8 → ∀ H', Same H H' → Q .non H') ∧ (8 < tg.length → ∀ (e : Addr) (H' : Hp), Same H H' → Cgt A H' e tg → Q (.ref e) H')) ∨
   (vs = [.ref a, .non] ∧ ((∀ tg ∈ knotsOf (k1 ps) (ps.map (·.1)) (ps.map (·.1)), tg.length ≤ 8) → ∀ H', Same H H' → Q .non H') ∧
     ∀ (I : Nat) (tG : List Str), (knotsOf (k1 ps) (ps.map (·.1)) (ps.map (·.1)))[I]? = some tG → 8 < tG.length → (∀ j tg, j < I → (knotsOf (k1 ps) (ps.map (·.1)) (ps.map (·.1)))[j]? = some tg → tg.length ≤ 8) → ∀ (e : Addr) (H' : Hp), Same H H' → Cgt A H' e tG → Q (.ref e) H'))
theorem first_big {α : Type} {p : α → Bool} : ∀ (l : List α), (∀ x ∈ l, p x = true) ∨ ∃ (i : Nat) (x : α), l[i]? = some x ∧ ¬ p x = true ∧ ∀ (j : Nat) (y : α), j < i → l[j]? = some y → p y = true
  | [] => .inl (by simp)
  | a :: t => by
    by_cases h : p a = true
    · rcases first_big t with z | ⟨i, x, h1, h2, h3⟩
      · exact .inl fun x hx => by rcases List.mem_cons.mp hx with w | w; rw [w]; exact h; exact z x w
      · refine .inr ⟨i + 1, x, by simpa using h1, h2, fun j y hj hy => ?_⟩
        cases j with
        | zero => simp at hy; rw [← hy]; exact h
        | succ j => exact h3 j y (by omega) (by simpa using hy)
    · exact .inr ⟨0, a, rfl, h, fun j y hj => by omega⟩
theorem ok_caught (T : Txt K mg) {A : Adr} (hX : XTxt K mg A) : L2.Cl P w K mg base 7 "_law_caught" ["_law_parts", "_law_some"] (spCaught A) := by
  have C_ring_table := ok_ringX (P := P) (w := w) (base := base) T hX
  refine Cl.of T.d_law_caught sc_law_caught (fun vs H Q E h => ?_) (fun _ _ _ _ _ _ us hl => by obtain ⟨a, b, rfl⟩ := len2 hl; rfl) (fun f cdv A0 outer s H vs Q E hr h => ?_)
  · obtain ⟨a, ps, _, _, _, ⟨b, tg, rfl, _⟩ | ⟨rfl, _⟩⟩ := h <;> rfl
  · obtain ⟨a, ps, hpf, hfit, hcl, h | h⟩ := h
    · obtain ⟨b, tg, rfl, hb, htin, q0, q1⟩ := h
      have C_fewest := ok_fewestX (P := P) (w := w) (base := base) T hX
      refine ⟨_, (@pss_cons _ _ _ _ _ (@ps_set _ _ (2) _ _ _ _ sc_law_caught.nd rfl (Or.inl rfl) (@pe_non _ _ _) (by rfl) (by first   | exact .inl rfl   | exact .inr rfl   | assumption)) (@pss_cons _ _ _ _ _ (@ps_tryAs _ _ _ _ _ _ (3) _ _ _ _ _ _ sc_law_caught.nd rfl rfl (by rfl) hX.m_BundleError hX.k_BundleError (@tb_if _ _ _ _ _ _ _ _ (@pt_cmp _ _ _ _ _ _ (@pc_isN _ _ _ _ _ (@pv _ 1 _ _ (by rfl) (by first   | exact Or.inl rfl   | exact Or.inr (Or.inl rfl)   | exact Or.inr (Or.inr rfl)) (by decide) (by decide))) (by first   | exact nobehind _ (by decide) (by decide)   | rfl)) (@tb_expr _ _ _ _ _ _ _ _ _ _ _ _ C_fewest hr (by rfl) (@pa_cons _ _ _ _ _ (@pv _ 0 _ _ (by rfl) (by first   | exact Or.inl rfl   | exact Or.inr (Or.inl rfl)   | exact Or.inr (Or.inr rfl)) (by decide) (by decide)) (@pa_nil _) (by rfl)) (by decide) (by rfl) (by decide) (by rfl) (by rfl) (by rfl)) (@tb_expr _ _ _ _ _ _ _ _ _ _ _ _ C_ring_table hr (by rfl) (@pa_cons _ _ _ _ _ (@pv _ 0 _ _ (by rfl) (by first   | exact Or.inl rfl   | exact Or.inr (Or.inl rfl)   | exact Or.inr (Or.inr rfl)) (by decide) (by decide)) (@pa_cons _ _ _ _ _ (@pv _ 1 _ _ (by rfl) (by first   | exact Or.inl rfl   | exact Or.inr (Or.inl rfl)   | exact Or.inr (Or.inr rfl)) (by decide) (by decide)) (@pa_nil _) (by rfl)) (by rfl)) (by decide) (by rfl) (by decide) (by rfl) (by rfl) (by rfl))) (fun a => (@pss_one _ _ _ (@ps_set _ _ (2) _ _ _ _ sc_law_caught.nd rfl (Or.inl rfl) (@pv _ 3 _ _ (by rfl) (by first   | exact Or.inl rfl   | exact Or.inr (Or.inl rfl)   | exact Or.inr (Or.inr rfl)) (by decide) (by decide)) (by rfl) (by first   | exact .inl rfl   | exact .inr rfl   | assumption)))) (by rfl) (by rfl) (by rfl) (by decide) (by first   | exact .inl rfl   | exact .inr rfl)) (@pss_one _ _ _ (@ps_ret _ _ _ _ (@pv _ 2 _ _ (by rfl) (by first   | exact Or.inl rfl   | exact Or.inr (Or.inl rfl)   | exact Or.inr (Or.inr rfl)) (by decide) (by decide)))))), ?_⟩
      refine ⟨_, rfl, _, rfl, ?_⟩
      rw [decide_eq_false (show ¬ V.ref b = V.non from fun z => by cases z)]
      refine iteF ?_
      refine ⟨_, rfl, _, rfl, a, b, ps, tg, rfl, hpf, hfit, hb, htin, fun h8 p H1 s1 => ?_, fun h8 dx H1 s1 hdx => ?_⟩
      · exact ⟨_, rfl, q0 h8 H1 s1⟩
      · refine ⟨A.TooMany, rfl, hX.s_TooMany, fun e ne => ⟨_, rfl, _, rfl, ?_⟩⟩
        have s2 : Same H1 (upd H1 e (ExO e A.TooMany (some dx))) := (Same.refl H1).new ne
        exact q1 h8 e _ (s1.trans s2) ⟨dx, b, upd_same, s2 _ _ hdx, s2 _ _ (s1 _ _ hb)⟩
    · obtain ⟨rfl, q0, q1⟩ := h
      rcases first_big (p := fun tg : List Str => decide (tg.length ≤ 8)) (knotsOf (k1 ps) (ps.map (·.1)) (ps.map (·.1))) with hall | ⟨I, tG, hI, hG, hlt⟩
      · have C_fewest := (ok_fewest (P := P) (w := w) (base := base) T).toE
        refine ⟨_, (@pss_cons _ _ _ _ _ (@ps_set _ _ (2) _ _ _ _ sc_law_caught.nd rfl (Or.inl rfl) (@pe_non _ _ _) (by rfl) (by first   | exact .inl rfl   | exact .inr rfl   | assumption)) (@pss_cons _ _ _ _ _ (@ps_tryAs _ _ _ _ _ _ (3) _ _ _ _ _ _ sc_law_caught.nd rfl rfl (by rfl) hX.m_BundleError hX.k_BundleError (@tb_if _ _ _ _ _ _ _ _ (@pt_cmp _ _ _ _ _ _ (@pc_isN _ _ _ _ _ (@pv _ 1 _ _ (by rfl) (by first   | exact Or.inl rfl   | exact Or.inr (Or.inl rfl)   | exact Or.inr (Or.inr rfl)) (by decide) (by decide))) (by first   | exact nobehind _ (by decide) (by decide)   | rfl)) (@tb_expr _ _ _ _ _ _ _ _ _ _ _ _ C_fewest hr (by rfl) (@pa_cons _ _ _ _ _ (@pv _ 0 _ _ (by rfl) (by first   | exact Or.inl rfl   | exact Or.inr (Or.inl rfl)   | exact Or.inr (Or.inr rfl)) (by decide) (by decide)) (@pa_nil _) (by rfl)) (by decide) (by rfl) (by decide) (by rfl) (by rfl) (by rfl)) (@tb_expr _ _ _ _ _ _ _ _ _ _ _ _ C_ring_table hr (by rfl) (@pa_cons _ _ _ _ _ (@pv _ 0 _ _ (by rfl) (by first   | exact Or.inl rfl   | exact Or.inr (Or.inl rfl)   | exact Or.inr (Or.inr rfl)) (by decide) (by decide)) (@pa_cons _ _ _ _ _ (@pv _ 1 _ _ (by rfl) (by first   | exact Or.inl rfl   | exact Or.inr (Or.inl rfl)   | exact Or.inr (Or.inr rfl)) (by decide) (by decide)) (@pa_nil _) (by rfl)) (by rfl)) (by decide) (by rfl) (by decide) (by rfl) (by rfl) (by rfl))) (fun a => (@pss_one _ _ _ (@ps_set _ _ (2) _ _ _ _ sc_law_caught.nd rfl (Or.inl rfl) (@pv _ 3 _ _ (by rfl) (by first   | exact Or.inl rfl   | exact Or.inr (Or.inl rfl)   | exact Or.inr (Or.inr rfl)) (by decide) (by decide)) (by rfl) (by first   | exact .inl rfl   | exact .inr rfl   | assumption)))) (by rfl) (by rfl) (by rfl) (by decide) (by first   | exact .inl rfl   | exact .inr rfl)) (@pss_one _ _ _ (@ps_ret _ _ _ _ (@pv _ 2 _ _ (by rfl) (by first   | exact Or.inl rfl   | exact Or.inr (Or.inl rfl)   | exact Or.inr (Or.inr rfl)) (by decide) (by decide)))))), ?_⟩
        refine ⟨_, rfl, _, rfl, ?_⟩
        rw [decide_eq_true (show V.non = V.non from rfl)]
        refine iteT ?_
        refine ⟨_, rfl, a, ps, rfl, hpf, hfit, hcl, fun tg htg => of_decide_eq_true (hall tg htg), fun p us css H1 s1 _ _ _ => ?_⟩
        exact ⟨_, rfl, q0 (fun tg htg => of_decide_eq_true (hall tg htg)) H1 s1⟩
      · have C_fewest := ok_fewestX (P := P) (w := w) (base := base) T hX
        have hG8 : 8 < tG.length := by
          have : ¬ tG.length ≤ 8 := fun z => hG (decide_eq_true z)
          omega
        have hlt' : ∀ j tg, j < I → (knotsOf (k1 ps) (ps.map (·.1)) (ps.map (·.1)))[j]? = some tg → tg.length ≤ 8 := fun j tg hj h => of_decide_eq_true (hlt j tg hj h)
        refine ⟨_, (@pss_cons _ _ _ _ _ (@ps_set _ _ (2) _ _ _ _ sc_law_caught.nd rfl (Or.inl rfl) (@pe_non _ _ _) (by rfl) (by first   | exact .inl rfl   | exact .inr rfl   | assumption)) (@pss_cons _ _ _ _ _ (@ps_tryAs _ _ _ _ _ _ (3) _ _ _ _ _ _ sc_law_caught.nd rfl rfl (by rfl) hX.m_BundleError hX.k_BundleError (@tb_if _ _ _ _ _ _ _ _ (@pt_cmp _ _ _ _ _ _ (@pc_isN _ _ _ _ _ (@pv _ 1 _ _ (by rfl) (by first   | exact Or.inl rfl   | exact Or.inr (Or.inl rfl)   | exact Or.inr (Or.inr rfl)) (by decide) (by decide))) (by first   | exact nobehind _ (by decide) (by decide)   | rfl)) (@tb_expr _ _ _ _ _ _ _ _ _ _ _ _ C_fewest hr (by rfl) (@pa_cons _ _ _ _ _ (@pv _ 0 _ _ (by rfl) (by first   | exact Or.inl rfl   | exact Or.inr (Or.inl rfl)   | exact Or.inr (Or.inr rfl)) (by decide) (by decide)) (@pa_nil _) (by rfl)) (by decide) (by rfl) (by decide) (by rfl) (by rfl) (by rfl)) (@tb_expr _ _ _ _ _ _ _ _ _ _ _ _ C_ring_table hr (by rfl) (@pa_cons _ _ _ _ _ (@pv _ 0 _ _ (by rfl) (by first   | exact Or.inl rfl   | exact Or.inr (Or.inl rfl)   | exact Or.inr (Or.inr rfl)) (by decide) (by decide)) (@pa_cons _ _ _ _ _ (@pv _ 1 _ _ (by rfl) (by first   | exact Or.inl rfl   | exact Or.inr (Or.inl rfl)   | exact Or.inr (Or.inr rfl)) (by decide) (by decide)) (@pa_nil _) (by rfl)) (by rfl)) (by decide) (by rfl) (by decide) (by rfl) (by rfl) (by rfl))) (fun a => (@pss_one _ _ _ (@ps_set _ _ (2) _ _ _ _ sc_law_caught.nd rfl (Or.inl rfl) (@pv _ 3 _ _ (by rfl) (by first   | exact Or.inl rfl   | exact Or.inr (Or.inl rfl)   | exact Or.inr (Or.inr rfl)) (by decide) (by decide)) (by rfl) (by first   | exact .inl rfl   | exact .inr rfl   | assumption)))) (by rfl) (by rfl) (by rfl) (by decide) (by first   | exact .inl rfl   | exact .inr rfl)) (@pss_one _ _ _ (@ps_ret _ _ _ _ (@pv _ 2 _ _ (by rfl) (by first   | exact Or.inl rfl   | exact Or.inr (Or.inl rfl)   | exact Or.inr (Or.inr rfl)) (by decide) (by decide)))))), ?_⟩
        refine ⟨_, rfl, _, rfl, ?_⟩
        rw [decide_eq_true (show V.non = V.non from rfl)]
        refine iteT ?_
        refine ⟨_, rfl, a, ps, I, tG, rfl, hpf, hfit, hcl, hI, hG8, hlt', fun p dx H1 s1 hp hdx => ?_⟩
        refine ⟨A.TooMany, rfl, hX.s_TooMany, fun e ne => ⟨_, rfl, _, rfl, ?_⟩⟩
        have s2 : Same H1 (upd H1 e (ExO e A.TooMany (some dx))) := (Same.refl H1).new ne
        exact q1 I tG hI hG8 hlt' e _ (s1.trans s2) ⟨dx, p, upd_same, s2 _ _ hdx, s2 _ _ hp⟩
noncomputable def spFine (A : Adr) : Sp := fun vs H Q _ => ∃ (e u : Addr) (xs : List Str), vs = [.ref e, .ref u] ∧ Cgt A H e xs ∧ H u = some (.tup (xs.map V.str)) ∧ xs.length ≤ 24 ∧ ∀ H', Same H H' → Q (.bl true) H'
theorem strs_eqd {K : PySem.W.Frag} {H : Hp} : ∀ xs : List Str, Paired (EqD K H 0) (xs.map V.str) (xs.map V.str)
  | [] => .nil
  | x :: t => .cons ⟨rfl, rfl⟩ (strs_eqd t)
theorem ok_fine (T : Txt K mg) {A : Adr} (hX : XTxt K mg A) : L2.Cl P w K mg base 1 "_law_fine" ["_law_caught_here", "_law_due"] (spFine A) := by
  refine Cl.of T.d_law_fine sc_law_fine (fun vs H Q E h => ?_) (fun _ _ _ _ _ _ us hl => by obtain ⟨a, b, rfl⟩ := len2 hl; rfl) (fun f cdv A0 outer s H vs Q E hr h => ?_)
  · obtain ⟨e, u, xs, rfl, _⟩ := h
    rfl
  · obtain ⟨e, u, xs, rfl, ⟨dx, p, he, hdx, hp⟩, hu', hx24, q⟩ := h
    have hu := hu_of hr
    refine ⟨_, (@pss_cons _ _ _ _ _ (@ps_if _ _ _ _ _ _ _ _ (PW.pt (@pw_or _ _ _ _ _ _ _ (@pt_not _ _ _ _ (@pt_val _ _ _ (@pe_callB _ _ _ _ _ _ _ _ _ (@call_isinstE _) (by rfl) T.n_isinstance PyProof.Rows.boot_isinstance (@pa_cons _ _ _ _ _ (@pv _ 0 _ _ (by rfl) (by first   | exact Or.inl rfl   | exact Or.inr (Or.inl rfl)   | exact Or.inr (Or.inr rfl)) (by decide) (by decide)) (@pa_cons _ _ _ _ _ (@pe_bltn _ _ (.ty "ValueError") _ _ (by rfl) T.n_ValueError boot_ValueError rfl (by decide) (by decide)) (@pa_nil _) (by rfl)) (by rfl)) (by decide) (by decide) (by rfl) (by rfl)) (by intro _; rfl))) (@pw_or1 _ _ _ _ (@pt_not _ _ _ _ (@pt_val _ _ _ (@pe_callB _ _ _ _ _ _ _ _ _ (@call_isinstE _) (by rfl) T.n_isinstance PyProof.Rows.boot_isinstance (@pa_cons _ _ _ _ _ (@pv _ 0 _ _ (by rfl) (by first   | exact Or.inl rfl   | exact Or.inr (Or.inl rfl)   | exact Or.inr (Or.inr rfl)) (by decide) (by decide)) (@pa_cons _ _ _ _ _ (@pe_glob _ _ (.ref A.TooMany) _ _ (by rfl) hX.m_TooMany rfl (by decide)) (@pa_nil _) (by rfl)) (by rfl)) (by decide) (by decide) (by rfl) (by rfl)) (by intro _; rfl)))))) (@pss_one _ _ _ (@ps_ret _ _ _ _ (@pe_bl _ _ _ _))) (@pss_nil _)) (@pss_cons _ _ _ _ _ (@ps_if _ _ _ _ _ _ _ _ (@pt_val _ _ _ (@pe_callB _ _ _ _ _ _ _ _ _ (@call_isinstE _) (by rfl) T.n_isinstance PyProof.Rows.boot_isinstance (@pa_cons _ _ _ _ _ (@pv _ 0 _ _ (by rfl) (by first   | exact Or.inl rfl   | exact Or.inr (Or.inl rfl)   | exact Or.inr (Or.inr rfl)) (by decide) (by decide)) (@pa_cons _ _ _ _ _ (@pe_tup _ _ _ _ _ (@pa_cons _ _ _ _ _ (@pe_glob _ _ (.ref A.Asks) _ _ (by rfl) hX.m_Asks rfl (by decide)) (@pa_cons _ _ _ _ _ (@pe_glob _ _ (.ref A.Endless) _ _ (by rfl) hX.m_Endless rfl (by decide)) (@pa_cons _ _ _ _ _ (@pe_glob _ _ (.ref A.NoMap) _ _ (by rfl) hX.m_NoMap rfl (by decide)) (@pa_cons _ _ _ _ _ (@pe_glob _ _ (.ref A.NoName) _ _ (by rfl) hX.m_NoName rfl (by decide)) (@pa_cons _ _ _ _ _ (@pe_glob _ _ (.ref A.NoPart) _ _ (by rfl) hX.m_NoPart rfl (by decide)) (@pa_cons _ _ _ _ _ (@pe_glob _ _ (.ref A.NoPlace) _ _ (by rfl) hX.m_NoPlace rfl (by decide)) (@pa_cons _ _ _ _ _ (@pe_glob _ _ (.ref A.NoRow) _ _ (by rfl) hX.m_NoRow rfl (by decide)) (@pa_cons _ _ _ _ _ (@pe_glob _ _ (.ref A.NotGiven) _ _ (by rfl) hX.m_NotGiven rfl (by decide)) (@pa_cons _ _ _ _ _ (@pe_glob _ _ (.ref A.Twice) _ _ (by rfl) hX.m_Twice rfl (by decide)) (@pa_nil _) (by rfl)) (by rfl)) (by rfl)) (by rfl)) (by rfl)) (by rfl)) (by rfl)) (by rfl)) (by rfl))) (@pa_nil _) (by rfl)) (by rfl)) (by decide) (by decide) (by rfl) (by rfl)) (by intro _; rfl)) (@pss_one _ _ _ (@ps_ret _ _ _ _ (@pe_bl _ _ _ _))) (@pss_nil _)) (@pss_cons _ _ _ _ _ (@ps_if _ _ _ _ _ _ _ _ (PW.pt (@pw_or _ _ _ _ _ _ _ (@pt_not _ _ _ _ (@pt_val _ _ _ (@pe_callB _ _ _ _ _ _ _ _ _ (@call_isinst _) (by rfl) T.n_isinstance PyProof.Rows.boot_isinstance (@pa_cons _ _ _ _ _ (@pe_fldX _ _ _ _ _ (@pv _ 0 _ _ (by rfl) (by first   | exact Or.inl rfl   | exact Or.inr (Or.inl rfl)   | exact Or.inr (Or.inr rfl)) (by decide) (by decide)) (by rfl)) (@pa_cons _ _ _ _ _ (@pe_bltn _ _ (.ty "tuple") _ _ (by rfl) T.n_tuple boot_tuple rfl (by decide) (by decide)) (@pa_nil _) (by rfl)) (by rfl)) (by decide) (by decide) (by rfl) (by rfl)) (by intro _; rfl))) (@pw_or1 _ _ _ _ (@pt_cmpR _ _ _ _ _ _ _ _ (@op_ne _) (@pe_callB _ _ _ _ _ _ _ _ _ (@call_len_seq _) (by rfl) T.n_len PySem.boot_len (@pa_cons _ _ _ _ _ (@pe_fldX _ _ _ _ _ (@pv _ 0 _ _ (by rfl) (by first   | exact Or.inl rfl   | exact Or.inr (Or.inl rfl)   | exact Or.inr (Or.inr rfl)) (by decide) (by decide)) (by rfl)) (@pa_nil _) (by rfl)) (by decide) (by decide) (by rfl) (by rfl)) (@pe_callB _ _ _ _ _ _ _ _ _ (@call_len_seq _) (by rfl) T.n_len PySem.boot_len (@pa_cons _ _ _ _ _ (@pv _ 1 _ _ (by rfl) (by first   | exact Or.inl rfl   | exact Or.inr (Or.inl rfl)   | exact Or.inr (Or.inr rfl)) (by decide) (by decide)) (@pa_nil _) (by rfl)) (by decide) (by decide) (by rfl) (by rfl)) (nomark _))))) (@pss_one _ _ _ (@ps_ret _ _ _ _ (@pe_bl _ _ _ _))) (@pss_nil _)) (@pss_one _ _ _ (@ps_ret _ _ _ _ (@pe_and _ _ _ _ _ _ _ (@pe_cmpR _ _ _ _ _ _ _ _ (@op_eq _) (@pe_callB _ _ _ _ _ _ _ _ _ (@call_len_seq _) (by rfl) T.n_len PySem.boot_len (@pa_cons _ _ _ _ _ (@pe_comp _ _ _ _ _ _ _ (["_law_name"]) ([none]) _ _ _ _ (defScope s_law_fine) ["_law_caught_here", "_law_due"] ⟨rfl, by decide +kernel, by decide +kernel, by decide +kernel, rfl, by decide +kernel, by decide +kernel⟩ (@pi_tup _ _ _ _ (@pe_fldX _ _ _ _ _ (@pv _ 0 _ _ (by rfl) (by first   | exact Or.inl rfl   | exact Or.inr (Or.inl rfl)   | exact Or.inr (Or.inr rfl)) (by decide) (by decide)) (by rfl))) (fun _ _ _ _ _ _ => (@pg_name _ _ (0) _ (show (["_law_name"] : List Str).Nodup by decide +kernel) rfl (Or.inl rfl) (by first   | exact .inl rfl   | exact .inr rfl   | assumption))) (fun _ _ _ _ _ _ => (@pts_one _ _ _ (@pt_val _ _ _ (@pe_callB _ _ _ _ _ _ _ _ _ (@call_isinstK _ (K) rfl) (by rfl) T.n_isinstance PyProof.Rows.boot_isinstance (@pa_cons _ _ _ _ _ (@pv _ 0 _ _ (by rfl) (by first   | exact Or.inl rfl   | exact Or.inr (Or.inl rfl)   | exact Or.inr (Or.inr rfl)) (by decide) (by decide)) (@pa_cons _ _ _ _ _ (@pe_bltn _ _ (.ty "str") _ _ (by rfl) T.n_str boot_str rfl (by decide) (by decide)) (@pa_nil _) (by rfl)) (by rfl)) (by decide) (by decide) (by rfl) (by rfl)) (by intro _; rfl)))) (fun _ _ _ _ _ _ => (@pv _ 0 _ _ (by rfl) (by first   | exact Or.inl rfl   | exact Or.inr (Or.inl rfl)   | exact Or.inr (Or.inr rfl)) (by decide) (by decide))) (by rfl) (by rfl) (by rfl) (by intro _; rfl)) (@pa_nil _) (by rfl)) (by decide) (by decide) (by rfl) (by rfl)) (@pe_callB _ _ _ _ _ _ _ _ _ (@call_len_seq _) (by rfl) T.n_len PySem.boot_len (@pa_cons _ _ _ _ _ (@pv _ 1 _ _ (by rfl) (by first   | exact Or.inl rfl   | exact Or.inr (Or.inl rfl)   | exact Or.inr (Or.inr rfl)) (by decide) (by decide)) (@pa_nil _) (by rfl)) (by decide) (by decide) (by rfl) (by rfl)) (nomark _)) (@pe_one _ _ _ _ _ (@pe_cmpR _ _ _ _ _ _ _ _ (@op_eqD _ 0 hu) (@pe_fldX _ _ _ _ _ (@pv _ 0 _ _ (by rfl) (by first   | exact Or.inl rfl   | exact Or.inr (Or.inl rfl)   | exact Or.inr (Or.inr rfl)) (by decide) (by decide)) (by rfl)) (@pv _ 1 _ _ (by rfl) (by first   | exact Or.inl rfl   | exact Or.inr (Or.inl rfl)   | exact Or.inr (Or.inr rfl)) (by decide) (by decide)) (nomark _))))))))), ?_⟩
    refine ⟨_, rfl, e, A.TooMany, some dx, _, true, rfl, he, ⟨_, hdx⟩, hX.k_TooMany, .ty hX.i_val, _, rfl, iteF ?_⟩
    refine ⟨_, rfl, e, A.TooMany, some dx, _, true, rfl, he, ⟨_, hdx⟩, hX.k_TooMany, .one hX.i_self, _, rfl, iteF ?_⟩
    refine ⟨_, rfl, (by show 9 ≤ sizeLine; decide), fun tp gtp => ⟨e, A.TooMany, some dx, _, false, rfl, upd_keep he gtp, ⟨_, upd_keep hdx gtp⟩, hX.k_TooMany, .tup (Bs := [A.Asks, A.Endless, A.NoMap, A.NoName, A.NoPart, A.NoPlace, A.NoRow, A.NotGiven, A.Twice]) upd_same hX.i_oth, _, rfl, iteF ?_⟩⟩
    have s1 : Same H (upd H tp (.tup [.ref A.Asks, .ref A.Endless, .ref A.NoMap, .ref A.NoName, .ref A.NoPart, .ref A.NoPlace, .ref A.NoRow, .ref A.NotGiven, .ref A.Twice])) := (Same.refl H).new gtp
    have he1 := s1 _ _ he
    have hdx1 := s1 _ _ hdx
    have hp1 := s1 _ _ hp
    have hu1 := s1 _ _ hu'
    refine ⟨_, rfl, e, A.TooMany, dx, _, _, rfl, he1, hdx1, hX.k_TooMany, hX.f_TooMany, rfl, _, _, _, _, rfl, .tup hp1, kit_same _ _, _, rfl, iteF ?_⟩
    refine ⟨_, rfl, e, A.TooMany, dx, _, _, rfl, he1, hdx1, hX.k_TooMany, hX.f_TooMany, rfl, p, _, rfl, .inr (SqT.of hp1), _, rfl, u, _, rfl, .inr (SqT.of hu1), rfl, _, rfl, ?_⟩
    rw [decide_eq_true (show V.int ((xs.map V.str).length : Int) = V.int ((xs.map V.str).length : Int) from rfl)]
    refine iteF ?_
    refine ⟨_, rfl, e, A.TooMany, dx, _, _, rfl, he1, hdx1, hX.k_TooMany, hX.f_TooMany, rfl, p, rfl, ⟨_, SqT.of hp1⟩, fun D gD => ?_⟩
    refine comp_by xs.length (fun i σ H2 => ∃ v0 : Option V, σ = [v0] ∧ Same (upd H tp (.tup [.ref A.Asks, .ref A.Endless, .ref A.NoMap, .ref A.NoName, .ref A.NoPart, .ref A.NoPlace, .ref A.NoRow, .ref A.NotGiven, .ref A.Twice])) H2 ∧ H2 D = some (.lst ((xs.take i).map V.str))) ⟨_, rfl, (Same.refl _).new gD, upd_same⟩ ?_ ?_
    · rintro i σ H2 hi ⟨v0, rfl, s2, hD2⟩
      have hxi : xs[i]? = some xs[i] := List.getElem?_eq_getElem hi
      refine ⟨⟨_, .str xs[i], SqT.of (s2 _ _ hp1), by rw [List.getElem?_map, hxi]; rfl⟩, ?_⟩
      rintro y H3 ⟨rfl, hy⟩
      have ey := hy _ (SqT.of (s2 _ _ hp1))
      rw [List.getElem?_map, hxi] at ey
      cases ey
      refine ⟨_, rfl, _, _, _, _, rfl, .str _, kit_same _ _, _, rfl, iteT ?_⟩
      refine ⟨_, rfl, _, hD2, small1000 (by rw [List.length_map, List.length_take]; omega), _, rfl, s2.put gD, ?_⟩
      rw [upd_same, take_succ_get hxi, List.map_append]
      rfl
    · rintro σ H2 ⟨v0, rfl, s2, hD2⟩
      rw [List.take_length] at hD2
      refine ⟨⟨_, SqT.of (s2 _ _ hp1), by rw [List.length_map]; exact Nat.le_refl _⟩, ?_⟩
      refine ⟨D, _, rfl, .inl (SqL.of hD2), _, rfl, u, _, rfl, .inr (SqT.of (s2 _ _ hu1)), rfl, _, rfl, ?_⟩
      rw [decide_eq_true (show V.int ((xs.map V.str).length : Int) = V.int ((xs.map V.str).length : Int) from rfl)]
      refine iteT ?_
      refine ⟨_, rfl, e, A.TooMany, dx, _, _, rfl, s2 _ _ he1, s2 _ _ hdx1, hX.k_TooMany, hX.f_TooMany, rfl, _, rfl, p, u, _, _, rfl, rfl, SqT.of (s2 _ _ hp1), SqT.of (s2 _ _ hu1), strs_eqd _, ?_⟩
      exact q H2 (s1.trans s2)
theorem inc_ext : ∀ {l m : List Nat}, l.Pairwise (· < ·) → m.Pairwise (· < ·) → (∀ x, x ∈ l ↔ x ∈ m) → l = m
  | [], [], _, _, _ => rfl
  | [], b :: m, _, _, h => by have := (h b).mpr List.mem_cons_self; simp at this
  | a :: l, [], _, _, h => by have := (h a).mp List.mem_cons_self; simp at this
  | a :: l, b :: m, h1, h2, h => by
    rw [List.pairwise_cons] at h1 h2
    have e : a = b := by
      rcases List.mem_cons.mp ((h a).mp List.mem_cons_self) with z | z
      · exact z
      · rcases List.mem_cons.mp ((h b).mpr List.mem_cons_self) with w | w
        · exact w.symm
        · have := h1.1 b w; have := h2.1 a z; omega
    subst e
    rw [inc_ext h1.2 h2.2 fun x => ⟨fun hx => ?_, fun hx => ?_⟩]
    · rcases List.mem_cons.mp ((h x).mp (List.mem_cons_of_mem _ hx)) with z | z
      · have := h1.1 x hx; omega
      · exact z
    · rcases List.mem_cons.mp ((h x).mpr (List.mem_cons_of_mem _ hx)) with z | z
      · have := h2.1 x hx; omega
      · exact z
theorem range_inc (n : Nat) : (List.range n).Pairwise (· < ·) := List.pairwise_lt_range
noncomputable def nmI (ns : List Str) (i : Nat) : Str := ns.getD i ""
theorem nmI_get {ns : List Str} {i : Nat} (h : i < ns.length) : ns[i]? = some (nmI ns i) := by
  unfold nmI
  rw [List.getD_eq_getElem?_getD, List.getElem?_eq_getElem h]
  rfl
theorem nmI_inj {ns : List Str} (hnd : ns.Nodup) {i j : Nat} (hi : i < ns.length) (hj : j < ns.length) (h : nmI ns i = nmI ns j) : i = j :=
  (List.getElem?_inj hi hnd).mp (by rw [nmI_get hi, nmI_get hj, h])
theorem ns_range (ns : List Str) : ns = (List.range ns.length).map (nmI ns) := by
  apply List.ext_getElem?
  intro i
  rw [List.getElem?_map]
  by_cases h : i < ns.length
  · rw [List.getElem?_range h, nmI_get h]; rfl
  · rw [List.getElem?_eq_none (by omega), List.getElem?_eq_none (by rw [List.length_range]; omega)]; rfl
structure Rgs (N : Nat) (rgs : List (List Nat)) : Prop where
  mem : ∀ q ∈ rgs, ∀ i ∈ q, i < N
  all : ∀ i, i < N → ∃ q ∈ rgs, i ∈ q
  one : ∀ (k k' : Nat) (q q' : List Nat) (i : Nat), rgs[k]? = some q → rgs[k']? = some q' → i ∈ q → i ∈ q' → k = k'
noncomputable def rOf (rgs : List (List Nat)) (i : Nat) : Nat := rgs.findIdx fun q => decide (i ∈ q)
theorem Rgs.at {N : Nat} {rgs : List (List Nat)} (R : Rgs N rgs) {k i : Nat} {q : List Nat} (h : rgs[k]? = some q) (hi : i ∈ q) : rOf rgs i = k := by
  have hk : k < rgs.length := (List.getElem?_eq_some_iff.mp h).1
  have hlt : rOf rgs i < rgs.length := by
    unfold rOf
    rw [List.findIdx_lt_length]
    exact ⟨q, List.mem_of_getElem? h, decide_eq_true hi⟩
  have hin : i ∈ rgs[rOf rgs i] := of_decide_eq_true (List.findIdx_getElem (w := hlt))
  exact R.one _ _ _ _ i (List.getElem?_eq_getElem hlt) h hin hi
theorem Rgs.iff {N : Nat} {rgs : List (List Nat)} (R : Rgs N rgs) {k j : Nat} {q : List Nat} (h : rgs[k]? = some q) (hj : j < N) : j ∈ q ↔ rOf rgs j = k := by
  constructor
  · exact R.at h
  · intro e
    obtain ⟨q', hq', hj'⟩ := R.all j hj
    obtain ⟨k', hk'⟩ := List.getElem?_of_mem hq'
    have := R.at hk' hj'
    rw [e] at this
    subst this
    rw [h] at hk'
    cases hk'
    exact hj'
structure Tng (ns : List Str) (rgs : List (List Nat)) (g : Str → List Str) : Prop where
  nd : ns.Nodup
  rg : Rgs ns.length rgs
  cl : ∀ n ∈ ns, ∀ m ∈ g n, m ∈ ns
  nx : ∀ q ∈ rgs, ∀ k, k < q.length → nmI ns (q.getD ((k + 1) % q.length) 0) ∈ g (nmI ns (q.getD k 0))
  up : ∀ i j, i < ns.length → j < ns.length → nmI ns j ∈ g (nmI ns i) → rOf rgs i ≤ rOf rgs j
section
variable {ns : List Str} {rgs : List (List Nat)} {g : Str → List Str}
theorem Tng.lev (t : Tng ns rgs g) {i : Nat} (hi : i < ns.length) {m : Str} (h : Rch (fun a b => b ∈ g a) [nmI ns i] m) : ∃ j, j < ns.length ∧ m = nmI ns j ∧ rOf rgs i ≤ rOf rgs j := by
  induction h with
  | base hm => exact ⟨i, hi, List.mem_singleton.mp hm, Nat.le_refl _⟩
  | step _ e ih =>
    obtain ⟨j, hj, rfl, hle⟩ := ih
    rename_i m' _
    obtain ⟨k, hk⟩ := List.getElem?_of_mem (t.cl _ (List.mem_of_getElem? (nmI_get hj)) _ e)
    have hkl := (List.getElem?_eq_some_iff.mp hk).1
    rw [nmI_get hkl] at hk
    cases hk
    exact ⟨k, hkl, rfl, Nat.le_trans hle (t.up j k hj hkl e)⟩
theorem Tng.round (t : Tng ns rgs g) {q : List Nat} (hq : q ∈ rgs) {p : Nat} (hp : p < q.length) : ∀ d, Rch (fun a b => b ∈ g a) [nmI ns (q.getD p 0)] (nmI ns (q.getD ((p + d) % q.length) 0))
  | 0 => by
    rw [Nat.add_zero, Nat.mod_eq_of_lt hp]
    exact .base (List.mem_singleton.mpr rfl)
  | d + 1 => by
    have h1 := t.round hq hp d
    have hl : (p + d) % q.length < q.length := Nat.mod_lt _ (by omega)
    have h2 := t.nx q hq _ hl
    rw [Nat.mod_add_mod, Nat.add_assoc] at h2
    exact .step h1 h2
theorem Tng.same (t : Tng ns rgs g) {i j : Nat} (hi : i < ns.length) (hj : j < ns.length) : (rB g (nmI ns i) (nmI ns j) && rB g (nmI ns j) (nmI ns i)) = decide (rOf rgs j = rOf rgs i) := by
  have fw : ∀ {i j : Nat}, i < ns.length → j < ns.length → rOf rgs j = rOf rgs i → Rch (fun a b => b ∈ g a) [nmI ns i] (nmI ns j) := fun {i j} hi hj e => by
    obtain ⟨q, hq, hiq⟩ := t.rg.all i hi
    obtain ⟨k, hk⟩ := List.getElem?_of_mem hq
    have hjq : j ∈ q := (t.rg.iff hk hj).mpr (by rw [e]; exact t.rg.at hk hiq)
    obtain ⟨a, ha⟩ := List.getElem?_of_mem hiq
    obtain ⟨b, hb⟩ := List.getElem?_of_mem hjq
    have hal := (List.getElem?_eq_some_iff.mp ha).1
    have hbl := (List.getElem?_eq_some_iff.mp hb).1
    have := t.round hq hal (b + q.length - a)
    rw [show a + (b + q.length - a) = b + q.length by omega, Nat.add_mod_right, Nat.mod_eq_of_lt hbl] at this
    rw [List.getD_eq_getElem?_getD, List.getD_eq_getElem?_getD, ha, hb] at this
    exact this
  by_cases e : rOf rgs j = rOf rgs i
  · rw [decide_eq_true e, rB_iff.mpr (fw hi hj e), rB_iff.mpr (fw hj hi e.symm)]
    rfl
  · rw [decide_eq_false e, Bool.and_eq_false_iff]
    rcases Nat.lt_or_gt_of_ne e with z | z
    · refine .inl (Bool.eq_false_iff.mpr fun h => ?_)
      obtain ⟨j', hj', ej, hle⟩ := t.lev hi (rB_iff.mp h)
      have := nmI_inj t.nd hj hj' ej
      subst this
      omega
    · refine .inr (Bool.eq_false_iff.mpr fun h => ?_)
      obtain ⟨i', hi', ei, hle⟩ := t.lev hj (rB_iff.mp h)
      have := nmI_inj t.nd hi hi' ei
      subst this
      omega
theorem Tng.knot (t : Tng ns rgs g) {i : Nat} (hi : i < ns.length) : knotOf g ns (nmI ns i) = ((List.range ns.length).filter fun j => decide (rOf rgs j = rOf rgs i)).map (nmI ns) := by
  unfold knotOf
  have e : ∀ p : Str → Bool, ns.filter p = ((List.range ns.length).filter (p ∘ nmI ns)).map (nmI ns) := fun p => by
    have h1 := congrArg (List.filter p) (ns_range ns)
    rw [h1, List.filter_map]
  rw [e]
  congr 1
  refine List.filter_congr fun j hj => ?_
  exact t.same hi (List.mem_range.mp hj)
structure Srt (rgs rs : List (List Nat)) : Prop where
  inc : ∀ r ∈ rs, r.Pairwise (· < ·)
  hds : (rs.map fun r => r.getD 0 0).Pairwise (· < ·)
  fro : ∀ r ∈ rs, ∃ (k : Nat) (q : List Nat), rgs[k]? = some q ∧ r.Perm q ∧ r ≠ []
  tow : ∀ q ∈ rgs, ∃ r ∈ rs, r.Perm q
theorem Tng.ring (t : Tng ns rgs g) {rs : List (List Nat)} (s : Srt rgs rs) {r : List Nat} (hr : r ∈ rs) {i : Nat} (hi : i ∈ r) : i < ns.length ∧ ((List.range ns.length).filter fun j => decide (rOf rgs j = rOf rgs i)) = r := by
  obtain ⟨k, q, hk, hp, _⟩ := s.fro r hr
  have hiq := hp.mem_iff.mp hi
  have hiN := t.rg.mem q (List.mem_of_getElem? hk) i hiq
  have hik := t.rg.at hk hiq
  refine ⟨hiN, inc_ext ((range_inc _).filter _) (s.inc r hr) fun x => ?_⟩
  rw [List.mem_filter, List.mem_range, decide_eq_true_eq, hik]
  constructor
  · rintro ⟨h1, h2⟩
    exact hp.mem_iff.mpr ((t.rg.iff hk h1).mpr h2)
  · intro hx
    have := hp.mem_iff.mp hx
    exact ⟨t.rg.mem q (List.mem_of_getElem? hk) x this, t.rg.at hk this⟩
theorem Tng.knots (t : Tng ns rgs g) {rs : List (List Nat)} (s : Srt rgs rs) : knotsOf g ns ns = rs.map fun r => r.map (nmI ns) := by
  have hne : ∀ r ∈ rs, ∃ h tl, r = h :: tl := fun r hr => by
    obtain ⟨_, _, _, _, hn⟩ := s.fro r hr
    cases r with
    | nil => exact absurd rfl hn
    | cons h tl => exact ⟨h, tl, rfl⟩
  have fst : ∀ {i : Nat} {r : List Nat}, r ∈ rs → i ∈ r → firstIn g ns (nmI ns i) = decide (r.getD 0 0 = i) := fun {i r} hr hi => by
    obtain ⟨hiN, e⟩ := t.ring s hr hi
    unfold firstIn
    rw [t.knot hiN, e]
    obtain ⟨h, tl, rfl⟩ := hne r hr
    have hh := (t.ring s hr (List.mem_cons_self (a := h) (l := tl))).1
    rw [decide_eq_decide]
    show some (nmI ns h) = some (nmI ns i) ↔ h = i
    constructor
    · exact fun z => nmI_inj t.nd hh hiN (Option.some.inj z)
    · exact fun z => by rw [z]
  have loc : ∀ i, i < ns.length → ∃ r ∈ rs, i ∈ r := fun i hi => by
    obtain ⟨q, hq, hiq⟩ := t.rg.all i hi
    obtain ⟨r, hr, hp⟩ := s.tow q hq
    exact ⟨r, hr, hp.mem_iff.mpr hiq⟩
  have hd : (List.range ns.length).filter (firstIn g ns ∘ nmI ns) = rs.map fun r => r.getD 0 0 := by
    refine inc_ext ((range_inc _).filter _) s.hds fun x => ?_
    rw [List.mem_filter, List.mem_range, List.mem_map]
    constructor
    · rintro ⟨hx, hf⟩
      obtain ⟨r, hr, hxr⟩ := loc x hx
      refine ⟨r, hr, ?_⟩
      have hf' : firstIn g ns (nmI ns x) = true := hf
      rw [fst hr hxr] at hf'
      exact of_decide_eq_true hf'
    · rintro ⟨r, hr, rfl⟩
      obtain ⟨h, tl, rfl⟩ := hne r hr
      refine ⟨(t.ring s hr (List.mem_cons_self (a := h) (l := tl))).1, ?_⟩
      show firstIn g ns (nmI ns h) = true
      rw [fst hr List.mem_cons_self]
      exact decide_eq_true rfl
  unfold knotsOf
  have e1 : ns.filter (firstIn g ns) = ((List.range ns.length).filter (firstIn g ns ∘ nmI ns)).map (nmI ns) := by
    have h1 := congrArg (List.filter (firstIn g ns)) (ns_range ns)
    rw [h1, List.filter_map]
  rw [e1, hd, List.map_map, List.map_map]
  refine List.map_congr_left fun r hr => ?_
  obtain ⟨h, tl, rfl⟩ := hne r hr
  obtain ⟨hh, e⟩ := t.ring s hr (List.mem_cons_self (a := h) (l := tl))
  show knotOf g ns (nmI ns h) = _
  rw [t.knot hh, e]
end
theorem mod_in {i n : Int} (h : 0 < n) : 0 ≤ i % n ∧ i % n < n := ⟨Int.emod_nonneg _ (by omega), Int.emod_lt_of_pos _ h⟩
theorem seq_ifJ {t : TT} {B R : TS} {D : Ends} {σ : L2.St} {H : Hp} (C : Bool → Hp → Prop) (J : L2.St → Hp → Prop) (ht : ∀ Q : Bool → Hp → Prop, (∀ b H1, C b H1 → Q b H1) → t σ H Q) (h1 : ∀ H1, C true H1 → ∀ D' : Ends, (∀ σ' H', J σ' H' → D'.nx σ' H') → B D' σ H1) (h2 : ∀ H1, C false H1 → J σ H1) (hR : ∀ σ' H', J σ' H' → R D σ' H') : tSeq (tIfS t B tNext) R D σ H := by
  refine ht _ fun b H1 hc => ?_
  cases b with
  | true => exact iteT (h1 H1 hc _ fun σ' H' j => hR σ' H' j)
  | false => exact iteF (hR σ H1 (h2 H1 hc))
theorem sum_snoc (l : List Int) (z : Int) : (l ++ [z]).sum = l.sum + z := by rw [List.sum_append]; simp
noncomputable def spSizes (K : PySem.W.Frag) : Sp := fun vs H Q _ => ∃ (a : Addr) (sc : List Int), vs = [.ref a] ∧ SqL K H a (sc.map V.int) ∧ ∀ (l : Addr) (zs : List Int) (H' : Hp), Same H H' → H' l = some (.lst (zs.map V.int)) → 1 ≤ zs.length → zs.length ≤ 3 → (∀ z ∈ zs, 2 ≤ z ∧ z ≤ 12) → zs.sum ≤ 24 → Q (.ref l) H'
theorem ok_sizes (T : Txt K mg) : L2.Cl P w K mg base 2 "_law_sizes" ["_law_script"] (spSizes K) := by
  have C_law_cell_at := ok_cell (P := P) (w := w) (base := base) T
  refine Cl.of T.d_law_sizes sc_law_sizes (fun vs H Q E h => ?_) (fun _ _ _ _ _ _ us hl => by obtain ⟨a, rfl⟩ := len1 hl; rfl) (fun f cdv A outer s H vs Q E hr h => ?_)
  · obtain ⟨a, sc, rfl, _⟩ := h
    rfl
  · obtain ⟨a, sc, rfl, hS, q⟩ := h
    refine ⟨_, (@pss_cons _ _ _ _ _ (@ps_set _ _ (1) _ _ _ _ sc_law_sizes.nd rfl (Or.inl rfl) (@pe_lst _ _ _ _ (@pa_nil _)) (by rfl) (by first   | exact .inl rfl   | exact .inr rfl   | assumption)) (@pss_cons _ _ _ _ _ (@ps_for _ _ _ _ _ _ _ _ PassesOwn.never rfl (@pi_range1 _ _ _ _ _ _ (by rfl) T.n_range (@pa_cons _ _ _ _ _ (@pe_op _ _ _ _ _ _ _ _ (@op_add _) (@pe_int _ _ _ _) (@pe_op _ _ _ _ _ _ _ _ (@op_mod _) (@pe_fn _ _ _ _ _ _ _ _ _ _ _ C_law_cell_at hr (by rfl) (@pa_cons _ _ _ _ _ (@pv _ 0 _ _ (by rfl) (by first   | exact Or.inl rfl   | exact Or.inr (Or.inl rfl)   | exact Or.inr (Or.inr rfl)) (by decide) (by decide)) (@pa_cons _ _ _ _ _ (@pe_int _ _ _ _) (@pa_nil _) (by rfl)) (by rfl)) (by decide) (by decide) (by rfl) (by rfl)) (@pe_int _ _ _ _))) (@pa_nil _) (by rfl)) (by rfl)) (@pg_name _ _ (2) _ sc_law_sizes.nd rfl (Or.inl rfl) (by first   | exact .inl rfl   | exact .inr rfl   | assumption)) (@pss_cons _ _ _ _ _ (@ps_set _ _ (3) _ _ _ _ sc_law_sizes.nd rfl (Or.inl rfl) (@pe_op _ _ _ _ _ _ _ _ (@op_add _) (@pe_int _ _ _ _) (@pe_op _ _ _ _ _ _ _ _ (@op_mod _) (@pe_op _ _ _ _ _ _ _ _ (@op_fdiv _) (@pe_fn _ _ _ _ _ _ _ _ _ _ _ C_law_cell_at hr (by rfl) (@pa_cons _ _ _ _ _ (@pv _ 0 _ _ (by rfl) (by first   | exact Or.inl rfl   | exact Or.inr (Or.inl rfl)   | exact Or.inr (Or.inr rfl)) (by decide) (by decide)) (@pa_cons _ _ _ _ _ (@pe_op _ _ _ _ _ _ _ _ (@op_add _) (@pe_int _ _ _ _) (@pv _ 2 _ _ (by rfl) (by first   | exact Or.inl rfl   | exact Or.inr (Or.inl rfl)   | exact Or.inr (Or.inr rfl)) (by decide) (by decide))) (@pa_nil _) (by rfl)) (by rfl)) (by decide) (by decide) (by rfl) (by rfl)) (@pe_int _ _ _ _)) (@pe_int _ _ _ _))) (by rfl) (by first   | exact .inl rfl   | exact .inr rfl   | assumption)) (@pss_cons _ _ _ _ _ (@ps_if _ _ _ _ _ _ _ _ (@pt_cmpR _ _ _ _ _ _ _ _ (@op_eq _) (@pe_op _ _ _ _ _ _ _ _ (@op_mod _) (@pe_fn _ _ _ _ _ _ _ _ _ _ _ C_law_cell_at hr (by rfl) (@pa_cons _ _ _ _ _ (@pv _ 0 _ _ (by rfl) (by first   | exact Or.inl rfl   | exact Or.inr (Or.inl rfl)   | exact Or.inr (Or.inr rfl)) (by decide) (by decide)) (@pa_cons _ _ _ _ _ (@pe_op _ _ _ _ _ _ _ _ (@op_add _) (@pe_int _ _ _ _) (@pv _ 2 _ _ (by rfl) (by first   | exact Or.inl rfl   | exact Or.inr (Or.inl rfl)   | exact Or.inr (Or.inr rfl)) (by decide) (by decide))) (@pa_nil _) (by rfl)) (by rfl)) (by decide) (by decide) (by rfl) (by rfl)) (@pe_int _ _ _ _)) (@pe_int _ _ _ _) (nomark _)) (@pss_one _ _ _ (@ps_set _ _ (3) _ _ _ _ sc_law_sizes.nd rfl (Or.inl rfl) (@pe_op _ _ _ _ _ _ _ _ (@op_add _) (@pe_int _ _ _ _) (@pe_op _ _ _ _ _ _ _ _ (@op_mod _) (@pe_op _ _ _ _ _ _ _ _ (@op_fdiv _) (@pe_fn _ _ _ _ _ _ _ _ _ _ _ C_law_cell_at hr (by rfl) (@pa_cons _ _ _ _ _ (@pv _ 0 _ _ (by rfl) (by first   | exact Or.inl rfl   | exact Or.inr (Or.inl rfl)   | exact Or.inr (Or.inr rfl)) (by decide) (by decide)) (@pa_cons _ _ _ _ _ (@pe_op _ _ _ _ _ _ _ _ (@op_add _) (@pe_int _ _ _ _) (@pv _ 2 _ _ (by rfl) (by first   | exact Or.inl rfl   | exact Or.inr (Or.inl rfl)   | exact Or.inr (Or.inr rfl)) (by decide) (by decide))) (@pa_nil _) (by rfl)) (by rfl)) (by decide) (by decide) (by rfl) (by rfl)) (@pe_int _ _ _ _)) (@pe_int _ _ _ _))) (by rfl) (by first   | exact .inl rfl   | exact .inr rfl   | assumption))) (@pss_nil _)) (@pss_one _ _ _ (@ps_if _ _ _ _ _ _ _ _ (@pt_cmpR _ _ _ _ _ _ _ _ (@op_le _) (@pe_op _ _ _ _ _ _ _ _ (@op_add _) (@pe_callB _ _ _ _ _ _ _ _ _ (@call_sum _ rfl) (by rfl) T.n_sum boot_sum (@pa_cons _ _ _ _ _ (@pv _ 1 _ _ (by rfl) (by first   | exact Or.inl rfl   | exact Or.inr (Or.inl rfl)   | exact Or.inr (Or.inr rfl)) (by decide) (by decide)) (@pa_nil _) (by rfl)) (by decide) (by decide) (by rfl) (by rfl)) (@pv _ 3 _ _ (by rfl) (by first   | exact Or.inl rfl   | exact Or.inr (Or.inl rfl)   | exact Or.inr (Or.inr rfl)) (by decide) (by decide))) (@pe_int _ _ _ _) (nomark _)) (@pss_one _ _ _ (@ps_expr _ _ _ _ (@pe_bm _ _ _ _ _ _ _ _ _ _ _ _ PySem.F.plainAttrs_list PySem.F.slot_list_append PySem.F.type_list_append (@mt_append _) (@pv _ 1 _ _ (by rfl) (by first   | exact Or.inl rfl   | exact Or.inr (Or.inl rfl)   | exact Or.inr (Or.inr rfl)) (by decide) (by decide)) (@pa_cons _ _ _ _ _ (@pv _ 3 _ _ (by rfl) (by first   | exact Or.inl rfl   | exact Or.inr (Or.inl rfl)   | exact Or.inr (Or.inr rfl)) (by decide) (by decide)) (@pa_nil _) (by rfl)) (by rfl) (by rfl) (by rfl) (by rfl) (by rfl)) (by rfl))) (@pss_nil _))))) (by intro _; rfl)) (@pss_one _ _ _ (@ps_ret _ _ _ _ (@pv _ 1 _ _ (by rfl) (by first   | exact Or.inl rfl   | exact Or.inr (Or.inl rfl)   | exact Or.inr (Or.inr rfl)) (by decide) (by decide)))))), ?_⟩
    refine ⟨(by show 0 ≤ sizeLine; decide), fun L gL => ?_⟩
    have s1 : Same H (upd H L (.lst [])) := (Same.refl H).new gL
    refine ⟨_, rfl, a, sc, 1, rfl, s1.seq hS, by decide, fun c1 => ?_⟩
    have m3 := mod_in (i := c1) (n := 3) (by decide)
    refine ⟨_, _, rfl, rfl, (by show (0 : Int) < 3; decide), _, _, rfl, rfl, _, rfl, (by omega), (by omega), ?_⟩
    refine for_range (n := (1 + c1 % 3).toNat) (fun i σ H2 => ∃ (zs : List Int) (v2 v3 : Option V), σ = [some (.ref a), some (.ref L), v2, v3] ∧ Same H H2 ∧ H2 L = some (.lst (zs.map V.int)) ∧ zs.length ≤ i ∧ (0 < i → 1 ≤ zs.length) ∧ (∀ z ∈ zs, 2 ≤ z ∧ z ≤ 12) ∧ zs.sum ≤ 24) ⟨[], none, none, rfl, s1, upd_same, Nat.le_refl _, fun z => by omega, by simp, by simp⟩ ?_ ?_
    · rintro i σ H2 hi ⟨zs, v2, v3, rfl, s2, hL, hzl, hz1, hzb, hzs⟩
      refine ⟨_, rfl, _, rfl, _, _, rfl, rfl, a, sc, 2 + (0 + (i : Int)), rfl, s2.seq hS, by omega, fun c2 => ?_⟩
      have m11 := mod_in (i := c2 / 2) (n := 11) (by decide)
      refine ⟨_, _, rfl, rfl, ⟨by decide, by decide⟩, _, _, rfl, rfl, (by show (0 : Int) < 11; decide), _, _, rfl, rfl, ?_⟩
      refine to_g ?_
      refine seq_ifJ (fun b H3 => H3 = H2) (fun σ' H3 => ∃ z : Int, σ' = [some (.ref a), some (.ref L), some (.int (0 + (i : Int))), some (.int z)] ∧ H3 = H2 ∧ 2 ≤ z ∧ z ≤ 12) ?_ ?_ ?_ ?_
      · exact fun Q' h => ⟨_, rfl, _, rfl, _, _, rfl, rfl, a, sc, 2 + (0 + (i : Int)), rfl, s2.seq hS, by omega, fun c3 => ⟨_, _, rfl, rfl, (by show (0 : Int) < 2; decide), rfl, _, rfl, h _ _ rfl⟩⟩
      · rintro H3 rfl D' hJ
        refine ⟨_, rfl, _, rfl, _, _, rfl, rfl, a, sc, 2 + (0 + (i : Int)), rfl, s2.seq hS, by omega, fun c3 => ?_⟩
        have m4 := mod_in (i := c3 / 2) (n := 4) (by decide)
        exact ⟨_, _, rfl, rfl, ⟨by decide, by decide⟩, _, _, rfl, rfl, (by show (0 : Int) < 4; decide), _, _, rfl, rfl, hJ _ _ ⟨_, rfl, rfl, by omega, by omega⟩⟩
      · rintro H3 rfl
        exact ⟨_, rfl, rfl, by omega, by omega⟩
      · rintro σ' H3 ⟨z, rfl, rfl, hz2, hz12⟩
        refine ⟨_, rfl, L, zs, rfl, SqL.of hL, _, rfl, _, _, rfl, rfl, _, _, rfl, rfl, _, rfl, ?_⟩
        refine ite2 (fun hle => ?_) (fun hle => ?_)
        · have hle' := of_decide_eq_true hle
          refine ⟨_, rfl, .inl ⟨rfl, _, SqL.of hL⟩, _, rfl, L, _, _, rfl, rfl, hL, small1000 (by rw [List.length_map]; omega), ?_⟩
          refine ⟨zs ++ [z], _, _, rfl, s2.put gL, by rw [upd_same, List.map_append]; rfl, by rw [List.length_append]; simp; omega, fun _ => by rw [List.length_append]; simp, fun x hx => ?_, by rw [sum_snoc]; exact hle'⟩
          rcases List.mem_append.mp hx with w | w
          · exact hzb x w
          · rw [List.mem_singleton.mp w]; exact ⟨hz2, hz12⟩
        · have hle' : ¬ zs.sum + z ≤ 24 := fun w => hle (decide_eq_true w)
          refine ⟨zs, _, _, rfl, s2, hL, by omega, fun _ => ?_, hzb, hzs⟩
          cases zs with
          | nil => simp at hle'; omega
          | cons a t => simp
    · rintro σ H2 ⟨zs, v2, v3, rfl, s2, hL, hzl, hz1, hzb, hzs⟩
      exact ⟨_, rfl, q L zs H2 s2 hL (hz1 (by omega)) (by omega) hzb hzs⟩
noncomputable def LnAt (H : Hp) (v : V) (r : List Nat) : Prop := ∃ b, v = .ref b ∧ H b = some (.lst (natsV r))
noncomputable def spRings : Sp := fun vs H Q _ => ∃ (zl pl : Addr) (zs : List Int) (sp : List Nat), vs = [.ref zl, .ref pl] ∧ H zl = some (.lst (zs.map V.int)) ∧ H pl = some (.lst (natsV sp)) ∧ zs.length ≤ 3 ∧ (∀ z ∈ zs, 2 ≤ z ∧ z ≤ 12) ∧ zs.sum = (sp.length : Int) ∧ sp.length ≤ 24 ∧
  ∀ (l : Addr) (us : List V) (rgs : List (List Nat)) (H' : Hp), Same H H' → H' l = some (.lst us) → Paired (LnAt H') us rgs → rgs.flatten = sp → rgs.length = zs.length → (∀ q ∈ rgs, 2 ≤ q.length) → Q (.ref l) H'
theorem sum_take_le {zs : List Int} (h : ∀ z ∈ zs, 0 ≤ z) (i : Nat) : 0 ≤ (zs.take i).sum ∧ (zs.take i).sum ≤ zs.sum := by
  have pos : ∀ l : List Int, (∀ z ∈ l, 0 ≤ z) → 0 ≤ l.sum := fun l => by
    induction l with
    | nil => exact fun _ => by simp
    | cons a t ih =>
      intro h
      have h1 := h a List.mem_cons_self
      have h2 := ih fun z hz => h z (List.mem_cons_of_mem _ hz)
      simp; omega
  have e : (zs.take i).sum + (zs.drop i).sum = zs.sum := by rw [← List.sum_append, List.take_append_drop]
  have h1 := pos (zs.take i) fun z hz => h z (List.mem_of_mem_take hz)
  have h2 := pos (zs.drop i) fun z hz => h z (List.mem_of_mem_drop hz)
  omega
theorem paired_mem {α β : Type} {F G : α → β → Prop} : ∀ {xs : List α} {ys : List β}, Paired F xs ys → (∀ x y, x ∈ xs → F x y → G x y) → Paired G xs ys
  | _, _, .nil, _ => .nil
  | _, _, .cons h t, f => .cons (f _ _ List.mem_cons_self h) (paired_mem t fun x y hx => f x y (List.mem_cons_of_mem _ hx))
theorem cut_midN (xs : List V) (i j : Nat) (hij : i ≤ j) (hj : j ≤ xs.length) : cutV xs (some (i : Int)) (some (j : Int)) = (xs.drop i).take (j - i) := by
  unfold cutV
  rw [HT.sIx_nat, HT.sIx_nat, Nat.min_eq_left hj, Nat.min_eq_left (Nat.le_trans hij hj)]
theorem ok_rings (T : Txt K mg) : L2.Cl P w K mg base 1 "_law_rings" ["_law_sizes_here", "_law_spots"] spRings := by
  refine Cl.of T.d_law_rings sc_law_rings (fun vs H Q E h => ?_) (fun _ _ _ _ _ _ us hl => by obtain ⟨a, b, rfl⟩ := len2 hl; rfl) (fun f cdv A outer s H vs Q E hr h => ?_)
  · obtain ⟨zl, pl, zs, sp, rfl, _⟩ := h
    rfl
  · obtain ⟨zl, pl, zs, sp, rfl, hzl, hpl, hz3, hzb, hsum, h24, q⟩ := h
    have hnn : ∀ z ∈ zs, 0 ≤ z := fun z hz => by have := hzb z hz; omega
    refine ⟨_, (@pss_cons _ _ _ _ _ (@ps_set _ _ (2) _ _ _ _ sc_law_rings.nd rfl (Or.inl rfl) (@pe_lst _ _ _ _ (@pa_nil _)) (by rfl) (by first   | exact .inl rfl   | exact .inr rfl   | assumption)) (@pss_cons _ _ _ _ _ (@ps_set _ _ (3) _ _ _ _ sc_law_rings.nd rfl (Or.inl rfl) (@pe_int _ _ _ _) (by rfl) (by first   | exact .inl rfl   | exact .inr rfl   | assumption)) (@pss_cons _ _ _ _ _ (@ps_for _ _ _ _ _ _ _ _ PassesOwn.never rfl (@pi_list _ _ _ _ (@pv _ 0 _ _ (by rfl) (by first   | exact Or.inl rfl   | exact Or.inr (Or.inl rfl)   | exact Or.inr (Or.inr rfl)) (by decide) (by decide))) (@pg_name _ _ (4) _ sc_law_rings.nd rfl (Or.inl rfl) (by first   | exact .inl rfl   | exact .inr rfl   | assumption)) (@pss_cons _ _ _ _ _ (@ps_expr _ _ _ _ (@pe_bm _ _ _ _ _ _ _ _ _ _ _ _ PySem.F.plainAttrs_list PySem.F.slot_list_append PySem.F.type_list_append (@mt_append _) (@pv _ 2 _ _ (by rfl) (by first   | exact Or.inl rfl   | exact Or.inr (Or.inl rfl)   | exact Or.inr (Or.inr rfl)) (by decide) (by decide)) (@pa_cons _ _ _ _ _ (@pe_slice _ _ _ _ _ _ _ _ _ _ sl_list (@pv _ 1 _ _ (by rfl) (by first   | exact Or.inl rfl   | exact Or.inr (Or.inl rfl)   | exact Or.inr (Or.inr rfl)) (by decide) (by decide)) (@po_some _ _ _ (@pv _ 3 _ _ (by rfl) (by first   | exact Or.inl rfl   | exact Or.inr (Or.inl rfl)   | exact Or.inr (Or.inr rfl)) (by decide) (by decide))) (@po_some _ _ _ (@pe_op _ _ _ _ _ _ _ _ (@op_add _) (@pv _ 3 _ _ (by rfl) (by first   | exact Or.inl rfl   | exact Or.inr (Or.inl rfl)   | exact Or.inr (Or.inr rfl)) (by decide) (by decide)) (@pv _ 4 _ _ (by rfl) (by first   | exact Or.inl rfl   | exact Or.inr (Or.inl rfl)   | exact Or.inr (Or.inr rfl)) (by decide) (by decide))))) (@pa_nil _) (by rfl)) (by rfl) (by rfl) (by rfl) (by rfl) (by rfl)) (by rfl)) (@pss_one _ _ _ (@ps_set _ _ (3) _ _ _ _ sc_law_rings.nd rfl (Or.inl rfl) (@pe_op _ _ _ _ _ _ _ _ (@op_add _) (@pv _ 3 _ _ (by rfl) (by first   | exact Or.inl rfl   | exact Or.inr (Or.inl rfl)   | exact Or.inr (Or.inr rfl)) (by decide) (by decide)) (@pv _ 4 _ _ (by rfl) (by first   | exact Or.inl rfl   | exact Or.inr (Or.inl rfl)   | exact Or.inr (Or.inr rfl)) (by decide) (by decide))) (by rfl) (by first   | exact .inl rfl   | exact .inr rfl   | assumption)))) (by intro _; rfl)) (@pss_one _ _ _ (@ps_ret _ _ _ _ (@pv _ 2 _ _ (by rfl) (by first   | exact Or.inl rfl   | exact Or.inr (Or.inl rfl)   | exact Or.inr (Or.inr rfl)) (by decide) (by decide))))))), ?_⟩
    refine ⟨(by show 0 ≤ sizeLine; decide), fun L gL => ?_⟩
    have s1 : Same H (upd H L (.lst [])) := (Same.refl H).new gL
    refine ⟨_, rfl, zl, rfl, ⟨_, SqL.of (s1 _ _ hzl)⟩, ?_⟩
    refine for_list (K := K) (a := zl) (xs := zs.map V.int) (fun i σ H2 => ∃ (us : List V) (rgs : List (List Nat)) (n : Nat) (v4 : Option V), σ = [some (.ref zl), some (.ref pl), some (.ref L), some (.int (n : Int)), v4] ∧ Same H H2 ∧ H2 L = some (.lst us) ∧ Paired (LnAt H2) us rgs ∧ rgs.flatten = sp.take n ∧ (n : Int) = (zs.take i).sum ∧ rgs.length = i ∧ ∀ q ∈ rgs, 2 ≤ q.length) ⟨[], [], 0, none, rfl, s1, upd_same, .nil, by simp, by simp, rfl, by simp⟩ (fun i σ H2 _ ⟨_, _, _, _, _, s2, _⟩ => SqL.of (s2 _ _ hzl)) ?_ ?_
    · rintro i x σ H2 hx ⟨us, rgs, n, v4, rfl, s2, hL, hus, hfl, hn, hrl, hq2⟩
      rw [List.getElem?_map] at hx
      obtain ⟨z, hz, rfl⟩ := Option.map_eq_some_iff.mp hx
      have hzz := hzb z (List.mem_of_getElem? hz)
      have hiz : i < zs.length := (List.getElem?_eq_some_iff.mp hz).1
      have hle := (sum_take_le hnn (i + 1)).2
      rw [take_succ_get hz, sum_snoc, ← hn, hsum] at hle
      have hpl2 := s2 _ _ hpl
      have hsl : (natsV sp).length = sp.length := by unfold natsV; rw [List.length_map]
      obtain ⟨zn, rfl⟩ : ∃ zn : Nat, z = (zn : Int) := ⟨z.toNat, by omega⟩
      refine ⟨_, rfl, .inl ⟨rfl, _, SqL.of hL⟩, _, rfl, _, rfl, _, rfl, _, rfl, _, rfl, _, _, rfl, rfl, _, rfl, pl, _, rfl, SqL.of hpl2, fun D gD => ?_⟩
      have ec : cutV (natsV sp) (some (n : Int)) (some ((n : Int) + (zn : Int))) = natsV ((sp.drop n).take zn) := by
        have e1 : ((n : Int) + (zn : Int)) = ((n + zn : Nat) : Int) := by omega
        rw [e1, cut_midN (natsV sp) n (n + zn) (by omega) (by rw [hsl]; omega), show n + zn - n = zn by omega]
        unfold natsV
        rw [List.map_take, List.map_drop]
      rw [ec]
      have hul := Paired.length hus
      have s3 : Same H2 (upd H2 D (.lst (natsV ((sp.drop n).take zn)))) := (Same.refl H2).new gD
      have hLD : L ≠ D := fun w => by rw [← w, hL] at gD; cases gD
      refine ⟨L, _, _, rfl, rfl, s3 _ _ hL, small1000 (by omega), ?_⟩
      have b4 : ∀ a o, a ≠ L → upd H2 D (.lst (natsV ((sp.drop n).take zn))) a = some o → upd (upd H2 D (.lst (natsV ((sp.drop n).take zn)))) L (.lst (us ++ [.ref D])) a = some o := fun a o ha h => by rw [upd_ne ha]; exact h
      have neL : ∀ v ∈ us, v ≠ .ref L := fun v hv e => by
        obtain ⟨k, hk⟩ := List.getElem?_of_mem hv
        obtain ⟨r, hr, b, eb, hb⟩ := Paired.get? hus hk
        rw [e] at eb
        cases eb
        rw [hL] at hb
        have e2 : us = natsV r := HO.lst.inj (Option.some.inj hb)
        rw [e2] at hk
        obtain ⟨m, _, em⟩ := natsV_get hk
        rw [e] at em
        cases em
      have hln : ((sp.drop n).take zn).length = zn := by rw [List.length_take, List.length_drop]; omega
      refine ⟨_, rfl, _, rfl, _, _, rfl, rfl, us ++ [.ref D], rgs ++ [(sp.drop n).take zn], n + zn, _, rfl, (s2.trans s3).put gL, upd_same, ?_, ?_, ?_, by rw [List.length_append, hrl]; rfl, fun q' hq' => ?_⟩
      · refine Paired.snoc (paired_mem hus fun v r hv hr => ?_) ⟨D, rfl, b4 _ _ hLD.symm upd_same⟩
        obtain ⟨b, rfl, hb⟩ := hr
        exact ⟨b, rfl, b4 _ _ (fun w => neL _ hv (by rw [w])) (s3 _ _ hb)⟩
      · rw [List.flatten_append, hfl]
        simp only [List.flatten_cons, List.flatten_nil, List.append_nil]
        rw [← List.take_add]
      · rw [take_succ_get hz, sum_snoc, ← hn]; omega
      · rcases List.mem_append.mp hq' with w | w
        · exact hq2 q' w
        · rw [List.mem_singleton.mp w, hln]; omega
    · rintro σ H2 ⟨us, rgs, n, v4, rfl, s2, hL, hus, hfl, hn, hrl, hq2⟩
      rw [List.length_map, List.take_length] at hn
      rw [List.length_map] at hrl
      refine ⟨_, rfl, q L us rgs H2 s2 hL hus ?_ hrl hq2⟩
      rw [hfl, List.take_of_length_le (by omega)]
structure Gk (ns : List Str) (rgs : List (List Nat)) (H0 : Hp) (R : Addr) (ra : List Addr) (rq : List (Nat × Nat)) (B : Nat) (H : Hp) : Prop where
  sm : Same H0 H
  hR : H R = some (.lst (ra.map V.ref))
  rw : ∀ (i : Nat) (b : Addr), ra[i]? = some b → ∃ vs rws, H b = some (.lst vs) ∧ RowsAt H vs rws ∧ rws.length ≤ B ∧ (∀ r ∈ rws, InN ns r) ∧ (∀ r ∈ rws, ∀ m, namesIt "bring" r = some m → ∃ j, j < ns.length ∧ nmI ns j = m ∧ rOf rgs i ≤ rOf rgs j) ∧ ∀ j, (i, j) ∈ rq → ∃ r ∈ rws, namesIt "bring" r = some (nmI ns j)
structure Ak (H0 : Hp) (R : Addr) (ra : List Addr) : Prop where
  nd : ra.Nodup
  fr : ∀ b ∈ ra, H0 b = none ∧ b ≠ R
theorem Gk.up {ns : List Str} {rgs : List (List Nat)} {H0 : Hp} {R : Addr} {ra : List Addr} {rq : List (Nat × Nat)} {B B' : Nat} {H H' : Hp} (g : Gk ns rgs H0 R ra rq B H) (s : Same H H') (hB : B ≤ B') : Gk ns rgs H0 R ra rq B' H' :=
  ⟨g.sm.trans s, s _ _ g.hR, fun i b hb => by
    obtain ⟨vs, rws, h1, h2, h3, h4⟩ := g.rw i b hb
    exact ⟨vs, rws, s _ _ h1, h2.mono s.tups, by omega, h4⟩⟩
theorem Gk.put {ns : List Str} {rgs : List (List Nat)} {H0 : Hp} {R : Addr} {ra : List Addr} {rq : List (Nat × Nat)} {B B' : Nat} {H : Hp} (g : Gk ns rgs H0 R ra rq B H) (a : Ak H0 R ra) {i : Nat} {b x : Addr} (hb : ra[i]? = some b) {vs : List V} {rws : List Rw} {rw : Rw} (hv : H b = some (.lst vs)) (hrs : RowsAt H vs rws) (hlt : rws.length < B') (hle : B ≤ B') (hin : ∀ r ∈ rws, InN ns r) (hup : ∀ r ∈ rws, ∀ m, namesIt "bring" r = some m → ∃ j, j < ns.length ∧ nmI ns j = m ∧ rOf rgs i ≤ rOf rgs j) (hrq : ∀ j, (i, j) ∈ rq → ∃ r ∈ rws, namesIt "bring" r = some (nmI ns j))
    (hx : RowAt H x rw) (hxin : InN ns rw) (hxup : ∀ m, namesIt "bring" rw = some m → ∃ j, j < ns.length ∧ nmI ns j = m ∧ rOf rgs i ≤ rOf rgs j) {more : List (Nat × Nat)} (hmore : ∀ p ∈ more, p.1 = i ∧ namesIt "bring" rw = some (nmI ns p.2)) :
    Gk ns rgs H0 R ra (rq ++ more) B' (upd H b (.lst (vs ++ [.ref x]))) := by
  have T := Tups.lst (ys := vs ++ [.ref x]) hv
  have hbm := List.mem_of_getElem? hb
  obtain ⟨f0, fR⟩ := a.fr b hbm
  refine ⟨g.sm.put f0, by rw [upd_ne fR.symm]; exact g.hR, fun i' c hc => ?_⟩
  by_cases e : i' = i
  · subst e
    rw [hb] at hc
    cases hc
    refine ⟨_, rws ++ [rw], upd_same, Paired.snoc (hrs.mono T) ⟨x, rfl, hx.mono T⟩, by rw [List.length_append]; simp; omega, fun r hr => ?_, fun r hr m hm => ?_, fun j hj => ?_⟩
    · rcases List.mem_append.mp hr with z | z
      · exact hin r z
      · rw [List.mem_singleton.mp z]; exact hxin
    · rcases List.mem_append.mp hr with z | z
      · exact hup r z m hm
      · rw [List.mem_singleton.mp z] at hm; exact hxup m hm
    · rcases List.mem_append.mp hj with z | z
      · obtain ⟨r, hr, e⟩ := hrq j z
        exact ⟨r, List.mem_append_left _ hr, e⟩
      · exact ⟨rw, List.mem_append_right _ (List.mem_singleton.mpr rfl), (hmore _ z).2⟩
  · have hcb : c ≠ b := fun z => by
      subst z
      exact e ((List.getElem?_inj (List.getElem?_eq_some_iff.mp hc).1 a.nd).mp (by rw [hc, hb]))
    obtain ⟨vs1, rws1, h1, h2, h3, h4, h5, h6⟩ := g.rw i' c hc
    refine ⟨vs1, rws1, by rw [upd_ne hcb]; exact h1, h2.mono T, by omega, h4, h5, fun j hj => ?_⟩
    rcases List.mem_append.mp hj with z | z
    · exact h6 j z
    · exact absurd (hmore _ z).1 e
noncomputable def spMore (K : PySem.W.Frag) : Sp := fun vs H Q _ => ∃ (a rl nl R : Addr) (sc : List Int) (us : List V) (ns : List Str) (rgs : List (List Nat)) (H0 : Hp) (ra : List Addr) (rq : List (Nat × Nat)), vs = [.ref a, .int 6, .ref rl, .ref nl, .ref R] ∧ SqL K H0 a (sc.map V.int) ∧ sc.length ≤ 63 ∧ H0 rl = some (.lst us) ∧ Paired (LnAt H0) us rgs ∧ 1 ≤ rgs.length ∧ rgs.length ≤ 3 ∧ (∀ q ∈ rgs, 2 ≤ q.length) ∧ H0 nl = some (.lst (ns.map V.str)) ∧ 1 ≤ ns.length ∧ ns.length ≤ 24 ∧ Rgs ns.length rgs ∧ ra.length = ns.length ∧ Ak H0 R ra ∧ Gk ns rgs H0 R ra rq 40 H ∧
  ∀ H' : Hp, Gk ns rgs H0 R ra rq 40 H' → Q .non H'
theorem atN {r : List Nat} {i : Int} (h0 : 0 ≤ i) (h1 : i < (r.length : Int)) : ∃ x ∈ r, atI (natsV r) i = some (.int (x : Int)) := by
  obtain ⟨v, hv, e⟩ := atI_mem (natsV r) h0 (by rw [natsV_len]; exact h1)
  unfold natsV at hv
  obtain ⟨x, hx, rfl⟩ := List.mem_map.mp hv
  exact ⟨x, hx, e⟩
theorem ok_more (T : Txt K mg) : L2.Cl P w K mg base 2 "_law_more" ["_law_script", "_law_first", "_law_rings_here", "_law_names_here", "_law_rows"] (spMore K) := by
  have C_law_mixed := ok_mixed (P := P) (w := w) (base := base) T
  refine Cl.of T.d_law_more sc_law_more (fun vs H Q E h => ?_) (fun _ _ _ _ _ _ us hl => match us, hl with | [_, _, _, _, _], _ => rfl) (fun f cdv A outer s H vs Q E hr h => ?_)
  · obtain ⟨a, rl, nl, R, sc, us, ns, rgs, H0, ra, rq, rfl, _⟩ := h
    rfl
  · obtain ⟨a, rl, nl, R, sc, us, ns, rgs, H0, ra, rq, rfl, hS, hsc, hrl, hus, hr1, hr3, hq2, hnl, hn1, hn24, RG, hra, ak, g0, q⟩ := h
    have hul := Paired.length hus
    refine ⟨_, (@pss_one _ _ _ (@ps_for _ _ _ _ _ _ _ _ PassesOwn.never rfl (@pi_range2 _ _ _ _ _ _ _ (by rfl) T.n_range (@pa_cons _ _ _ _ _ (@pv _ 1 _ _ (by rfl) (by first   | exact Or.inl rfl   | exact Or.inr (Or.inl rfl)   | exact Or.inr (Or.inr rfl)) (by decide) (by decide)) (@pa_cons _ _ _ _ _ (@pe_callB _ _ _ _ _ _ _ _ _ (@call_min2 _ rfl) (by rfl) T.n_min boot_min (@pa_cons _ _ _ _ _ (@pe_callB _ _ _ _ _ _ _ _ _ (@call_len_seq _) (by rfl) T.n_len PySem.boot_len (@pa_cons _ _ _ _ _ (@pv _ 0 _ _ (by rfl) (by first   | exact Or.inl rfl   | exact Or.inr (Or.inl rfl)   | exact Or.inr (Or.inr rfl)) (by decide) (by decide)) (@pa_nil _) (by rfl)) (by decide) (by decide) (by rfl) (by rfl)) (@pa_cons _ _ _ _ _ (@pe_int _ _ _ _) (@pa_nil _) (by rfl)) (by rfl)) (by decide) (by decide) (by rfl) (by rfl)) (@pa_nil _) (by rfl)) (by rfl)) (by rfl) (by rfl)) (@pg_name _ _ (5) _ sc_law_more.nd rfl (Or.inl rfl) (by first   | exact .inl rfl   | exact .inr rfl   | assumption)) (@pss_cons _ _ _ _ _ (@ps_set _ _ (6) _ _ _ _ sc_law_more.nd rfl (Or.inl rfl) (@pe_op _ _ _ _ _ _ _ _ (@op_mod _) (@pe_ix _ _ _ _ _ _ _ (@ix_list _) (@pv _ 0 _ _ (by rfl) (by first   | exact Or.inl rfl   | exact Or.inr (Or.inl rfl)   | exact Or.inr (Or.inr rfl)) (by decide) (by decide)) (@pv _ 5 _ _ (by rfl) (by first   | exact Or.inl rfl   | exact Or.inr (Or.inl rfl)   | exact Or.inr (Or.inr rfl)) (by decide) (by decide)) (fun _ _ => rfl)) (@pe_callB _ _ _ _ _ _ _ _ _ (@call_len_seq _) (by rfl) T.n_len PySem.boot_len (@pa_cons _ _ _ _ _ (@pv _ 2 _ _ (by rfl) (by first   | exact Or.inl rfl   | exact Or.inr (Or.inl rfl)   | exact Or.inr (Or.inr rfl)) (by decide) (by decide)) (@pa_nil _) (by rfl)) (by decide) (by decide) (by rfl) (by rfl))) (by rfl) (by first   | exact .inl rfl   | exact .inr rfl   | assumption)) (@pss_cons _ _ _ _ _ (@ps_set _ _ (7) _ _ _ _ sc_law_more.nd rfl (Or.inl rfl) (@pe_ix _ _ _ _ _ _ _ (@ix_list _) (@pv _ 2 _ _ (by rfl) (by first   | exact Or.inl rfl   | exact Or.inr (Or.inl rfl)   | exact Or.inr (Or.inr rfl)) (by decide) (by decide)) (@pv _ 6 _ _ (by rfl) (by first   | exact Or.inl rfl   | exact Or.inr (Or.inl rfl)   | exact Or.inr (Or.inr rfl)) (by decide) (by decide)) (fun _ _ => rfl)) (by rfl) (by first   | exact .inl rfl   | exact .inr rfl   | assumption)) (@pss_cons _ _ _ _ _ (@ps_set _ _ (8) _ _ _ _ sc_law_more.nd rfl (Or.inl rfl) (@pe_ix _ _ _ _ _ _ _ (@ix_list _) (@pv _ 7 _ _ (by rfl) (by first   | exact Or.inl rfl   | exact Or.inr (Or.inl rfl)   | exact Or.inr (Or.inr rfl)) (by decide) (by decide)) (@pe_op _ _ _ _ _ _ _ _ (@op_mod _) (@pe_fn _ _ _ _ _ _ _ _ _ _ _ C_law_mixed hr (by rfl) (@pa_cons _ _ _ _ _ (@pe_ix _ _ _ _ _ _ _ (@ix_list _) (@pv _ 0 _ _ (by rfl) (by first   | exact Or.inl rfl   | exact Or.inr (Or.inl rfl)   | exact Or.inr (Or.inr rfl)) (by decide) (by decide)) (@pv _ 5 _ _ (by rfl) (by first   | exact Or.inl rfl   | exact Or.inr (Or.inl rfl)   | exact Or.inr (Or.inr rfl)) (by decide) (by decide)) (fun _ _ => rfl)) (@pa_cons _ _ _ _ _ (@pv _ 5 _ _ (by rfl) (by first   | exact Or.inl rfl   | exact Or.inr (Or.inl rfl)   | exact Or.inr (Or.inr rfl)) (by decide) (by decide)) (@pa_cons _ _ _ _ _ (@pe_int _ _ _ _) (@pa_nil _) (by rfl)) (by rfl)) (by rfl)) (by decide) (by decide) (by rfl) (by rfl)) (@pe_callB _ _ _ _ _ _ _ _ _ (@call_len_seq _) (by rfl) T.n_len PySem.boot_len (@pa_cons _ _ _ _ _ (@pv _ 7 _ _ (by rfl) (by first   | exact Or.inl rfl   | exact Or.inr (Or.inl rfl)   | exact Or.inr (Or.inr rfl)) (by decide) (by decide)) (@pa_nil _) (by rfl)) (by decide) (by decide) (by rfl) (by rfl))) (fun _ _ => rfl)) (by rfl) (by first   | exact .inl rfl   | exact .inr rfl   | assumption)) (@pss_cons _ _ _ _ _ (@ps_set _ _ (9) _ _ _ _ sc_law_more.nd rfl (Or.inl rfl) (@pe_ix _ _ _ _ _ _ _ (@ix_list _) (@pv _ 2 _ _ (by rfl) (by first   | exact Or.inl rfl   | exact Or.inr (Or.inl rfl)   | exact Or.inr (Or.inr rfl)) (by decide) (by decide)) (@pe_op _ _ _ _ _ _ _ _ (@op_add _) (@pv _ 6 _ _ (by rfl) (by first   | exact Or.inl rfl   | exact Or.inr (Or.inl rfl)   | exact Or.inr (Or.inr rfl)) (by decide) (by decide)) (@pe_op _ _ _ _ _ _ _ _ (@op_mod _) (@pe_op _ _ _ _ _ _ _ _ (@op_fdiv _) (@pe_ix _ _ _ _ _ _ _ (@ix_list _) (@pv _ 0 _ _ (by rfl) (by first   | exact Or.inl rfl   | exact Or.inr (Or.inl rfl)   | exact Or.inr (Or.inr rfl)) (by decide) (by decide)) (@pv _ 5 _ _ (by rfl) (by first   | exact Or.inl rfl   | exact Or.inr (Or.inl rfl)   | exact Or.inr (Or.inr rfl)) (by decide) (by decide)) (fun _ _ => rfl)) (@pe_int _ _ _ _)) (@pe_op _ _ _ _ _ _ _ _ (@op_sub _) (@pe_callB _ _ _ _ _ _ _ _ _ (@call_len_seq _) (by rfl) T.n_len PySem.boot_len (@pa_cons _ _ _ _ _ (@pv _ 2 _ _ (by rfl) (by first   | exact Or.inl rfl   | exact Or.inr (Or.inl rfl)   | exact Or.inr (Or.inr rfl)) (by decide) (by decide)) (@pa_nil _) (by rfl)) (by decide) (by decide) (by rfl) (by rfl)) (@pv _ 6 _ _ (by rfl) (by first   | exact Or.inl rfl   | exact Or.inr (Or.inl rfl)   | exact Or.inr (Or.inr rfl)) (by decide) (by decide))))) (fun _ _ => rfl)) (by rfl) (by first   | exact .inl rfl   | exact .inr rfl   | assumption)) (@pss_cons _ _ _ _ _ (@ps_set _ _ (10) _ _ _ _ sc_law_more.nd rfl (Or.inl rfl) (@pe_ix _ _ _ _ _ _ _ (@ix_list _) (@pv _ 9 _ _ (by rfl) (by first   | exact Or.inl rfl   | exact Or.inr (Or.inl rfl)   | exact Or.inr (Or.inr rfl)) (by decide) (by decide)) (@pe_op _ _ _ _ _ _ _ _ (@op_mod _) (@pe_fn _ _ _ _ _ _ _ _ _ _ _ C_law_mixed hr (by rfl) (@pa_cons _ _ _ _ _ (@pe_ix _ _ _ _ _ _ _ (@ix_list _) (@pv _ 0 _ _ (by rfl) (by first   | exact Or.inl rfl   | exact Or.inr (Or.inl rfl)   | exact Or.inr (Or.inr rfl)) (by decide) (by decide)) (@pv _ 5 _ _ (by rfl) (by first   | exact Or.inl rfl   | exact Or.inr (Or.inl rfl)   | exact Or.inr (Or.inr rfl)) (by decide) (by decide)) (fun _ _ => rfl)) (@pa_cons _ _ _ _ _ (@pv _ 5 _ _ (by rfl) (by first   | exact Or.inl rfl   | exact Or.inr (Or.inl rfl)   | exact Or.inr (Or.inr rfl)) (by decide) (by decide)) (@pa_cons _ _ _ _ _ (@pe_int _ _ _ _) (@pa_nil _) (by rfl)) (by rfl)) (by rfl)) (by decide) (by decide) (by rfl) (by rfl)) (@pe_callB _ _ _ _ _ _ _ _ _ (@call_len_seq _) (by rfl) T.n_len PySem.boot_len (@pa_cons _ _ _ _ _ (@pv _ 9 _ _ (by rfl) (by first   | exact Or.inl rfl   | exact Or.inr (Or.inl rfl)   | exact Or.inr (Or.inr rfl)) (by decide) (by decide)) (@pa_nil _) (by rfl)) (by decide) (by decide) (by rfl) (by rfl))) (fun _ _ => rfl)) (by rfl) (by first   | exact .inl rfl   | exact .inr rfl   | assumption)) (@pss_one _ _ _ (@ps_if _ _ _ _ _ _ _ _ (PW.pt (@pw_and _ _ _ _ _ _ _ (@pt_cmpR _ _ _ _ _ _ _ _ (@op_ne _) (@pv _ 8 _ _ (by rfl) (by first   | exact Or.inl rfl   | exact Or.inr (Or.inl rfl)   | exact Or.inr (Or.inr rfl)) (by decide) (by decide)) (@pv _ 10 _ _ (by rfl) (by first   | exact Or.inl rfl   | exact Or.inr (Or.inl rfl)   | exact Or.inr (Or.inr rfl)) (by decide) (by decide)) (nomark _)) (@pw_and1 _ _ _ _ (@pt_cmpR _ _ _ _ _ _ _ _ (@op_lt _) (@pe_callB _ _ _ _ _ _ _ _ _ (@call_len_seq _) (by rfl) T.n_len PySem.boot_len (@pa_cons _ _ _ _ _ (@pe_ix _ _ _ _ _ _ _ (@ix_list _) (@pv _ 4 _ _ (by rfl) (by first   | exact Or.inl rfl   | exact Or.inr (Or.inl rfl)   | exact Or.inr (Or.inr rfl)) (by decide) (by decide)) (@pv _ 8 _ _ (by rfl) (by first   | exact Or.inl rfl   | exact Or.inr (Or.inl rfl)   | exact Or.inr (Or.inr rfl)) (by decide) (by decide)) (fun _ _ => rfl)) (@pa_nil _) (by rfl)) (by decide) (by decide) (by rfl) (by rfl)) (@pe_int _ _ _ _) (nomark _))))) (@pss_one _ _ _ (@ps_expr _ _ _ _ (@pe_bm _ _ _ _ _ _ _ _ _ _ _ _ PySem.F.plainAttrs_list PySem.F.slot_list_append PySem.F.type_list_append (@mt_append _) (@pe_ix _ _ _ _ _ _ _ (@ix_list _) (@pv _ 4 _ _ (by rfl) (by first   | exact Or.inl rfl   | exact Or.inr (Or.inl rfl)   | exact Or.inr (Or.inr rfl)) (by decide) (by decide)) (@pv _ 8 _ _ (by rfl) (by first   | exact Or.inl rfl   | exact Or.inr (Or.inl rfl)   | exact Or.inr (Or.inr rfl)) (by decide) (by decide)) (fun _ _ => rfl)) (@pa_cons _ _ _ _ _ (@pe_tup _ _ _ _ _ (@pa_cons _ _ _ _ _ (@pe_str _ _ _ _) (@pa_cons _ _ _ _ _ (@pe_ix _ _ _ _ _ _ _ (@ix_list _) (@pv _ 3 _ _ (by rfl) (by first   | exact Or.inl rfl   | exact Or.inr (Or.inl rfl)   | exact Or.inr (Or.inr rfl)) (by decide) (by decide)) (@pv _ 10 _ _ (by rfl) (by first   | exact Or.inl rfl   | exact Or.inr (Or.inl rfl)   | exact Or.inr (Or.inr rfl)) (by decide) (by decide)) (fun _ _ => rfl)) (@pa_cons _ _ _ _ _ (@pe_tup _ _ _ _ _ (@pa_nil _)) (@pa_nil _) (by rfl)) (by rfl)) (by rfl))) (@pa_nil _) (by rfl)) (by rfl) (by rfl) (by rfl) (by rfl) (by rfl)) (by rfl))) (@pss_one _ _ _ (@ps_if _ _ _ _ _ _ _ _ (@pt_cmpR _ _ _ _ _ _ _ _ (@op_lt _) (@pe_callB _ _ _ _ _ _ _ _ _ (@call_len_seq _) (by rfl) T.n_len PySem.boot_len (@pa_cons _ _ _ _ _ (@pe_ix _ _ _ _ _ _ _ (@ix_list _) (@pv _ 4 _ _ (by rfl) (by first   | exact Or.inl rfl   | exact Or.inr (Or.inl rfl)   | exact Or.inr (Or.inr rfl)) (by decide) (by decide)) (@pv _ 8 _ _ (by rfl) (by first   | exact Or.inl rfl   | exact Or.inr (Or.inl rfl)   | exact Or.inr (Or.inr rfl)) (by decide) (by decide)) (fun _ _ => rfl)) (@pa_nil _) (by rfl)) (by decide) (by decide) (by rfl) (by rfl)) (@pe_int _ _ _ _) (nomark _)) (@pss_one _ _ _ (@ps_expr _ _ _ _ (@pe_bm _ _ _ _ _ _ _ _ _ _ _ _ PySem.F.plainAttrs_list PySem.F.slot_list_append PySem.F.type_list_append (@mt_append _) (@pe_ix _ _ _ _ _ _ _ (@ix_list _) (@pv _ 4 _ _ (by rfl) (by first   | exact Or.inl rfl   | exact Or.inr (Or.inl rfl)   | exact Or.inr (Or.inr rfl)) (by decide) (by decide)) (@pv _ 8 _ _ (by rfl) (by first   | exact Or.inl rfl   | exact Or.inr (Or.inl rfl)   | exact Or.inr (Or.inr rfl)) (by decide) (by decide)) (fun _ _ => rfl)) (@pa_cons _ _ _ _ _ (@pe_tup _ _ _ _ _ (@pa_cons _ _ _ _ _ (@pe_str _ _ _ _) (@pa_cons _ _ _ _ _ (@pe_ix _ _ _ _ _ _ _ (@ix_list _) (@pv _ 3 _ _ (by rfl) (by first   | exact Or.inl rfl   | exact Or.inr (Or.inl rfl)   | exact Or.inr (Or.inr rfl)) (by decide) (by decide)) (@pe_op _ _ _ _ _ _ _ _ (@op_mod _) (@pe_op _ _ _ _ _ _ _ _ (@op_add _) (@pv _ 8 _ _ (by rfl) (by first   | exact Or.inl rfl   | exact Or.inr (Or.inl rfl)   | exact Or.inr (Or.inr rfl)) (by decide) (by decide)) (@pe_int _ _ _ _)) (@pe_callB _ _ _ _ _ _ _ _ _ (@call_len_seq _) (by rfl) T.n_len PySem.boot_len (@pa_cons _ _ _ _ _ (@pv _ 3 _ _ (by rfl) (by first   | exact Or.inl rfl   | exact Or.inr (Or.inl rfl)   | exact Or.inr (Or.inr rfl)) (by decide) (by decide)) (@pa_nil _) (by rfl)) (by decide) (by decide) (by rfl) (by rfl))) (fun _ _ => rfl)) (@pa_cons _ _ _ _ _ (@pe_non _ _ _) (@pa_nil _) (by rfl)) (by rfl)) (by rfl))) (@pa_nil _) (by rfl)) (by rfl) (by rfl) (by rfl) (by rfl) (by rfl)) (by rfl))) (@pss_nil _)))))))))) (by intro _; rfl))), ?_⟩
    refine ⟨_, rfl, _, rfl, a, _, rfl, .inl (g0.sm.seq hS), _, _, rfl, _, _, rfl, ⟨by omega, by omega, ?_, ?_⟩, ?_⟩
    · rw [List.length_map]; split <;> omega
    · rw [List.length_map]; split <;> omega
    refine for_range (fun i σ H2 => ∃ v5 v6 v7 v8 v9 v10 : Option V, σ = [some (.ref a), some (.int 6), some (.ref rl), some (.ref nl), some (.ref R), v5, v6, v7, v8, v9, v10] ∧ Gk ns rgs H0 R ra rq 40 H2) ⟨none, none, none, none, none, none, rfl, g0⟩ ?_ ?_
    · rintro i σ H2 hi ⟨v5, v6, v7, v8, v9, v10, rfl, g2⟩
      rw [List.length_map] at hi
      have hik : 6 + (i : Int) < (sc.length : Int) ∧ i < 60 := by split at hi <;> omega
      have hat : atI (sc.map V.int) (6 + (i : Int)) = some (.int (sc.getD (6 + (i : Int)).toNat 0)) := atI_map V.int sc 0 (by omega) hik.1
      generalize sc.getD (6 + (i : Int)).toNat 0 = c at hat
      have hS2 := g2.sm.seq hS
      have hrl2 := g2.sm _ _ hrl
      have hnl2 := g2.sm _ _ hnl
      have m1 := mod_in (i := c) (n := (us.length : Int)) (by omega)
      obtain ⟨kA, hkA⟩ : ∃ k : Nat, c % (us.length : Int) = (k : Int) := ⟨(c % (us.length : Int)).toNat, by omega⟩
      have ring_at : ∀ k : Nat, k < rgs.length → ∃ (b : Addr) (q : List Nat), us[k]? = some (.ref b) ∧ rgs[k]? = some q ∧ H2 b = some (.lst (natsV q)) ∧ 2 ≤ q.length := fun k hk => by
        have e : rgs[k]? = some rgs[k] := List.getElem?_eq_getElem hk
        obtain ⟨v, hv, b, rfl, hb⟩ := Paired.get?' hus e
        exact ⟨b, _, hv, e, g2.sm _ _ hb, hq2 _ (List.mem_of_getElem? e)⟩
      obtain ⟨bA, qA, huA, hqA, hbA, hA2⟩ := ring_at kA (by omega)
      refine ⟨_, rfl, _, rfl, a, _, _, _, rfl, rfl, hS2, hat, _, rfl, rl, _, rfl, .inl (SqL.of hrl2), _, _, rfl, rfl, (by show (0 : Int) < (us.length : Int); omega), ?_⟩
      dsimp only
      rw [hkA]
      refine ⟨_, rfl, _, rfl, rl, _, _, _, rfl, rfl, SqL.of hrl2, atI_nat huA, ?_⟩
      refine ⟨_, rfl, _, rfl, _, rfl, a, _, _, _, rfl, rfl, hS2, hat, _, rfl, c, 6 + (i : Int), 65521, rfl, by omega, by omega, by decide, ?_⟩
      have mA := mod_in (i := mixM c (6 + (i : Int)) 65521) (n := (qA.length : Int)) (by omega)
      obtain ⟨hh, hhq, ehh⟩ := atN (r := qA) mA.1 mA.2
      refine ⟨_, rfl, bA, _, rfl, .inl (SqL.of hbA), _, _, rfl, rfl, (by rw [natsV_len]; show (0 : Int) < (qA.length : Int); omega), bA, _, _, _, rfl, rfl, SqL.of hbA, (by rw [natsV_len]; exact ehh), ?_⟩
      have m2 := mod_in (i := c / 3) (n := (us.length : Int) - (kA : Int)) (by omega)
      obtain ⟨kB, hkB⟩ : ∃ k : Nat, (kA : Int) + c / 3 % ((us.length : Int) - (kA : Int)) = (k : Int) := ⟨((kA : Int) + c / 3 % ((us.length : Int) - (kA : Int))).toNat, by omega⟩
      obtain ⟨bB, qB, huB, hqB, hbB, hB2⟩ := ring_at kB (by omega)
      refine ⟨_, rfl, _, rfl, _, rfl, _, rfl, a, _, _, _, rfl, rfl, hS2, hat, _, _, rfl, rfl, ⟨by decide, by decide⟩, _, rfl, rl, _, rfl, .inl (SqL.of hrl2), _, rfl, _, _, rfl, rfl, _, _, rfl, rfl, (by show (0 : Int) < (us.length : Int) - (kA : Int); omega), _, _, rfl, rfl, rl, _, _, _, rfl, rfl, SqL.of hrl2, (by rw [hkB]; exact atI_nat huB), ?_⟩
      refine ⟨_, rfl, _, rfl, _, rfl, a, _, _, _, rfl, rfl, hS2, hat, _, rfl, c, 6 + (i : Int), 65537, rfl, by omega, by omega, by decide, ?_⟩
      have mB := mod_in (i := mixM c (6 + (i : Int)) 65537) (n := (qB.length : Int)) (by omega)
      obtain ⟨th, hthq, eth⟩ := atN (r := qB) mB.1 mB.2
      refine ⟨_, rfl, bB, _, rfl, .inl (SqL.of hbB), _, _, rfl, rfl, (by rw [natsV_len]; show (0 : Int) < (qB.length : Int); omega), bB, _, _, _, rfl, rfl, SqL.of hbB, (by rw [natsV_len]; exact eth), ?_⟩
      have hhN := RG.mem qA (List.mem_of_getElem? hqA) hh hhq
      have thN := RG.mem qB (List.mem_of_getElem? hqB) th hthq
      have lh := RG.at hqA hhq
      have lt' := RG.at hqB hthq
      obtain ⟨b, hb⟩ : ∃ b, ra[hh]? = some b := ⟨_, List.getElem?_eq_getElem (by omega)⟩
      obtain ⟨vs, rws, hv, hrs, h40, hin, hup, hrq⟩ := g2.rw hh b hb
      have hvl : vs.length = rws.length := Paired.length hrs
      have ab : atI (ra.map V.ref) (hh : Int) = some (.ref b) := atI_nat (by rw [List.getElem?_map, hb]; rfl)
      have an : atI (ns.map V.str) (th : Int) = some (.str (nmI ns th)) := atI_nat (by rw [List.getElem?_map, nmI_get thN]; rfl)
      have asks : ∀ hlt : rws.length < 40, ∀ (x : Addr) (H3 : Hp), Same H2 H3 → H3 x = some (.tup [.str "ask", .str (nmI ns ((hh + 1) % ns.length)), .non]) → Gk ns rgs H0 R ra rq 40 (upd H3 b (.lst (vs ++ [.ref x]))) := fun hlt x H3 s3 hx => by
        have := (g2.up s3 (Nat.le_refl _)).put (B' := 40) ak (rw := .ask (nmI ns ((hh + 1) % ns.length)) none) (more := []) hb (s3 _ _ hv) (hrs.mono s3.tups) hlt (Nat.le_refl _) hin hup hrq hx (List.mem_of_getElem? (nmI_get (Nat.mod_lt _ (by omega)))) (fun m hm => by simp [namesIt] at hm; exact absurd hm.1 (by decide +kernel)) (by simp)
        rwa [List.append_nil] at this
      have brgs : ∀ hlt : rws.length < 40, ∀ (x t : Addr) (H3 : Hp), Same H2 H3 → H3 x = some (.tup [.str "bring", .str (nmI ns th), .ref t]) → H3 t = some (.tup []) → Gk ns rgs H0 R ra rq 40 (upd H3 b (.lst (vs ++ [.ref x]))) := fun hlt x t H3 s3 hx ht => by
        have := (g2.up s3 (Nat.le_refl _)).put (B' := 40) ak (rw := .bring (nmI ns th) []) (more := []) hb (s3 _ _ hv) (hrs.mono s3.tups) hlt (Nat.le_refl _) hin hup hrq ⟨t, hx, ⟨⟨[], ht, .nil⟩, by show 0 ≤ 6; decide⟩⟩ (List.mem_of_getElem? (nmI_get thN)) (fun m hm => by simp [namesIt] at hm; exact ⟨th, thN, hm, by omega⟩) (by simp)
        rwa [List.append_nil] at this
      have en : (((hh : Int) + 1) % (ns.length : Int)) = (((hh + 1) % ns.length : Nat) : Int) := by rw [Int.natCast_emod]; rfl
      have ank : atI (ns.map V.str) (((hh : Int) + 1) % (ns.length : Int)) = some (.str (nmI ns ((hh + 1) % ns.length))) := by
        rw [en]
        exact atI_nat (by rw [List.getElem?_map, nmI_get (Nat.mod_lt _ (by omega))]; rfl)
      by_cases hne : hh = th
      · refine ⟨_, rfl, _, rfl, rfl, _, rfl, ?_⟩
        rw [decide_eq_true (show V.int (hh : Int) = V.int (th : Int) by rw [hne])]
        refine iteF (iteF ?_)
        refine ⟨_, rfl, _, rfl, R, _, _, _, rfl, rfl, SqL.of g2.hR, ab, b, _, rfl, .inl (SqL.of hv), _, _, rfl, rfl, _, rfl, ite2 (fun hlt => ?_) (fun hlt => ?_)⟩
        · have hlt' : rws.length < 40 := by have := of_decide_eq_true hlt; omega
          refine ⟨_, rfl, _, rfl, R, _, _, _, rfl, rfl, SqL.of g2.hR, ab, .inl ⟨rfl, _, SqL.of hv⟩, _, rfl, _, rfl, _, _, rfl, rfl, _, rfl, nl, _, rfl, .inl (SqL.of hnl2), _, _, rfl, rfl, (by rw [List.length_map]; show (0 : Int) < (ns.length : Int); omega), nl, _, _, _, rfl, rfl, SqL.of hnl2, (by rw [List.length_map]; exact ank), (by show 3 ≤ sizeLine; decide), fun x gx => ?_⟩
          have s3 : Same H2 (upd H2 x (.tup [.str "ask", .str (nmI ns ((hh + 1) % ns.length)), .non])) := (Same.refl H2).new gx
          exact ⟨b, _, _, rfl, rfl, s3 _ _ hv, small1000 (by omega), _, _, _, _, _, _, rfl, asks hlt' x _ s3 upd_same⟩
        · exact ⟨_, _, _, _, _, _, rfl, g2⟩
      · refine ⟨_, rfl, _, rfl, rfl, _, rfl, ?_⟩
        rw [decide_eq_false (show ¬ V.int (hh : Int) = V.int (th : Int) from fun z => hne (Int.ofNat.inj (V.int.inj z)))]
        refine iteT ?_
        refine ⟨_, rfl, _, rfl, R, _, _, _, rfl, rfl, SqL.of g2.hR, ab, b, _, rfl, .inl (SqL.of hv), _, _, rfl, rfl, _, rfl, ite2 (fun hlt => ?_) (fun hlt => ?_)⟩
        · have hlt' : rws.length < 40 := by have := of_decide_eq_true hlt; omega
          refine ⟨_, rfl, _, rfl, R, _, _, _, rfl, rfl, SqL.of g2.hR, ab, .inl ⟨rfl, _, SqL.of hv⟩, _, rfl, _, rfl, nl, _, _, _, rfl, rfl, SqL.of hnl2, an, (by show 0 ≤ sizeLine; decide), fun t gt => ⟨by show 3 ≤ sizeLine; decide, fun x gx => ?_⟩⟩
          have s3 : Same H2 (upd (upd H2 t (.tup [])) x (.tup [.str "bring", .str (nmI ns th), .ref t])) := ((Same.refl H2).new gt).new gx
          exact ⟨b, _, _, rfl, rfl, s3 _ _ hv, small1000 (by omega), _, _, _, _, _, _, rfl, brgs hlt' x t _ s3 upd_same (upd_keep upd_same gx)⟩
        · refine ⟨_, rfl, _, rfl, R, _, _, _, rfl, rfl, SqL.of g2.hR, ab, b, _, rfl, .inl (SqL.of hv), _, _, rfl, rfl, _, rfl, ?_⟩
          refine ite2 (fun hlt' => absurd hlt' hlt) (fun _ => ?_)
          exact ⟨_, _, _, _, _, _, rfl, g2⟩
    · rintro σ H2 ⟨v5, v6, v7, v8, v9, v10, rfl, g2⟩
      exact q H2 g2
noncomputable def spLaw (K : PySem.W.Frag) : Sp := fun vs H Q _ => ∃ (a : Addr) (ns : List Int), vs = [.ref a] ∧ SqL K H a (ns.map V.int) ∧ ns.length ≤ 63 ∧ ∀ H', Q (.bl true) H'
theorem call_sortedPK {X : Cx} {K : PySem.W.Frag} (h : X.K = K) : CallR X (.builtin "sorted") (fun xs H Q => ∃ (p : Addr) (ns ms : List Int), xs = [.ref p] ∧ SqL K H p (ns.map V.int) ∧ ns.length < 64 ∧ ns.Perm ms ∧ ms.Pairwise (· ≤ ·) ∧ ∀ l, H l = none → Q (.ref l) (upd H l (.lst (ms.map V.int)))) := h ▸ call_sortedP
theorem atI_last {r : List Nat} (h : 0 < r.length) : atI (natsV r) (-1) = some (.int ((r.getD (r.length - 1) 0 : Nat) : Int)) := by
  have e : ixN (natsV r).length (-1) = some (r.length - 1) := by
    unfold ixN
    rw [natsV_len]
    rw [if_neg (by omega), if_pos (by omega)]
    congr 1
    omega
  unfold atI
  rw [e]
  show (natsV r)[r.length - 1]? = _
  unfold natsV
  rw [List.getElem?_map, List.getElem?_eq_getElem (show r.length - 1 < r.length by omega), List.getD_eq_getElem?_getD, List.getElem?_eq_getElem (show r.length - 1 < r.length by omega)]
  rfl
theorem atI_getN {r : List Nat} {k : Nat} (h : k < r.length) : atI (natsV r) (k : Int) = some (.int ((r.getD k 0 : Nat) : Int)) := by
  refine atI_nat ?_
  unfold natsV
  rw [List.getElem?_map, List.getElem?_eq_getElem h, List.getD_eq_getElem?_getD, List.getElem?_eq_getElem h]
  rfl
theorem nats_erase (l : List Nat) (k : Nat) : (natsV l).eraseIdx k = natsV (l.eraseIdx k) := by
  unfold natsV
  rw [List.eraseIdx_eq_take_drop_succ, List.eraseIdx_eq_take_drop_succ, List.map_append, List.map_take, List.map_drop]
theorem perm_pop {l sp : List Nat} {k y : Nat} (h : l[k]? = some y) {M : List Nat} (hp : (sp ++ l).Perm M) : ((sp ++ [y]) ++ l.eraseIdx k).Perm M := by
  have hk := (List.getElem?_eq_some_iff.mp h).1
  have e : l.Perm (y :: l.eraseIdx k) := by
    have h1 : l = l.take k ++ y :: l.drop (k + 1) := by
      have := (List.getElem?_eq_some_iff.mp h).2
      rw [← this, List.getElem_cons_drop, List.take_append_drop]
    rw [List.eraseIdx_eq_take_drop_succ]
    refine (List.Perm.of_eq h1).trans ?_
    exact List.perm_middle
  refine List.Perm.trans ?_ hp
  rw [List.append_assoc]
  exact (List.Perm.append_left sp e.symm)
theorem rgs_of {N : Nat} {rgs : List (List Nat)} (hp : rgs.flatten.Perm (List.range N)) : Rgs N rgs := by
  have hnd : rgs.flatten.Nodup := hp.nodup_iff.mpr List.nodup_range
  refine ⟨fun q hq i hi => List.mem_range.mp (hp.mem_iff.mp (List.mem_flatten.mpr ⟨q, hq, hi⟩)), fun i hi => ?_, ?_⟩
  · exact List.mem_flatten.mp (hp.mem_iff.mpr (List.mem_range.mpr hi))
  · clear hp
    induction rgs with
    | nil => intro k k' q q' i h; simp at h
    | cons a t ih =>
      rw [List.flatten_cons, List.nodup_append] at hnd
      intro k k' q q' i h h' hi hi'
      cases k with
      | zero =>
        simp at h
        subst h
        cases k' with
        | zero => rfl
        | succ k' => exact absurd rfl (hnd.2.2 i hi i (List.mem_flatten.mpr ⟨q', List.mem_of_getElem? (by simpa using h'), hi'⟩))
      | succ k =>
        cases k' with
        | zero =>
          simp at h'
          subst h'
          exact absurd rfl (hnd.2.2 i hi' i (List.mem_flatten.mpr ⟨q, List.mem_of_getElem? (by simpa using h), hi⟩))
        | succ k' => rw [ih hnd.2.1 k k' q q' i (by simpa using h) (by simpa using h') hi hi']
noncomputable def Prp (ns : List Str) (rgs : List (List Nat)) (rq : List (Nat × Nat)) (i : Nat) (rws : List Rw) : Prop := rws.length ≤ 40 ∧ (∀ r ∈ rws, InN ns r) ∧ (∀ r ∈ rws, ∀ m, namesIt "bring" r = some m → ∃ j, j < ns.length ∧ nmI ns j = m ∧ rOf rgs i ≤ rOf rgs j) ∧ ∀ j, (i, j) ∈ rq → ∃ r ∈ rws, namesIt "bring" r = some (nmI ns j)
theorem tng_of {ns : List Str} {rgs : List (List Nat)} {rq : List (Nat × Nat)} {ps : List Pt} (hnd : ns.Nodup) (RG : Rgs ns.length rgs) (hnm : ps.map (·.1) = ns) (hfit : PsFit ps) (hcl : ClosedB ps) (hprp : ∀ (j : Nat) (pt : Pt), ps[j]? = some pt → Prp ns rgs rq j pt.2) (hall : ∀ q ∈ rgs, ∀ k, k < q.length → (q.getD k 0, q.getD ((k + 1) % q.length) 0) ∈ rq) : Tng ns rgs (k1 ps) := by
  have at' : ∀ i, i < ns.length → ∃ rws, ps[i]? = some (nmI ns i, rws) ∧ (nmI ns i, rws) ∈ ps := fun i hi => by
    have hil : i < ps.length := by rw [← hnm, List.length_map] at hi; exact hi
    have e : ps[i]? = some ps[i] := List.getElem?_eq_getElem hil
    have e2 : ns[i]? = some ps[i].1 := by rw [← hnm, List.getElem?_map, e]; rfl
    rw [nmI_get hi] at e2
    have e3 : nmI ns i = ps[i].1 := Option.some.inj e2
    refine ⟨ps[i].2, ?_, ?_⟩
    · rw [e, e3]
    · rw [e3]; exact List.getElem_mem hil
  have mem_getD : ∀ (q : List Nat) j, j < q.length → q.getD j 0 ∈ q := fun q j hj => by
    rw [List.getD_eq_getElem?_getD, List.getElem?_eq_getElem hj]
    exact List.getElem_mem hj
  refine ⟨hnd, RG, fun n hn m hm => ?_, fun q hq k hk => ?_, fun i j hi hj hm => ?_⟩
  · have := hcl n (by rw [hnm]; exact hn) m hm
    rwa [hnm] at this
  · have hi := RG.mem q hq _ (mem_getD q k hk)
    obtain ⟨rws, h1, h2⟩ := at' _ hi
    obtain ⟨_, _, _, h⟩ := hprp _ _ h1
    obtain ⟨r, hr, e⟩ := h _ (hall q hq k hk)
    exact (mem_k1 hfit.nd h2).mpr ⟨r, hr, e⟩
  · obtain ⟨rws, h1, h2⟩ := at' i hi
    obtain ⟨_, _, h, _⟩ := hprp _ _ h1
    obtain ⟨r, hr, e⟩ := (mem_k1 hfit.nd h2).mp hm
    obtain ⟨j', hj', e', hle⟩ := h r hr _ e
    have := nmI_inj hnd hj' hj e'
    subst this
    exact hle
theorem sub_flatten {q : List Nat} : ∀ {rgs : List (List Nat)}, q ∈ rgs → q.Sublist rgs.flatten
  | a :: t, h => by
    rcases List.mem_cons.mp h with z | z
    · rw [z, List.flatten_cons]; exact List.sublist_append_left _ _
    · rw [List.flatten_cons]; exact (sub_flatten z).trans (List.sublist_append_right _ _)
theorem srt_nat (q : List Nat) : ∃ r : List Nat, q.Perm r ∧ r.Pairwise (· ≤ ·) := by
  refine ⟨q.mergeSort (fun a b => decide (a ≤ b)), (List.mergeSort_perm _ _).symm, ?_⟩
  have := List.pairwise_mergeSort (le := fun a b : Nat => decide (a ≤ b)) (fun a b c h1 h2 => by simp at *; omega) (fun a b => by simp; omega) q
  exact this.imp fun h => by simpa using h
theorem strict_of {r : List Nat} (hn : r.Nodup) (h : r.Pairwise (· ≤ ·)) : r.Pairwise (· < ·) := by
  rw [List.nodup_iff_pairwise_ne] at hn
  exact (hn.and h).imp fun h => by omega
theorem natsV_map (q : List Nat) : natsV q = (q.map fun n : Nat => (n : Int)).map V.int := by unfold natsV; rw [List.map_map]; rfl
theorem pair_snoc {α β : Type} {F : α → β → Prop} {xs : List α} {ys : List β} {x : α} {y : β} (h : Paired F xs ys) (hx : F x y) : Paired F (xs ++ [x]) (ys ++ [y]) := Paired.snoc h hx
theorem comp_lst {K : PySem.W.Frag} {a : Addr} {xs : List V} {g : TG} {tt : TT} {te : TE} {Q : Hp → Prop} {σ : L2.St} {H : Hp} {D : Addr} (Pv : Nat → L2.St → Hp → Prop) (h0 : Pv 0 σ (upd H D (.lst [])))
    (hl : ∀ i σ2 H2, Pv i σ2 H2 → SqL K H2 a xs)
    (hs : ∀ i x σ2 H2, xs[i]? = some x → Pv i σ2 H2 → g x σ2 H2 fun σ4 H4 => tt σ4 H4 fun b H5 =>
      if b = true then te σ4 H5 fun y H6 => ∃ ys, H6 D = some (.lst ys) ∧ ys.length < sizeLine ∧ Pv (i + 1) σ4 (upd H6 D (.lst (ys ++ [y]))) else Pv (i + 1) σ4 H5)
    (hd : ∀ σ2 H2, Pv xs.length σ2 H2 → Q H2) :
    ∃ W : Nat → Nat → L2.St → Hp → Prop, (∃ m, W 0 m σ (upd H D (.lst []))) ∧ ∀ i m σ2 H2, W i m σ2 H2 →
      ((Itl K a).stop i H2 ∧ Q H2) ∨ ((Itl K a).go i H2 ∧ ∃ N : L2.St → Hp → Prop, (∀ σ' H', N σ' H' → ∃ m', m' < m ∧ W (i + 1) m' σ' H') ∧ ∀ x H3, (Itl K a).yld i H2 x H3 → g x σ2 H3 fun σ4 H4 => tt σ4 H4 fun b H5 =>
        if b = true then te σ4 H5 fun y H6 => ∃ ys, H6 D = some (.lst ys) ∧ ys.length < sizeLine ∧ N σ4 (upd H6 D (.lst (ys ++ [y]))) else N σ4 H5) := by
  refine comp_by xs.length Pv h0 (fun i σ2 H2 hi p => ?_) fun σ2 H2 p => ⟨⟨xs, hl _ _ _ p, Nat.le_refl _⟩, hd _ _ p⟩
  have e := List.getElem?_eq_getElem hi
  refine ⟨⟨xs, _, hl _ _ _ p, e⟩, fun x H3 hy => ?_⟩
  obtain ⟨rfl, hx⟩ := hy
  exact hs i x σ2 H3 (hx xs (hl _ _ _ p)) p
noncomputable def FstI (ns : List Str) (rs : List (List Nat)) (i : Nat) (fv : V) (H : Hp) : Prop := (fv = .non ∧ ∀ (j : Nat) (r : List Nat), j < i → rs[j]? = some r → r.length ≤ 8) ∨ ∃ (I : Nat) (r : List Nat) (u : Addr), I < i ∧ rs[I]? = some r ∧ 8 < r.length ∧ (∀ (j : Nat) (r' : List Nat), j < I → rs[j]? = some r' → r'.length ≤ 8) ∧ fv = .ref u ∧ H u = some (.tup ((r.map (nmI ns)).map V.str))
theorem FstI.same {ns : List Str} {rs : List (List Nat)} {i : Nat} {fv : V} {H H' : Hp} (h : FstI ns rs i fv H) (s : Same H H') : FstI ns rs i fv H' := by
  rcases h with h | ⟨I, r, u, h1, h2, h3, h4, h5, h6⟩
  · exact .inl h
  · exact .inr ⟨I, r, u, h1, h2, h3, h4, h5, s _ _ h6⟩
theorem FstI.next {ns : List Str} {rs : List (List Nat)} {i : Nat} {fv : V} {H : Hp} (h : FstI ns rs i fv H) {r : List Nat} (hr : rs[i]? = some r) (h8 : r.length ≤ 8) : FstI ns rs (i + 1) fv H := by
  rcases h with ⟨h1, h2⟩ | ⟨I, r', u, h1, h2, h3, h4, h5, h6⟩
  · refine .inl ⟨h1, fun j r' hj hr' => ?_⟩
    by_cases e : j = i
    · subst e; rw [hr] at hr'; cases hr'; exact h8
    · exact h2 j r' (by omega) hr'
  · exact .inr ⟨I, r', u, by omega, h2, h3, h4, h5, h6⟩
theorem FstI.take {ns : List Str} {rs : List (List Nat)} {i : Nat} {fv : V} {H : Hp} (h : FstI ns rs i fv H) (hf : fv = .non) {r : List Nat} {u : Addr} (hr : rs[i]? = some r) (h8 : 8 < r.length) (hu : H u = some (.tup ((r.map (nmI ns)).map V.str))) : FstI ns rs (i + 1) (.ref u) H := by
  rcases h with ⟨h1, h2⟩ | ⟨I, r', u', h1, h2, h3, h4, h5, h6⟩
  · exact .inr ⟨i, r, u, by omega, hr, h8, h2, rfl, hu⟩
  · rw [hf] at h5; cases h5
theorem FstI.keep {ns : List Str} {rs : List (List Nat)} {i : Nat} {fv : V} {H : Hp} (h : FstI ns rs i fv H) (hf : ¬ fv = .non) : FstI ns rs (i + 1) fv H := by
  rcases h with ⟨h1, h2⟩ | ⟨I, r', u', h1, h2, h3, h4, h5, h6⟩
  · exact absurd h1 hf
  · exact .inr ⟨I, r', u', by omega, h2, h3, h4, h5, h6⟩
theorem hu5_of {A : Around} {k : Nat} (hr : Room k A) : A.units + 5 < cLine := Nat.lt_of_le_of_lt (Nat.add_le_add_left (by decide : 5 ≤ 64) _) hr.units
theorem law_fn {f : Addr} {fd : FuncData} (F : Fun K "law" "law" s_law f fd) (T : Txt K mg) : FnOk P w K mg base CX0 9 f fd ["_law_script"] (spLaw K) := by
  obtain ⟨A, hX⟩ := T.xs
  have C_law_cell_at := ok_cell (P := P) (w := w) (base := base) T
  have C_law_mixed := ok_mixed (P := P) (w := w) (base := base) T
  have C_law_sizes := ok_sizes (P := P) (w := w) (base := base) T
  have C_law_names := ok_names (P := P) (w := w) (base := base) T
  have C_law_rings := ok_rings (P := P) (w := w) (base := base) T
  have C_law_more := ok_more (P := P) (w := w) (base := base) T
  have C_law_caught := ok_caught (P := P) (w := w) (base := base) T hX
  have C_law_fine := ok_fine (P := P) (w := w) (base := base) T hX
  refine F.ok sc_law (fun vs H Q E h => ?_) (fun cdv A0 outer s H vs Q E hr h => ?_)
  · obtain ⟨a, sc, rfl, _⟩ := h
    rfl
  · obtain ⟨a, sc, rfl, hS, hsc, q⟩ := h
    have hu5 := hu5_of hr
    refine ⟨_, (@pss_cons _ _ _ _ _ (@ps_set _ _ (1) _ _ _ _ sc_law.nd rfl (Or.inl rfl) (@pe_fn _ _ _ _ _ _ _ _ _ _ _ C_law_sizes hr (by rfl) (@pa_cons _ _ _ _ _ (@pv _ 0 _ _ (by rfl) (by first   | exact Or.inl rfl   | exact Or.inr (Or.inl rfl)   | exact Or.inr (Or.inr rfl)) (by decide) (by decide)) (@pa_nil _) (by rfl)) (by decide) (by decide) (by rfl) (by rfl)) (by rfl) (by first   | exact .inl rfl   | exact .inr rfl   | assumption)) (@pss_cons _ _ _ _ _ (@ps_set _ _ (2) _ _ _ _ sc_law.nd rfl (Or.inr rfl) (@pe_fn _ _ _ _ _ _ _ _ _ _ _ C_law_names hr (by rfl) (@pa_cons _ _ _ _ _ (@pe_fn _ _ _ _ _ _ _ _ _ _ _ C_law_cell_at hr (by rfl) (@pa_cons _ _ _ _ _ (@pv _ 0 _ _ (by rfl) (by first   | exact Or.inl rfl   | exact Or.inr (Or.inl rfl)   | exact Or.inr (Or.inr rfl)) (by decide) (by decide)) (@pa_cons _ _ _ _ _ (@pe_int _ _ _ _) (@pa_nil _) (by rfl)) (by rfl)) (by decide) (by decide) (by rfl) (by rfl)) (@pa_cons _ _ _ _ _ (@pe_callB _ _ _ _ _ _ _ _ _ (@call_sum _ rfl) (by rfl) T.n_sum boot_sum (@pa_cons _ _ _ _ _ (@pv _ 1 _ _ (by rfl) (by first   | exact Or.inl rfl   | exact Or.inr (Or.inl rfl)   | exact Or.inr (Or.inr rfl)) (by decide) (by decide)) (@pa_nil _) (by rfl)) (by decide) (by decide) (by rfl) (by rfl)) (@pa_nil _) (by rfl)) (by rfl)) (by decide) (by decide) (by rfl) (by rfl)) (by rfl) (by first   | exact .inl rfl   | exact .inr rfl   | assumption)) (@pss_cons _ _ _ _ _ (@ps_set _ _ (3) _ _ _ _ sc_law.nd rfl (Or.inl rfl) (@pe_lrng _ _ _ _ _ _ _ rfl (@pe_callB _ _ _ _ _ _ _ _ _ (@call_len_seq _) (by rfl) T.n_len PySem.boot_len (@pa_cons _ _ _ _ _ (@pv _ 2 _ _ (by rfl) (by first   | exact Or.inl rfl   | exact Or.inr (Or.inl rfl)   | exact Or.inr (Or.inr rfl)) (by decide) (by decide)) (@pa_nil _) (by rfl)) (by decide) (by decide) (by rfl) (by rfl)) (by rfl) T.n_list (by rfl) T.n_range (by rfl) (by rfl)) (by rfl) (by first   | exact .inl rfl   | exact .inr rfl   | assumption)) (@pss_cons _ _ _ _ _ (@ps_set _ _ (4) _ _ _ _ sc_law.nd rfl (Or.inl rfl) (@pe_lst _ _ _ _ (@pa_nil _)) (by rfl) (by first   | exact .inl rfl   | exact .inr rfl   | assumption)) (@pss_cons _ _ _ _ _ (@ps_for _ _ _ _ _ _ _ _ PassesOwn.never rfl (@pi_range1 _ _ _ _ _ _ (by rfl) T.n_range (@pa_cons _ _ _ _ _ (@pe_callB _ _ _ _ _ _ _ _ _ (@call_len_seq _) (by rfl) T.n_len PySem.boot_len (@pa_cons _ _ _ _ _ (@pv _ 2 _ _ (by rfl) (by first   | exact Or.inl rfl   | exact Or.inr (Or.inl rfl)   | exact Or.inr (Or.inr rfl)) (by decide) (by decide)) (@pa_nil _) (by rfl)) (by decide) (by decide) (by rfl) (by rfl)) (@pa_nil _) (by rfl)) (by rfl)) (@pg_name _ _ (5) _ sc_law.nd rfl (Or.inl rfl) (by first   | exact .inl rfl   | exact .inr rfl   | assumption)) (@pss_one _ _ _ (@ps_expr _ _ _ _ (@pe_bm _ _ _ _ _ _ _ _ _ _ _ _ PySem.F.plainAttrs_list PySem.F.slot_list_append PySem.F.type_list_append (@mt_append _) (@pv _ 4 _ _ (by rfl) (by first   | exact Or.inl rfl   | exact Or.inr (Or.inl rfl)   | exact Or.inr (Or.inr rfl)) (by decide) (by decide)) (@pa_cons _ _ _ _ _ (@pe_bm _ _ _ _ _ _ _ _ _ _ _ _ PySem.F.plainAttrs_list PySem.F.slot_list_pop PySem.F.type_list_pop (@mt_popAt _) (@pv _ 3 _ _ (by rfl) (by first   | exact Or.inl rfl   | exact Or.inr (Or.inl rfl)   | exact Or.inr (Or.inr rfl)) (by decide) (by decide)) (@pa_cons _ _ _ _ _ (@pe_op _ _ _ _ _ _ _ _ (@op_mod _) (@pe_fn _ _ _ _ _ _ _ _ _ _ _ C_law_mixed hr (by rfl) (@pa_cons _ _ _ _ _ (@pe_fn _ _ _ _ _ _ _ _ _ _ _ C_law_cell_at hr (by rfl) (@pa_cons _ _ _ _ _ (@pv _ 0 _ _ (by rfl) (by first   | exact Or.inl rfl   | exact Or.inr (Or.inl rfl)   | exact Or.inr (Or.inr rfl)) (by decide) (by decide)) (@pa_cons _ _ _ _ _ (@pe_int _ _ _ _) (@pa_nil _) (by rfl)) (by rfl)) (by decide) (by decide) (by rfl) (by rfl)) (@pa_cons _ _ _ _ _ (@pv _ 5 _ _ (by rfl) (by first   | exact Or.inl rfl   | exact Or.inr (Or.inl rfl)   | exact Or.inr (Or.inr rfl)) (by decide) (by decide)) (@pa_cons _ _ _ _ _ (@pe_int _ _ _ _) (@pa_nil _) (by rfl)) (by rfl)) (by rfl)) (by decide) (by decide) (by rfl) (by rfl)) (@pe_callB _ _ _ _ _ _ _ _ _ (@call_len_seq _) (by rfl) T.n_len PySem.boot_len (@pa_cons _ _ _ _ _ (@pv _ 3 _ _ (by rfl) (by first   | exact Or.inl rfl   | exact Or.inr (Or.inl rfl)   | exact Or.inr (Or.inr rfl)) (by decide) (by decide)) (@pa_nil _) (by rfl)) (by decide) (by decide) (by rfl) (by rfl))) (@pa_nil _) (by rfl)) (by rfl) (by rfl) (by rfl) (by rfl) (by rfl)) (@pa_nil _) (by rfl)) (by rfl) (by rfl) (by rfl) (by rfl) (by rfl)) (by rfl))) (by intro _; rfl)) (@pss_cons _ _ _ _ _ (@ps_set _ _ (6) _ _ _ _ sc_law.nd rfl (Or.inl rfl) (@pe_fn _ _ _ _ _ _ _ _ _ _ _ C_law_rings hr (by rfl) (@pa_cons _ _ _ _ _ (@pv _ 1 _ _ (by rfl) (by first   | exact Or.inl rfl   | exact Or.inr (Or.inl rfl)   | exact Or.inr (Or.inr rfl)) (by decide) (by decide)) (@pa_cons _ _ _ _ _ (@pv _ 4 _ _ (by rfl) (by first   | exact Or.inl rfl   | exact Or.inr (Or.inl rfl)   | exact Or.inr (Or.inr rfl)) (by decide) (by decide)) (@pa_nil _) (by rfl)) (by rfl)) (by decide) (by decide) (by rfl) (by rfl)) (by rfl) (by first   | exact .inl rfl   | exact .inr rfl   | assumption)) (@pss_cons _ _ _ _ _ (@ps_setC _ _ _ _ _ _ _ (["_law_name"]) ([none]) _ _ _ _ (7) _ _ _ (defScope s_law) ["_law_script", "_law_sizes_here", "_law_names_here", "_law_left", "_law_spots", "_law_k", "_law_rings_here", "_law_rows", "_law_ring", "_law_parts", "_law_first", "_law_some", "_law_caught_here"] ⟨rfl, by decide +kernel, by decide +kernel, by decide +kernel, rfl, by decide +kernel, by decide +kernel⟩ sc_law.nd rfl (Or.inl rfl) (@pi_list _ _ _ _ (@pv _ 2 _ _ (by rfl) (by first   | exact Or.inl rfl   | exact Or.inr (Or.inl rfl)   | exact Or.inr (Or.inr rfl)) (by decide) (by decide))) (fun _ _ _ _ _ _ => (@pg_name _ _ (0) _ (show (["_law_name"] : List Str).Nodup by decide +kernel) rfl (Or.inl rfl) (by first   | exact .inl rfl   | exact .inr rfl   | assumption))) (fun _ _ _ _ _ _ => @pts_nil _) (fun _ _ _ _ _ _ => (@pe_lst _ _ _ _ (@pa_nil _))) (by rfl) (by rfl) (by rfl) (by rfl) (by intro _; rfl) (by first   | exact .inl rfl   | exact .inr rfl   | assumption)) (@pss_cons _ _ _ _ _ (@ps_for _ _ _ _ _ _ _ _ PassesOwn.never rfl (@pi_list _ _ _ _ (@pv _ 6 _ _ (by rfl) (by first   | exact Or.inl rfl   | exact Or.inr (Or.inl rfl)   | exact Or.inr (Or.inr rfl)) (by decide) (by decide))) (@pg_name _ _ (8) _ sc_law.nd rfl (Or.inl rfl) (by first   | exact .inl rfl   | exact .inr rfl   | assumption)) (@pss_one _ _ _ (@ps_for _ _ _ _ _ _ _ _ PassesOwn.never rfl (@pi_range1 _ _ _ _ _ _ (by rfl) T.n_range (@pa_cons _ _ _ _ _ (@pe_callB _ _ _ _ _ _ _ _ _ (@call_len_seq _) (by rfl) T.n_len PySem.boot_len (@pa_cons _ _ _ _ _ (@pv _ 8 _ _ (by rfl) (by first   | exact Or.inl rfl   | exact Or.inr (Or.inl rfl)   | exact Or.inr (Or.inr rfl)) (by decide) (by decide)) (@pa_nil _) (by rfl)) (by decide) (by decide) (by rfl) (by rfl)) (@pa_nil _) (by rfl)) (by rfl)) (@pg_name _ _ (5) _ sc_law.nd rfl (Or.inl rfl) (by first   | exact .inl rfl   | exact .inr rfl   | assumption)) (@pss_one _ _ _ (@ps_expr _ _ _ _ (@pe_bm _ _ _ _ _ _ _ _ _ _ _ _ PySem.F.plainAttrs_list PySem.F.slot_list_append PySem.F.type_list_append (@mt_append _) (@pe_ix _ _ _ _ _ _ _ (@ix_list _) (@pv _ 7 _ _ (by rfl) (by first   | exact Or.inl rfl   | exact Or.inr (Or.inl rfl)   | exact Or.inr (Or.inr rfl)) (by decide) (by decide)) (@pe_ix _ _ _ _ _ _ _ (@ix_list _) (@pv _ 8 _ _ (by rfl) (by first   | exact Or.inl rfl   | exact Or.inr (Or.inl rfl)   | exact Or.inr (Or.inr rfl)) (by decide) (by decide)) (@pe_op _ _ _ _ _ _ _ _ (@op_sub _) (@pv _ 5 _ _ (by rfl) (by first   | exact Or.inl rfl   | exact Or.inr (Or.inl rfl)   | exact Or.inr (Or.inr rfl)) (by decide) (by decide)) (@pe_int _ _ _ _)) (fun _ _ => rfl)) (fun _ _ => rfl)) (@pa_cons _ _ _ _ _ (@pe_tup _ _ _ _ _ (@pa_cons _ _ _ _ _ (@pe_str _ _ _ _) (@pa_cons _ _ _ _ _ (@pe_ix _ _ _ _ _ _ _ (@ix_list _) (@pv _ 2 _ _ (by rfl) (by first   | exact Or.inl rfl   | exact Or.inr (Or.inl rfl)   | exact Or.inr (Or.inr rfl)) (by decide) (by decide)) (@pe_ix _ _ _ _ _ _ _ (@ix_list _) (@pv _ 8 _ _ (by rfl) (by first   | exact Or.inl rfl   | exact Or.inr (Or.inl rfl)   | exact Or.inr (Or.inr rfl)) (by decide) (by decide)) (@pv _ 5 _ _ (by rfl) (by first   | exact Or.inl rfl   | exact Or.inr (Or.inl rfl)   | exact Or.inr (Or.inr rfl)) (by decide) (by decide)) (fun _ _ => rfl)) (fun _ _ => rfl)) (@pa_cons _ _ _ _ _ (@pe_tup _ _ _ _ _ (@pa_nil _)) (@pa_nil _) (by rfl)) (by rfl)) (by rfl))) (@pa_nil _) (by rfl)) (by rfl) (by rfl) (by rfl) (by rfl) (by rfl)) (by rfl))) (by intro _; rfl))) (by intro _; rfl)) (@pss_cons _ _ _ _ _ (@ps_expr _ _ _ _ (@pe_fn _ _ _ _ _ _ _ _ _ _ _ C_law_more hr (by rfl) (@pa_cons _ _ _ _ _ (@pv _ 0 _ _ (by rfl) (by first   | exact Or.inl rfl   | exact Or.inr (Or.inl rfl)   | exact Or.inr (Or.inr rfl)) (by decide) (by decide)) (@pa_cons _ _ _ _ _ (@pe_int _ _ _ _) (@pa_cons _ _ _ _ _ (@pv _ 6 _ _ (by rfl) (by first   | exact Or.inl rfl   | exact Or.inr (Or.inl rfl)   | exact Or.inr (Or.inr rfl)) (by decide) (by decide)) (@pa_cons _ _ _ _ _ (@pv _ 2 _ _ (by rfl) (by first   | exact Or.inl rfl   | exact Or.inr (Or.inl rfl)   | exact Or.inr (Or.inr rfl)) (by decide) (by decide)) (@pa_cons _ _ _ _ _ (@pv _ 7 _ _ (by rfl) (by first   | exact Or.inl rfl   | exact Or.inr (Or.inl rfl)   | exact Or.inr (Or.inr rfl)) (by decide) (by decide)) (@pa_nil _) (by rfl)) (by rfl)) (by rfl)) (by rfl)) (by rfl)) (by decide) (by decide) (by rfl) (by rfl)) (by rfl)) (@pss_cons _ _ _ _ _ (@ps_set _ _ (9) _ _ _ _ sc_law.nd rfl (Or.inl rfl) (@pe_callTy _ _ _ _ _ _ _ _ _ (@call_tuple_ofF _) (by rfl) T.n_tuple boot_tuple (@pa_cons _ _ _ _ _ (@pe_comp _ _ _ _ _ _ _ (["_law_name", "_law_some"]) ([none, none]) _ _ _ _ (defScope s_law) ["_law_script", "_law_sizes_here", "_law_names_here", "_law_left", "_law_spots", "_law_k", "_law_rings_here", "_law_rows", "_law_ring", "_law_parts", "_law_first", "_law_some", "_law_caught_here"] ⟨rfl, by decide +kernel, by decide +kernel, by decide +kernel, rfl, by decide +kernel, by decide +kernel⟩ (@pi_zipL _ _ _ _ _ _ _ _ _ (by rfl) T.n_zip (@pa_cons _ _ _ _ _ (@pv _ 2 _ _ (by rfl) (by first   | exact Or.inl rfl   | exact Or.inr (Or.inl rfl)   | exact Or.inr (Or.inr rfl)) (by decide) (by decide)) (@pa_cons _ _ _ _ _ (@pv _ 7 _ _ (by rfl) (by first   | exact Or.inl rfl   | exact Or.inr (Or.inl rfl)   | exact Or.inr (Or.inr rfl)) (by decide) (by decide)) (@pa_nil _) (by rfl)) (by rfl)) (by rfl) (by intro _; rfl)) (fun _ _ _ _ _ _ => (@pg_tupK _ (K) _ _ _ _ (2) rfl rfl (@pgs_cons _ _ _ _ _ (@pg_name _ _ (0) _ (show (["_law_name", "_law_some"] : List Str).Nodup by decide +kernel) rfl (Or.inl rfl) (by first   | exact .inl rfl   | exact .inr rfl   | assumption)) (@pgs_cons _ _ _ _ _ (@pg_name _ _ (1) _ (show (["_law_name", "_law_some"] : List Str).Nodup by decide +kernel) rfl (Or.inl rfl) (by first   | exact .inl rfl   | exact .inr rfl   | assumption)) (@pgs_nil _) (by rfl)) (by rfl)) (by rfl) (by rfl))) (fun _ _ _ _ _ _ => @pts_nil _) (fun _ _ _ _ _ _ => (@pe_tup _ _ _ _ _ (@pa_cons _ _ _ _ _ (@pv _ 0 _ _ (by rfl) (by first   | exact Or.inl rfl   | exact Or.inr (Or.inl rfl)   | exact Or.inr (Or.inr rfl)) (by decide) (by decide)) (@pa_cons _ _ _ _ _ (@pe_callTy _ _ _ _ _ _ _ _ _ (@call_tuple_ofK _ (K) rfl) (by rfl) T.n_tuple boot_tuple (@pa_cons _ _ _ _ _ (@pv _ 1 _ _ (by rfl) (by first   | exact Or.inl rfl   | exact Or.inr (Or.inl rfl)   | exact Or.inr (Or.inr rfl)) (by decide) (by decide)) (@pa_nil _) (by rfl)) (by decide) (by decide) (by rfl) (by rfl)) (@pa_nil _) (by rfl)) (by rfl)))) (by rfl) (by rfl) (by rfl) (by intro _; rfl)) (@pa_nil _) (by rfl)) (by decide) (by decide) (by rfl) (by rfl)) (by rfl) (by first   | exact .inl rfl   | exact .inr rfl   | assumption)) (@pss_cons _ _ _ _ _ (@ps_set _ _ (10) _ _ _ _ sc_law.nd rfl (Or.inl rfl) (@pe_non _ _ _) (by rfl) (by first   | exact .inl rfl   | exact .inr rfl   | assumption)) (@pss_cons _ _ _ _ _ (@ps_for _ _ _ _ _ _ _ _ PassesOwn.never rfl (@pi_list _ _ _ _ (@pe_callB _ _ _ _ _ _ _ _ _ (@call_sortedLL _ hu5) (by rfl) T.n_sorted boot_sorted (@pa_cons _ _ _ _ _ (@pe_comp _ _ _ _ _ _ _ (["_law_ring"]) ([none]) _ _ _ _ (defScope s_law) ["_law_script", "_law_sizes_here", "_law_names_here", "_law_left", "_law_spots", "_law_k", "_law_rings_here", "_law_rows", "_law_ring", "_law_parts", "_law_first", "_law_some", "_law_caught_here"] ⟨rfl, by decide +kernel, by decide +kernel, by decide +kernel, rfl, by decide +kernel, by decide +kernel⟩ (@pi_list _ _ _ _ (@pv _ 6 _ _ (by rfl) (by first   | exact Or.inl rfl   | exact Or.inr (Or.inl rfl)   | exact Or.inr (Or.inr rfl)) (by decide) (by decide))) (fun _ _ _ _ _ _ => (@pg_name _ _ (0) _ (show (["_law_ring"] : List Str).Nodup by decide +kernel) rfl (Or.inl rfl) (by first   | exact .inl rfl   | exact .inr rfl   | assumption))) (fun _ _ _ _ _ _ => @pts_nil _) (fun _ _ _ _ _ _ => (@pe_callB _ _ _ _ _ _ _ _ _ (@call_sortedPK _ (K) rfl) (by rfl) T.n_sorted boot_sorted (@pa_cons _ _ _ _ _ (@pv _ 0 _ _ (by rfl) (by first   | exact Or.inl rfl   | exact Or.inr (Or.inl rfl)   | exact Or.inr (Or.inr rfl)) (by decide) (by decide)) (@pa_nil _) (by rfl)) (by decide) (by decide) (by rfl) (by rfl))) (by rfl) (by rfl) (by rfl) (by intro _; rfl)) (@pa_nil _) (by rfl)) (by decide) (by decide) (by rfl) (by rfl))) (@pg_name _ _ (8) _ sc_law.nd rfl (Or.inl rfl) (by first   | exact .inl rfl   | exact .inr rfl   | assumption)) (@pss_cons _ _ _ _ _ (@ps_set _ _ (11) _ _ _ _ sc_law.nd rfl (Or.inl rfl) (@pe_callTy _ _ _ _ _ _ _ _ _ (@call_tuple_of _) (by rfl) T.n_tuple boot_tuple (@pa_cons _ _ _ _ _ (@pe_comp _ _ _ _ _ _ _ (["_law_k", "_law_names_here"]) ([none, some 2]) _ _ _ _ (defScope s_law) ["_law_script", "_law_sizes_here", "_law_names_here", "_law_left", "_law_spots", "_law_k", "_law_rings_here", "_law_rows", "_law_ring", "_law_parts", "_law_first", "_law_some", "_law_caught_here"] ⟨rfl, by decide +kernel, by decide +kernel, by decide +kernel, rfl, by decide +kernel, by decide +kernel⟩ (@pi_list _ _ _ _ (@pv _ 8 _ _ (by rfl) (by first   | exact Or.inl rfl   | exact Or.inr (Or.inl rfl)   | exact Or.inr (Or.inr rfl)) (by decide) (by decide))) (fun _ _ _ _ _ _ => (@pg_name _ _ (0) _ (show (["_law_k", "_law_names_here"] : List Str).Nodup by decide +kernel) rfl (Or.inl rfl) (by first   | exact .inl rfl   | exact .inr rfl   | assumption))) (fun _ _ _ _ _ _ => @pts_nil _) (fun _ _ _ _ _ _ => (@pe_ix _ _ _ _ _ _ _ (@ix_listK _ (K) rfl) (@pv _ 1 _ _ (by rfl) (by first   | exact Or.inl rfl   | exact Or.inr (Or.inl rfl)   | exact Or.inr (Or.inr rfl)) (by decide) (by decide)) (@pv _ 0 _ _ (by rfl) (by first   | exact Or.inl rfl   | exact Or.inr (Or.inl rfl)   | exact Or.inr (Or.inr rfl)) (by decide) (by decide)) (fun _ _ => rfl))) (by rfl) (by rfl) (by rfl) (by intro _; rfl)) (@pa_nil _) (by rfl)) (by decide) (by decide) (by rfl) (by rfl)) (by rfl) (by first   | exact .inl rfl   | exact .inr rfl   | assumption)) (@pss_cons _ _ _ _ _ (@ps_set _ _ (12) _ _ _ _ sc_law.nd rfl (Or.inl rfl) (@pe_fn _ _ _ _ _ _ _ _ _ _ _ C_law_caught hr (by rfl) (@pa_cons _ _ _ _ _ (@pv _ 9 _ _ (by rfl) (by first   | exact Or.inl rfl   | exact Or.inr (Or.inl rfl)   | exact Or.inr (Or.inr rfl)) (by decide) (by decide)) (@pa_cons _ _ _ _ _ (@pv _ 11 _ _ (by rfl) (by first   | exact Or.inl rfl   | exact Or.inr (Or.inl rfl)   | exact Or.inr (Or.inr rfl)) (by decide) (by decide)) (@pa_nil _) (by rfl)) (by rfl)) (by decide) (by decide) (by rfl) (by rfl)) (by rfl) (by first   | exact .inl rfl   | exact .inr rfl   | assumption)) (@pss_one _ _ _ (@ps_if _ _ _ _ _ _ _ _ (@pt_cmpR _ _ _ _ _ _ _ _ (@op_gt _) (@pe_callB _ _ _ _ _ _ _ _ _ (@call_len_seq _) (by rfl) T.n_len PySem.boot_len (@pa_cons _ _ _ _ _ (@pv _ 11 _ _ (by rfl) (by first   | exact Or.inl rfl   | exact Or.inr (Or.inl rfl)   | exact Or.inr (Or.inr rfl)) (by decide) (by decide)) (@pa_nil _) (by rfl)) (by decide) (by decide) (by rfl) (by rfl)) (@pe_int _ _ _ _) (nomark _)) (@pss_cons _ _ _ _ _ (@ps_if _ _ _ _ _ _ _ _ (@pt_cmp _ _ _ _ _ _ (@pc_isN _ _ _ _ _ (@pv _ 10 _ _ (by rfl) (by first   | exact Or.inl rfl   | exact Or.inr (Or.inl rfl)   | exact Or.inr (Or.inr rfl)) (by decide) (by decide))) (by first   | exact nobehind _ (by decide) (by decide)   | rfl)) (@pss_one _ _ _ (@ps_set _ _ (10) _ _ _ _ sc_law.nd rfl (Or.inl rfl) (@pv _ 11 _ _ (by rfl) (by first   | exact Or.inl rfl   | exact Or.inr (Or.inl rfl)   | exact Or.inr (Or.inr rfl)) (by decide) (by decide)) (by rfl) (by first   | exact .inl rfl   | exact .inr rfl   | assumption))) (@pss_nil _)) (@pss_one _ _ _ (@ps_if _ _ _ _ _ _ _ _ (@pt_not _ _ _ _ (@pt_val _ _ _ (@pe_fn _ _ _ _ _ _ _ _ _ _ _ C_law_fine hr (by rfl) (@pa_cons _ _ _ _ _ (@pv _ 12 _ _ (by rfl) (by first   | exact Or.inl rfl   | exact Or.inr (Or.inl rfl)   | exact Or.inr (Or.inr rfl)) (by decide) (by decide)) (@pa_cons _ _ _ _ _ (@pv _ 11 _ _ (by rfl) (by first   | exact Or.inl rfl   | exact Or.inr (Or.inl rfl)   | exact Or.inr (Or.inr rfl)) (by decide) (by decide)) (@pa_nil _) (by rfl)) (by rfl)) (by decide) (by decide) (by rfl) (by rfl)) (by intro _; rfl))) (@pss_one _ _ _ (@ps_ret _ _ _ _ (@pe_bl _ _ _ _))) (@pss_nil _)))) (@pss_one _ _ _ (@ps_if _ _ _ _ _ _ _ _ (@pt_cmp _ _ _ _ _ _ (@pc_notN _ _ _ _ _ (@pv _ 12 _ _ (by rfl) (by first   | exact Or.inl rfl   | exact Or.inr (Or.inl rfl)   | exact Or.inr (Or.inr rfl)) (by decide) (by decide))) (by first   | exact nobehind _ (by decide) (by decide)   | rfl)) (@pss_one _ _ _ (@ps_ret _ _ _ _ (@pe_bl _ _ _ _))) (@pss_nil _))))))) (by intro _; rfl)) (@pss_cons _ _ _ _ _ (@ps_set _ _ (12) _ _ _ _ sc_law.nd rfl (Or.inl rfl) (@pe_fn _ _ _ _ _ _ _ _ _ _ _ C_law_caught hr (by rfl) (@pa_cons _ _ _ _ _ (@pv _ 9 _ _ (by rfl) (by first   | exact Or.inl rfl   | exact Or.inr (Or.inl rfl)   | exact Or.inr (Or.inr rfl)) (by decide) (by decide)) (@pa_cons _ _ _ _ _ (@pe_non _ _ _) (@pa_nil _) (by rfl)) (by rfl)) (by decide) (by decide) (by rfl) (by rfl)) (by rfl) (by first   | exact .inl rfl   | exact .inr rfl   | assumption)) (@pss_cons _ _ _ _ _ (@ps_if _ _ _ _ _ _ _ _ (@pt_cmp _ _ _ _ _ _ (@pc_isN _ _ _ _ _ (@pv _ 10 _ _ (by rfl) (by first   | exact Or.inl rfl   | exact Or.inr (Or.inl rfl)   | exact Or.inr (Or.inr rfl)) (by decide) (by decide))) (by first   | exact nobehind _ (by decide) (by decide)   | rfl)) (@pss_one _ _ _ (@ps_ret _ _ _ _ (@pe_cmp _ _ _ _ _ _ (@pc_isN _ _ _ _ _ (@pv _ 12 _ _ (by rfl) (by first   | exact Or.inl rfl   | exact Or.inr (Or.inl rfl)   | exact Or.inr (Or.inr rfl)) (by decide) (by decide))) (by first   | exact nobehind _ (by decide) (by decide)   | rfl)))) (@pss_nil _)) (@pss_one _ _ _ (@ps_ret _ _ _ _ (@pe_fn _ _ _ _ _ _ _ _ _ _ _ C_law_fine hr (by rfl) (@pa_cons _ _ _ _ _ (@pv _ 12 _ _ (by rfl) (by first   | exact Or.inl rfl   | exact Or.inr (Or.inl rfl)   | exact Or.inr (Or.inr rfl)) (by decide) (by decide)) (@pa_cons _ _ _ _ _ (@pv _ 10 _ _ (by rfl) (by first   | exact Or.inl rfl   | exact Or.inr (Or.inl rfl)   | exact Or.inr (Or.inr rfl)) (by decide) (by decide)) (@pa_nil _) (by rfl)) (by rfl)) (by decide) (by decide) (by rfl) (by rfl)))))))))))))))))), ?_⟩
    refine ⟨_, rfl, a, sc, rfl, hS, fun zl zs H1 s1 hzl hz1 hz3 hzb hzs => ?_⟩
    have hS1 := s1.seq hS
    have hnn : ∀ z ∈ zs, 0 ≤ z := fun z hz => by have := hzb z hz; omega
    have hz2 : 2 ≤ zs.sum := by
      have h1 := sum_take_le hnn 1
      cases zs with
      | nil => simp at hz1
      | cons z t =>
        have := hzb z List.mem_cons_self
        have h3 := (sum_take_le (zs := z :: t) hnn 1).2
        simp at h3 ⊢
        omega
    refine ⟨_, rfl, a, sc, 0, rfl, hS1, by decide, fun c0 => ?_⟩
    refine ⟨_, rfl, zl, zs, rfl, SqL.of hzl, c0, zs.sum, rfl, by omega, hzs, fun nl ns H2 s2 gnl hnl hnsl hnd => ?_⟩
    have hn24 : ns.length ≤ 24 := by omega
    have hn1 : 2 ≤ ns.length := by omega
    refine ⟨_, rfl, nl, _, rfl, .inl (SqL.of hnl), (ns.map V.str).length, rfl, by rw [List.length_map]; omega, fun lf glf => ?_⟩
    rw [List.length_map]
    have s3 : Same H2 (upd H2 lf (.lst (rngV ns.length))) := (Same.refl H2).new glf
    have hlf3 : upd H2 lf (.lst (rngV ns.length)) lf = some (.lst (natsV (List.range ns.length))) := upd_same
    generalize upd H2 lf (.lst (rngV ns.length)) = H3 at s3 hlf3 ⊢
    refine ⟨(by show 0 ≤ sizeLine; decide), fun sp gsp => ?_⟩
    have s4 : Same H3 (upd H3 sp (.lst [])) := (Same.refl H3).new gsp
    have hsp4 : upd H3 sp (.lst []) sp = some (.lst (natsV [])) := upd_same
    have hlf4 := s4 _ _ hlf3
    have hls : lf ≠ sp := fun z => by rw [z, gsp] at hlf3; cases hlf3
    generalize upd H3 sp (.lst []) = H4 at s4 hsp4 hlf4 ⊢
    have s24 := s3.trans s4
    have s04 := (s1.trans s2).trans s24
    refine ⟨_, rfl, nl, _, rfl, .inl (SqL.of (s24 _ _ hnl)), _, rfl, (by omega), (by rw [List.length_map]; omega), ?_⟩
    rw [List.length_map]
    refine for_range (n := ns.length) (fun i σ H5 => ∃ (l p : List Nat) (v5 : Option V), σ = [some (.ref a), some (.ref zl), some (.ref nl), some (.ref lf), some (.ref sp), v5, none, none, none, none, none, none, none] ∧ Same H2 H5 ∧ H5 lf = some (.lst (natsV l)) ∧ H5 sp = some (.lst (natsV p)) ∧ (p ++ l).Perm (List.range ns.length) ∧ p.length = i) ⟨_, [], none, rfl, s24, hlf4, hsp4, List.Perm.refl _, rfl⟩ ?_ ?_
    · rintro i σ H5 hi ⟨l, p, v5, rfl, s5, hl5, hp5, hperm, hpl⟩
      have hll : l.length = ns.length - i := by
        have := hperm.length_eq
        rw [List.length_append, List.length_range] at this
        omega
      have hS5 := (s1.trans (s2.trans s5)).seq hS
      refine ⟨_, rfl, .inl ⟨rfl, _, SqL.of hp5⟩, _, rfl, .inl ⟨rfl, _, SqL.of hl5⟩, _, rfl, a, sc, 5, rfl, hS5, by decide, fun c5 => ⟨_, rfl, c5, 0 + (i : Int), 65519, rfl, by omega, by omega, by decide, ?_⟩⟩
      have mm := mod_in (i := mixM c5 (0 + (i : Int)) 65519) (n := (l.length : Int)) (by omega)
      generalize hmx : mixM c5 (0 + (i : Int)) 65519 % (l.length : Int) = mx at mm
      obtain ⟨k, rfl⟩ : ∃ k : Nat, mx = (k : Int) := ⟨mx.toNat, by omega⟩
      have hk : k < l.length := by omega
      have hky : l[k]? = some l[k] := List.getElem?_eq_getElem hk
      generalize l[k] = y at hky
      refine ⟨_, rfl, lf, _, rfl, .inl (SqL.of hl5), _, _, rfl, rfl, (by rw [natsV_len]; show (0 : Int) < (l.length : Int); omega), ?_⟩
      dsimp only
      rw [natsV_len, hmx]
      refine ⟨lf, _, (k : Int), k, .int (y : Int), rfl, rfl, hl5, by omega, by omega, ?_, ?_, ?_⟩
      · exact (ixN_seq (by unfold ixN; rw [natsV_len]; simp [hk])).1
      · unfold natsV; rw [List.getElem?_map, hky]; rfl
      · rw [nats_erase]
        have hp6 : upd H5 lf (.lst (natsV (l.eraseIdx k))) sp = some (.lst (natsV p)) := by rw [upd_ne hls.symm]; exact hp5
        refine ⟨sp, _, _, rfl, rfl, hp6, small1000 (by rw [natsV_len]; omega), l.eraseIdx k, p ++ [y], _, rfl, (s5.put glf).put (s3.free gsp), by rw [upd_ne hls, upd_same], by rw [upd_same, natsV_snoc], perm_pop hky hperm, by rw [List.length_append, hpl]; rfl⟩
    · rintro σ H5 ⟨l, p, v5, rfl, s5, hl5, hp5, hperm, hpl⟩
      have hl0 : l = [] := by
        have := hperm.length_eq
        rw [List.length_append, List.length_range] at this
        exact List.eq_nil_of_length_eq_zero (by omega)
      subst hl0
      rw [List.append_nil] at hperm
      have s05 := s1.trans (s2.trans s5)
      have hzl5 := (s2.trans s5) _ _ hzl
      have hnl5 := s5 _ _ hnl
      refine ⟨_, rfl, _, rfl, zl, sp, zs, p, rfl, hzl5, hp5, hz3, hzb, by omega, by omega, fun rl us rgs H6 s6 hrl hus hfl hrgl hq2 => ?_⟩
      have hnl6 := s6 _ _ hnl5
      have RG : Rgs ns.length rgs := rgs_of (by rw [hfl]; exact hperm)
      have hflen : rgs.flatten.length = ns.length := by rw [hfl]; omega
      have hul := Paired.length hus
      have hxl : (ns.map V.str).length ≤ 900 := by rw [List.length_map]; omega
      refine ⟨_, rfl, nl, rfl, ⟨_, SqL.of hnl6⟩, fun R gR => comp_new (K := K) hnl6 gR hxl fun ra H7 s7 hR7 hra hraN hraA => ?_⟩
      rw [List.length_map] at hra
      have ak : Ak H6 R ra := ⟨hraN, fun b hb => ⟨(hraA b hb).1, (hraA b hb).2.1⟩⟩
      have g0 : Gk ns rgs H6 R ra [] 0 H7 := ⟨s7, hR7, fun i b hb => ⟨[], [], (hraA b (List.mem_of_getElem? hb)).2.2, .nil, by simp, by simp, by simp, by simp⟩⟩
      refine ⟨_, rfl, rl, rfl, ⟨_, SqL.of (s7 _ _ hrl)⟩, ?_⟩
      refine for_list (K := K) (a := rl) (xs := us) (fun i σ H8 => ∃ (rq : List (Nat × Nat)) (v5 v8 : Option V), σ = [some (.ref a), some (.ref zl), some (.ref nl), some (.ref lf), some (.ref sp), v5, some (.ref rl), some (.ref R), v8, none, none, none, none] ∧ Gk ns rgs H6 R ra rq ((rgs.take i).flatten.length) H8 ∧ ∀ q ∈ rgs.take i, ∀ k, k < q.length → (q.getD k 0, q.getD ((k + 1) % q.length) 0) ∈ rq) ⟨[], _, none, rfl, g0, by simp⟩ (fun i σ H8 _ ⟨_, _, _, _, g8, _⟩ => SqL.of (g8.sm _ _ hrl)) ?_ ?_
      · rintro i x σ H8 hx ⟨rq, v5', v8, rfl, g8, hall⟩
        obtain ⟨qn, hqn, bq, rfl, hbq⟩ := Paired.get? hus hx
        have hqm := List.mem_of_getElem? hqn
        have hql := hq2 qn hqm
        have hqB : (rgs.take i).flatten.length + qn.length ≤ 24 := by
          have h1 : (rgs.take (i + 1)).flatten.length ≤ rgs.flatten.length := by
            have e : rgs.flatten = (rgs.take (i + 1)).flatten ++ (rgs.drop (i + 1)).flatten := by rw [← List.flatten_append, List.take_append_drop]
            rw [e, List.length_append]; omega
          rw [take_succ_get hqn, List.flatten_append, List.length_append] at h1
          simp only [List.flatten_cons, List.flatten_nil, List.append_nil] at h1
          omega
        refine ⟨_, rfl, bq, _, rfl, .inl (SqL.of (g8.sm _ _ hbq)), _, rfl, (by omega), (by rw [natsV_len]; omega), ?_⟩
        rw [natsV_len]
        refine for_range (n := qn.length) (fun k σ H9 => ∃ (rq : List (Nat × Nat)) (v5 : Option V), σ = [some (.ref a), some (.ref zl), some (.ref nl), some (.ref lf), some (.ref sp), v5, some (.ref rl), some (.ref R), some (.ref bq), none, none, none, none] ∧ Gk ns rgs H6 R ra rq ((rgs.take i).flatten.length + k) H9 ∧ (∀ q ∈ rgs.take i, ∀ k, k < q.length → (q.getD k 0, q.getD ((k + 1) % q.length) 0) ∈ rq) ∧ ∀ j, j < k → (qn.getD (if j = 0 then qn.length - 1 else j - 1) 0, qn.getD j 0) ∈ rq) ⟨rq, _, rfl, g8, hall, fun j hj => by omega⟩ ?_ ?_
        · rintro k σ H9 hk ⟨rq9, v59, rfl, g9, hall9, hcur⟩
          have hbq9 := g9.sm _ _ hbq
          have hnl9 := g9.sm _ _ hnl6
          have aprev : atI (natsV qn) (0 + (k : Int) - 1) = some (.int ((qn.getD (if k = 0 then qn.length - 1 else k - 1) 0 : Nat) : Int)) := by
            by_cases e : k = 0
            · subst e
              exact atI_last (by omega)
            · rw [if_neg e, show (0 + (k : Int) - 1) = ((k - 1 : Nat) : Int) by omega]
              exact atI_getN (by omega)
          have acur : atI (natsV qn) (0 + (k : Int)) = some (.int ((qn.getD k 0 : Nat) : Int)) := by
            rw [show (0 + (k : Int)) = ((k : Nat) : Int) by omega]
            exact atI_getN hk
          have mem_getD : ∀ j, j < qn.length → qn.getD j 0 ∈ qn := fun j hj => by
            rw [List.getD_eq_getElem?_getD, List.getElem?_eq_getElem hj]
            exact List.getElem_mem hj
          have hpm := mem_getD (if k = 0 then qn.length - 1 else k - 1) (by split <;> omega)
          have hcm := mem_getD k hk
          generalize hpx : qn.getD (if k = 0 then qn.length - 1 else k - 1) 0 = px at aprev hpm
          generalize hcx : qn.getD k 0 = cx at acur hcm
          have hpN := RG.mem qn hqm px hpm
          have hcN := RG.mem qn hqm cx hcm
          have lp := RG.at hqn hpm
          have lc := RG.at hqn hcm
          obtain ⟨b, hb⟩ : ∃ b, ra[px]? = some b := ⟨_, List.getElem?_eq_getElem (by omega)⟩
          obtain ⟨vs, rws, hv, hrs, hBl, hin, hup, hrq⟩ := g9.rw px b hb
          have hvl : vs.length = rws.length := Paired.length hrs
          have ab : atI (ra.map V.ref) (px : Int) = some (.ref b) := atI_nat (by rw [List.getElem?_map, hb]; rfl)
          have an : atI (ns.map V.str) (cx : Int) = some (.str (nmI ns cx)) := atI_nat (by rw [List.getElem?_map, nmI_get hcN]; rfl)
          refine ⟨_, rfl, _, rfl, _, rfl, _, _, rfl, rfl, bq, _, _, _, rfl, rfl, SqL.of hbq9, aprev, R, _, _, _, rfl, rfl, SqL.of g9.hR, ab, .inl ⟨rfl, _, SqL.of hv⟩, _, rfl, _, rfl, _, rfl, bq, _, _, _, rfl, rfl, SqL.of hbq9, acur, nl, _, _, _, rfl, rfl, SqL.of hnl9, an, (by show 0 ≤ sizeLine; decide), fun t gt => ⟨by show 3 ≤ sizeLine; decide, fun x gx => ?_⟩⟩
          have s10 : Same H9 (upd (upd H9 t (.tup [])) x (.tup [.str "bring", .str (nmI ns cx), .ref t])) := ((Same.refl H9).new gt).new gx
          have ht10 : upd (upd H9 t (.tup [])) x (.tup [.str "bring", .str (nmI ns cx), .ref t]) t = some (.tup []) := upd_keep upd_same gx
          have hx10 : upd (upd H9 t (.tup [])) x (.tup [.str "bring", .str (nmI ns cx), .ref t]) x = some (.tup [.str "bring", .str (nmI ns cx), .ref t]) := upd_same
          generalize upd (upd H9 t (.tup [])) x (.tup [.str "bring", .str (nmI ns cx), .ref t]) = H10 at s10 ht10 hx10 ⊢
          have g11 := (g9.up s10 (Nat.le_refl _)).put (B' := (rgs.take i).flatten.length + (k + 1)) ak (rw := .bring (nmI ns cx) []) (more := [(px, cx)]) hb (s10 _ _ hv) (hrs.mono s10.tups) (by omega) (by omega) hin hup hrq ⟨t, hx10, ⟨⟨[], ht10, .nil⟩, by show 0 ≤ 6; decide⟩⟩ (List.mem_of_getElem? (nmI_get hcN)) (fun m hm => by simp [namesIt] at hm; exact ⟨cx, hcN, hm, by omega⟩) (fun p hp => by rw [List.mem_singleton.mp hp]; exact ⟨rfl, by simp [namesIt]⟩)
          refine ⟨b, _, _, rfl, rfl, s10 _ _ hv, small1000 (by omega), rq9 ++ [(px, cx)], _, rfl, g11, fun q' hq' k' hk' => List.mem_append_left _ (hall9 q' hq' k' hk'), fun j hj => ?_⟩
          by_cases ej : j = k
          · subst ej
            rw [hpx, hcx]
            exact List.mem_append_right _ (List.mem_singleton.mpr rfl)
          · exact List.mem_append_left _ (hcur j (by omega))
        · rintro σ H9 ⟨rq9, v59, rfl, g9, hall9, hcur⟩
          refine ⟨rq9, _, _, rfl, ?_, fun q' hq' k' hk' => ?_⟩
          · rw [take_succ_get hqn, List.flatten_append, List.length_append]
            simp only [List.flatten_cons, List.flatten_nil, List.append_nil]
            exact g9
          · rw [take_succ_get hqn] at hq'
            rcases List.mem_append.mp hq' with z | z
            · exact hall9 q' z k' hk'
            · rw [List.mem_singleton.mp z] at hk' ⊢
              have hj : (k' + 1) % qn.length < qn.length := Nat.mod_lt _ (by omega)
              have := hcur _ hj
              have e : (if (k' + 1) % qn.length = 0 then qn.length - 1 else (k' + 1) % qn.length - 1) = k' := by
                by_cases e1 : k' + 1 = qn.length
                · rw [e1, Nat.mod_self, if_pos rfl]; omega
                · rw [Nat.mod_eq_of_lt (by omega), if_neg (by omega)]; omega
              rw [e] at this
              exact this
      · rintro σ H8 ⟨rq, v5', v8, rfl, g8, hall⟩
        rw [hul, List.take_length] at g8 hall
        have s06 := s05.trans s6
        refine ⟨_, rfl, _, rfl, _, rfl, _, rfl, a, rl, nl, R, sc, us, ns, rgs, H6, ra, rq, rfl, s06.seq hS, hsc, hrl, hus, by omega, by omega, hq2, hnl6, by omega, hn24, RG, hra, ak, g8.up (Same.refl _) (by omega), fun H9 g9 => ?_⟩
        have hnl9 := g9.sm _ _ hnl6
        refine ⟨_, rfl, _, rfl, nl, R, rfl, ⟨_, SqL.of hnl9⟩, ⟨_, SqL.of g9.hR⟩, fun D gD => ?_⟩
        refine comp_by ns.length (fun i σ H10 => ∃ (v0 v1 : Option V) (ws : List V) (ps : List Pt), σ = [v0, v1] ∧ Same H9 H10 ∧ H10 D = some (.lst ws) ∧ Paired (PartAt H10) ws ps ∧ ps.map (·.1) = ns.take i ∧ ∀ (j : Nat) (pt : Pt), ps[j]? = some pt → Prp ns rgs rq j pt.2) ⟨_, _, [], [], rfl, (Same.refl H9).new gD, upd_same, .nil, by simp, by simp⟩ ?_ ?_
        · rintro i σ H10 hi ⟨v0, v1, ws, ps, rfl, s10, hD10, hps, hnm, hprp⟩
          have hir : i < ra.length := by omega
          have e1 : (ns.map V.str)[i]? = some (.str ns[i]) := by simp [hi]
          have e2 : (ra.map V.ref)[i]? = some (.ref ra[i]) := by simp [hir]
          refine ⟨⟨_, _, _, _, SqL.of (s10 _ _ hnl9), SqL.of (s10 _ _ g9.hR), e1, e2⟩, ?_⟩
          rintro x H11 ⟨pz, u, v, hu', hv', gp, rfl, rfl⟩
          have eu : u = .str ns[i] := Option.some.inj ((hu' _ (SqL.of (s10 _ _ hnl9))).symm.trans e1)
          have ev : v = .ref ra[i] := Option.some.inj ((hv' _ (SqL.of (s10 _ _ g9.hR))).symm.trans e2)
          subst eu ev
          obtain ⟨vs, rws, hrH, hrows, h40, hin, hup, hrq⟩ := g9.rw i ra[i] (List.getElem?_eq_getElem hir)
          have s11 : Same H10 (upd H10 pz (.tup [.str ns[i], .ref ra[i]])) := (Same.refl H10).new gp
          refine ⟨pz, _, rfl, SqT.of upd_same, rfl, _, _, rfl, _, _, rfl, rfl, nt ?_⟩
          have hr11 := s11 _ _ (s10 _ _ hrH)
          refine ⟨_, rfl, _, rfl, ra[i], _, rfl, .inl ⟨SqL.of hr11, fun t gt => ⟨by show 2 ≤ sizeLine; decide, fun tp gtp => ?_⟩⟩⟩
          have s12 := s11.new (o := .tup vs) gt
          have s13 := s12.new (o := .tup [.str ns[i], .ref t]) gtp
          have hwl : ws.length = i ∧ ps.length = i := by
            have h1 := Paired.length hps
            have h2 := congrArg List.length hnm
            rw [List.length_map, List.length_take] at h2
            omega
          have hD13 := s13 _ _ hD10
          have T13 := Tups.lst (ys := ws ++ [.ref tp]) hD13
          have Trows : Tups H9 _ := (s10.trans s13).tups.trans T13
          refine ⟨ws, hD13, small1000 (by omega), _, _, ws ++ [.ref tp], ps ++ [(ns[i], rws)], rfl, (s10.trans s13).put gD, upd_same, Paired.snoc (Paired.mapP hps fun _ _ z => z.mono (s13.tups.trans T13)) ⟨tp, t, vs, rfl, T13 _ _ upd_same, T13 _ _ (upd_keep upd_same gtp), hrows.mono Trows⟩, ?_, fun j pt hj => ?_⟩
          · rw [List.map_append, hnm, take_succ_get (x := ns[i]) (by simp)]
            rfl
          · by_cases ej : j < ps.length
            · rw [List.getElem?_append_left ej] at hj
              exact hprp j pt hj
            · have ej2 : j = i := by
                have := (List.getElem?_eq_some_iff.mp hj).1
                rw [List.length_append] at this
                simp at this
                omega
              subst ej2
              rw [List.getElem?_append_right (by omega), hwl.2, Nat.sub_self] at hj
              simp at hj
              subst hj
              exact ⟨h40, hin, hup, hrq⟩
        · rintro σ H10 ⟨v0, v1, ws, ps, rfl, s10, hD10, hps, hnm, hprp⟩
          refine ⟨⟨_, _, SqL.of (s10 _ _ hnl9), SqL.of (s10 _ _ g9.hR), by simp, by simp [hra]⟩, ?_⟩
          rw [List.take_length] at hnm
          refine ⟨D, _, rfl, SqL.of hD10, fun pa ob gpa hob => ?_⟩
          have s11 : Same H10 (upd H10 pa (.frz ob (.tup ws))) := (Same.refl H10).new gpa
          have hpf11 : PartsF (upd H10 pa (.frz ob (.tup ws))) pa ps := ⟨ob, ws, upd_same, hob, Paired.mapP hps fun _ _ z => z.mono s11.tups⟩
          generalize upd H10 pa (.frz ob (.tup ws)) = H11 at s11 hpf11 ⊢
          have hpl' : ps.length = ns.length := by rw [← hnm, List.length_map]
          have hfit : PsFit ps := ⟨by rw [hnm]; exact hnd, by omega, fun pt hpt => by
            obtain ⟨j, hj⟩ := List.getElem?_of_mem hpt
            exact (hprp j pt hj).1⟩
          have hcl : ClosedB ps := closedB_of hnm hnd fun pt hpt r hr => by
            obtain ⟨j, hj⟩ := List.getElem?_of_mem hpt
            exact (hprp j pt hj).2.1 r hr
          have tng : Tng ns rgs (k1 ps) := tng_of hnd RG hnm hfit hcl hprp hall
          have s9a := s10.trans s11
          have s69 : Same H6 H11 := g9.sm.trans s9a
          have hrl11 := s69 _ _ hrl
          have hbr : ∀ (k : Nat) (q : List Nat), rgs[k]? = some q → ∃ b, us[k]? = some (.ref b) ∧ H11 b = some (.lst (natsV q)) := fun k q hk => by
            obtain ⟨v, hv, b, rfl, hb⟩ := Paired.get?' hus hk
            exact ⟨b, hv, s69 _ _ hb⟩
          have hqnd : ∀ q ∈ rgs, q.Nodup := fun q hq => by
            have hnd2 : rgs.flatten.Nodup := by rw [hfl]; exact hperm.nodup_iff.mpr List.nodup_range
            exact List.Sublist.nodup (sub_flatten hq) hnd2
          refine ⟨_, rfl, rl, rfl, ⟨_, SqL.of hrl11⟩, fun D2 gD2 => ?_⟩
          refine comp_lst (K := K) (a := rl) (xs := us) (fun i σ H12 => ∃ (v0 : Option V) (as : List Addr) (rss : List (List Nat)), σ = [v0] ∧ Same H11 H12 ∧ H12 D2 = some (.lst (as.map V.ref)) ∧ Paired (fun b r => b ≠ D2 ∧ H12 b = some (.lst (natsV r))) as rss ∧ Paired (fun (r q : List Nat) => r.Perm q ∧ r.Pairwise (· < ·)) rss (rgs.take i)) ⟨_, [], [], rfl, (Same.refl H11).new gD2, upd_same, .nil, .nil⟩ (fun i σ H12 ⟨_, _, _, _, s12, _⟩ => SqL.of (s12 _ _ hrl11)) ?_ ?_
          · rintro i x σ H12 hx ⟨v0', as, rss, rfl, s12, hD12, has, hrss⟩
            obtain ⟨qn, hqn, _⟩ := Paired.get? hus hx
            obtain ⟨bq, hbu, hbq⟩ := hbr i qn hqn
            rw [hx] at hbu
            cases hbu
            obtain ⟨r, hpr, hso⟩ := srt_nat qn
            have hlt := strict_of (hpr.nodup_iff.mp (hqnd qn (List.mem_of_getElem? hqn))) hso
            have hqle : qn.length ≤ 24 := by
              have := (sub_flatten (List.mem_of_getElem? hqn)).length_le
              omega
            have hi3 : i < rgs.length := (List.getElem?_eq_some_iff.mp hqn).1
            refine ntG ?_
            refine ⟨_, rfl, bq, qn.map (fun n : Nat => (n : Int)), r.map (fun n : Nat => (n : Int)), rfl, ?_, by rw [List.length_map]; omega, hpr.map _, hso.map _ fun a b h => by omega, fun lz glz => ?_⟩
            · rw [← natsV_map]; exact SqL.of (s12 _ _ hbq)
            rw [← natsV_map]
            have hzD : lz ≠ D2 := fun z => by rw [z, hD12] at glz; cases glz
            have s13 : Same H12 (upd H12 lz (.lst (natsV r))) := (Same.refl H12).new glz
            have hal := Paired.length has
            have hrl' := Paired.length hrss
            rw [List.length_take] at hrl'
            refine ⟨_, s13 _ _ hD12, small1000 (by rw [List.length_map]; omega), _, as ++ [lz], rss ++ [r], rfl, (s12.trans s13).put gD2, by rw [upd_same, List.map_append]; rfl, ?_, ?_⟩
            · refine pair_snoc (paired_mem has fun b r' _ h => ⟨h.1, by rw [upd_ne h.1]; exact s13 _ _ h.2⟩) ⟨hzD, by rw [upd_ne hzD]; exact upd_same⟩
            · rw [take_succ_get hqn]
              exact pair_snoc hrss ⟨hpr.symm, hlt⟩
          · rintro σ H12 ⟨v0', as, rss, rfl, s12, hD12, has, hrss⟩
            rw [hul, List.take_length] at hrss
            have hal := Paired.length has
            have hrl' := Paired.length hrss
            have rne : ∀ (k : Nat) (r : List Nat), rss[k]? = some r → ∃ q, rgs[k]? = some q ∧ r.Perm q ∧ r.Pairwise (· < ·) ∧ ∃ h tl, r = h :: tl := fun k r hk => by
              obtain ⟨q, hq, hp, hs⟩ := Paired.get? hrss hk
              have h2 := hq2 q (List.mem_of_getElem? hq)
              refine ⟨q, hq, hp, hs, ?_⟩
              cases r with
              | nil => have := hp.length_eq; simp at this; omega
              | cons h tl => exact ⟨h, tl, rfl⟩
            have hsnd : (rss.map fun r => ((r.getD 0 0 : Nat) : Int)).Nodup := by
              rw [List.nodup_iff_pairwise_ne, List.pairwise_iff_getElem]
              intro i j hi hj hij e
              rw [List.length_map] at hi hj
              rw [List.getElem_map, List.getElem_map] at e
              obtain ⟨q1, hq1, hp1, _, h1, t1, e1⟩ := rne i _ (List.getElem?_eq_getElem hi)
              obtain ⟨q2', hq2', hp2, _, h2, t2, e2⟩ := rne j _ (List.getElem?_eq_getElem hj)
              rw [e1, e2] at e
              have eh : h1 = h2 := by simp at e; exact_mod_cast e
              subst eh
              have m1 : h1 ∈ q1 := hp1.mem_iff.mp (by rw [e1]; exact List.mem_cons_self)
              have m2 : h1 ∈ q2' := hp2.mem_iff.mp (by rw [e2]; exact List.mem_cons_self)
              have := RG.one i j q1 q2' h1 hq1 hq2' m1 m2
              omega
            refine ⟨D2, as, rss.map (fun r => ((r.getD 0 0 : Nat) : Int)), rfl, SqL.of hD12, by rw [List.length_map]; exact hal, by rw [List.length_map]; omega, hsnd, fun i b h hb hh => ?_, fun ix hix hpw lq glq => ?_⟩
            · obtain ⟨r, hr, _, hb12⟩ := Paired.get? has hb
              obtain ⟨_, _, _, _, h', tl, rfl⟩ := rne i r hr
              rw [List.getElem?_map, hr] at hh
              have eh : h = (h' : Int) := (Option.some.inj hh).symm
              refine ⟨tl.map (fun n : Nat => (n : Int)), ?_⟩
              rw [hb12, eh, natsV_map]
              rfl
            rw [List.length_map] at hix
            have s13 : Same H12 (upd H12 lq (.lst (ix.map fun i => .ref (as.getD i 0)))) := (Same.refl H12).new glq
            have hlq13 : upd H12 lq (.lst (ix.map fun i => .ref (as.getD i 0))) lq = some (.lst (ix.map fun i => .ref (as.getD i 0))) := upd_same
            generalize upd H12 lq (.lst (ix.map fun i => .ref (as.getD i 0))) = H13 at s13 hlq13 ⊢
            have hixl : ∀ i ∈ ix, i < rss.length := fun i hi => List.mem_range.mp (hix.mem_iff.mp hi)
            have hget : ∀ i ∈ ix, ∃ r, rss[i]? = some r ∧ rss.getD i [] = r ∧ H13 (as.getD i 0) = some (.lst (natsV r)) := fun i hi => by
              have hil := hixl i hi
              have e : rss[i]? = some rss[i] := List.getElem?_eq_getElem hil
              obtain ⟨b, hb, _, hb12⟩ := Paired.get?' has e
              refine ⟨_, e, by rw [List.getD_eq_getElem?_getD, e]; rfl, ?_⟩
              rw [List.getD_eq_getElem?_getD, hb]
              exact s13 _ _ hb12
            have srt : Srt rgs (ix.map fun i => rss.getD i []) := by
              refine ⟨fun r hr => ?_, ?_, fun r hr => ?_, fun q hq => ?_⟩
              · obtain ⟨i, hi, rfl⟩ := List.mem_map.mp hr
                obtain ⟨r, hr', e, _⟩ := hget i hi
                rw [e]
                obtain ⟨_, _, _, hs, _⟩ := rne i r hr'
                exact hs
              · rw [List.map_map]
                rw [List.pairwise_map] at hpw ⊢
                refine hpw.imp_of_mem fun {i j} hi hj h => ?_
                obtain ⟨r1, h1, e1, _⟩ := hget i hi
                obtain ⟨r2, h2, e2, _⟩ := hget j hj
                rw [List.getD_eq_getElem?_getD, List.getD_eq_getElem?_getD, List.getElem?_map, List.getElem?_map, h1, h2] at h
                show (rss.getD i []).getD 0 0 < (rss.getD j []).getD 0 0
                rw [e1, e2]
                simpa using h
              · obtain ⟨i, hi, rfl⟩ := List.mem_map.mp hr
                obtain ⟨r, hr', e, _⟩ := hget i hi
                rw [e]
                obtain ⟨q, hq, hp, _, h, tl, rfl⟩ := rne i r hr'
                exact ⟨i, q, hq, hp, fun z => by cases z⟩
              · obtain ⟨k, hk⟩ := List.getElem?_of_mem hq
                have hkl : k < rss.length := by have := (List.getElem?_eq_some_iff.mp hk).1; omega
                obtain ⟨q', hq', hp, _⟩ := rne k _ (List.getElem?_eq_getElem hkl)
                rw [hk] at hq'
                cases hq'
                refine ⟨rss.getD k [], List.mem_map.mpr ⟨k, hix.mem_iff.mpr (List.mem_range.mpr hkl), rfl⟩, ?_⟩
                rw [List.getD_eq_getElem?_getD, List.getElem?_eq_getElem hkl]
                exact hp
            have hknots := tng.knots srt
            have hpair : Paired (LnAt H13) (ix.map fun i => V.ref (as.getD i 0)) (ix.map fun i => rss.getD i []) := by
              have : ∀ l : List Nat, (∀ i ∈ l, i ∈ ix) → Paired (LnAt H13) (l.map fun i => V.ref (as.getD i 0)) (l.map fun i => rss.getD i []) := by
                intro l
                induction l with
                | nil => exact fun _ => .nil
                | cons x t ih =>
                  intro h
                  obtain ⟨r, _, e, hb⟩ := hget x (h x List.mem_cons_self)
                  exact .cons ⟨as.getD x 0, rfl, (by show H13 (as.getD x 0) = some (.lst (natsV (rss.getD x []))); rw [e]; exact hb)⟩ (ih fun i hi => h i (List.mem_cons_of_mem _ hi))
              exact this ix fun i hi => hi
            have hrsl : (ix.map fun i => rss.getD i []).length ≤ 3 := by
              rw [List.length_map, hix.length_eq, List.length_range]; omega
            generalize (ix.map fun i => rss.getD i []) = rs at srt hknots hpair hrsl
            generalize (ix.map fun i => V.ref (as.getD i 0)) = vq at hlq13 hpair
            have s11a : Same H11 H13 := s12.trans s13
            have hpf13 := s11a.partsF hpf11
            have hnl13 := s11a _ _ (s9a _ _ hnl9)
            have hrN : ∀ r ∈ rs, ∀ i ∈ r, i < ns.length := fun r hr i hi => (tng.ring srt hr hi).1
            have hr24 : ∀ r ∈ rs, r.length ≤ 24 := fun r hr => by
              obtain ⟨k, q, hk, hp, _⟩ := srt.fro r hr
              have := (sub_flatten (List.mem_of_getElem? hk)).length_le
              have := hp.length_eq
              omega
            have htin : ∀ r ∈ rs, ∀ n ∈ r.map (nmI ns), n ∈ ps.map (·.1) := fun r hr n hn => by
              obtain ⟨i, hi, rfl⟩ := List.mem_map.mp hn
              rw [hnm]
              exact List.mem_of_getElem? (nmI_get (hrN r hr i hi))
            refine ⟨lq, rfl, ⟨_, SqL.of hlq13⟩, ?_⟩
            refine for_list (K := K) (a := lq) (xs := vq) (fun i σ H14 => ∃ (v8 v11 v12 : Option V) (fv : V), σ = [some (.ref a), some (.ref zl), some (.ref nl), some (.ref lf), some (.ref sp), v5', some (.ref rl), some (.ref R), v8, some (.ref pa), some fv, v11, v12] ∧ Same H13 H14 ∧ FstI ns rs i fv H14) ⟨_, _, _, .non, rfl, Same.refl H13, .inl ⟨rfl, fun j r hj => by omega⟩⟩ (fun i σ H14 _ ⟨_, _, _, _, _, s14, _⟩ => SqL.of (s14 _ _ hlq13)) ?_ ?_
            · rintro i x σ H14 hx ⟨v8', v11, v12, fv, rfl, s14, hfst⟩
              obtain ⟨r, hr, b, rfl, hb⟩ := Paired.get? hpair hx
              have hrm := List.mem_of_getElem? hr
              have hb14 := s14 _ _ hb
              have hnl14 := s14 _ _ hnl13
              have hr24' := hr24 r hrm
              refine ⟨_, rfl, b, rfl, ⟨_, SqL.of hb14⟩, fun D3 gD3 => ?_⟩
              refine comp_lst (K := K) (a := b) (xs := natsV r) (fun k σ H15 => ∃ v0 : Option V, σ = [v0, some (.ref nl)] ∧ Same H14 H15 ∧ H15 D3 = some (.lst (((r.take k).map (nmI ns)).map V.str))) ⟨_, rfl, (Same.refl H14).new gD3, upd_same⟩ (fun k σ H15 ⟨_, _, s15, _⟩ => SqL.of (s15 _ _ hb14)) ?_ ?_
              · rintro k y σ H15 hy ⟨v0'', rfl, s15, hD15⟩
                obtain ⟨m, hm, rfl⟩ := natsV_get hy
                have hk : k < r.length := (List.getElem?_eq_some_iff.mp hm).1
                have hmN := hrN r hrm m (List.mem_of_getElem? hm)
                refine ntG ?_
                refine ⟨_, rfl, _, rfl, nl, _, _, _, rfl, rfl, SqL.of (s15 _ _ hnl14), atI_nat (by rw [List.getElem?_map, nmI_get hmN]; rfl), ?_⟩
                refine ⟨_, hD15, small1000 (by rw [List.length_map, List.length_map, List.length_take]; omega), _, rfl, s15.put gD3, ?_⟩
                rw [upd_same, take_succ_get hm, List.map_append, List.map_append]
                rfl
              · rintro σ H15 ⟨v0'', rfl, s15, hD15⟩
                rw [natsV_len, List.take_length] at hD15
                refine ⟨D3, _, rfl, .inl ⟨SqL.of hD15, fun u gu => ?_⟩⟩
                have s16 : Same H15 (upd H15 u (.tup ((r.map (nmI ns)).map V.str))) := (Same.refl H15).new gu
                have hu16 : upd H15 u (.tup ((r.map (nmI ns)).map V.str)) u = some (.tup ((r.map (nmI ns)).map V.str)) := upd_same
                generalize upd H15 u (.tup ((r.map (nmI ns)).map V.str)) = H16 at s16 hu16 ⊢
                have s146 := s15.trans s16
                have s136 := s14.trans s146
                refine ⟨_, rfl, _, rfl, pa, ps, s136.partsF hpf13, hfit, hcl, .inl ⟨u, r.map (nmI ns), rfl, hu16, htin r hrm, fun h8 H17 s17 => ?_, fun h8 e H17 s17 cg => ?_⟩⟩
                · rw [List.length_map] at h8
                  refine ⟨_, rfl, u, _, rfl, .inr (SqT.of (s17 _ _ hu16)), _, _, rfl, rfl, _, rfl, ite2 (fun hh => absurd (of_decide_eq_true hh) (by rw [List.length_map, List.length_map]; omega)) fun _ => ?_⟩
                  refine ⟨_, rfl, _, rfl, ?_⟩
                  rw [decide_eq_true (show V.non = V.non from rfl)]
                  refine iteF ?_
                  exact ⟨_, _, _, fv, rfl, s136.trans s17, (hfst.same (s146.trans s17)).next hr h8⟩
                · rw [List.length_map] at h8
                  refine ⟨_, rfl, u, _, rfl, .inr (SqT.of (s17 _ _ hu16)), _, _, rfl, rfl, _, rfl, ite2 (fun _ => ?_) (fun hh => absurd (decide_eq_true (show (8 : Int) < ((((r.map (nmI ns)).map V.str).length : Nat) : Int) by rw [List.length_map, List.length_map]; omega)) hh)⟩
                  refine seq_ifJ (fun bb H18 => bb = decide (fv = V.non) ∧ H18 = H17) (fun σ' H18 => ∃ fv' : V, σ' = [some (.ref a), some (.ref zl), some (.ref nl), some (.ref lf), some (.ref sp), v5', some (.ref rl), some (.ref R), some (.ref b), some (.ref pa), some fv', some (.ref u), some (.ref e)] ∧ H18 = H17 ∧ FstI ns rs (i + 1) fv' H17) ?_ ?_ ?_ ?_
                  · exact fun Q' h => ⟨_, rfl, _, rfl, h _ _ ⟨rfl, rfl⟩⟩
                  · rintro H18 ⟨hbb, rfl⟩ D' hJ
                    refine ⟨_, rfl, hJ _ _ ⟨.ref u, rfl, rfl, ?_⟩⟩
                    exact (hfst.same (s146.trans s17)).take (of_decide_eq_true hbb.symm) hr h8 (s17 _ _ hu16)
                  · rintro H18 ⟨hbb, rfl⟩
                    exact ⟨fv, rfl, rfl, (hfst.same (s146.trans s17)).keep (of_decide_eq_false hbb.symm)⟩
                  · rintro σ' H18 ⟨fv', rfl, rfl, hf'⟩
                    refine ⟨_, rfl, _, rfl, e, u, r.map (nmI ns), rfl, cg, s17 _ _ hu16, by rw [List.length_map]; exact hr24', fun H19 s19 => ⟨_, rfl, iteF ?_⟩⟩
                    exact ⟨_, _, _, fv', rfl, (s136.trans s17).trans s19, hf'.same s19⟩
            · rintro σ H14 ⟨v8', v11, v12, fv, rfl, s14, hfst⟩
              have hvq := Paired.length hpair
              rw [hvq] at hfst
              have hkn : ∀ (I : Nat) (tG : List Str), (knotsOf (k1 ps) (ps.map (·.1)) (ps.map (·.1)))[I]? = some tG → ∃ r, rs[I]? = some r ∧ tG = r.map (nmI ns) := fun I tG h => by
                rw [hnm, hknots, List.getElem?_map] at h
                obtain ⟨r, hr, e⟩ := Option.map_eq_some_iff.mp h
                exact ⟨r, hr, e.symm⟩
              refine ⟨_, rfl, pa, ps, s14.partsF hpf13, hfit, hcl, .inr ⟨rfl, fun hall8 H15 s15 => ?_, fun I tG hI hG hlt e H15 s15 cg => ?_⟩⟩
              · rcases hfst with ⟨rfl, _⟩ | ⟨I, r, u, hIl, hr, h8, _, rfl, hu⟩
                · refine ⟨_, rfl, _, rfl, ?_⟩
                  rw [decide_eq_true (show V.non = V.non from rfl)]
                  refine iteT ?_
                  refine ⟨_, rfl, ?_⟩
                  dsimp only
                  rw [decide_eq_true (show V.non = V.non from rfl)]
                  exact q _
                · exfalso
                  have hm : r.map (nmI ns) ∈ knotsOf (k1 ps) (ps.map (·.1)) (ps.map (·.1)) := by
                    rw [hnm, hknots]
                    exact List.mem_map.mpr ⟨r, List.mem_of_getElem? hr, rfl⟩
                  have := hall8 _ hm
                  rw [List.length_map] at this
                  omega
              · obtain ⟨r', hr', rfl⟩ := hkn I tG hI
                rw [List.length_map] at hG
                rcases hfst with ⟨rfl, hno⟩ | ⟨I2, r, u, hIl, hr, h8, hlt2, rfl, hu⟩
                · exfalso
                  have := hno I r' (List.getElem?_eq_some_iff.mp hr').1 hr'
                  omega
                · have eI : I = I2 := by
                    rcases Nat.lt_trichotomy I I2 with z | z | z
                    · have := hlt2 I r' z hr'; omega
                    · exact z
                    · have := hlt I2 (r.map (nmI ns)) z (by rw [hnm, hknots, List.getElem?_map, hr]; rfl)
                      rw [List.length_map] at this
                      omega
                  subst eI
                  have er : r' = r := Option.some.inj (hr'.symm.trans hr)
                  subst r'
                  refine ⟨_, rfl, _, rfl, ?_⟩
                  rw [decide_eq_false (show ¬ V.ref u = V.non from fun z => by cases z)]
                  refine iteF ?_
                  refine ⟨_, rfl, _, rfl, e, u, r.map (nmI ns), rfl, cg, s15 _ _ hu, by rw [List.length_map]; exact hr24 r (List.mem_of_getElem? hr), fun H16 _ => q H16⟩
end
end K85
set_option Elab.async false
set_option linter.all false
set_option maxRecDepth 100000
namespace K85
open PySem L2
noncomputable def DA (K : PySem.W.Frag) (x : Str) (st : Stmt) : Prop := ∃ f od an sl oc kV dc pm cd ct, PySem.W.nsIn K mainGlobals x = some (some (.ref f)) ∧ K.lookup f = some ⟨oc, od, .func (PySem.W.fnOf x x (defArgs st) (defBody st) (defScope st) .none kV dc pm an cd ct), sl⟩ ∧ PySem.W.codeIn K cd x = true ∧ PySem.W.keepIn K (.ref f) = true
theorem DA.has {K : PySem.W.Frag} {h : Heap} {mg : Str → Option Value} {x : Str} {st : Stmt} (X : K.In h) (G : h.Ns mainGlobals mg) (d : DA K x st) : HasDef K mg x st := by
  obtain ⟨f, od, an, sl, oc, kV, dc, pm, cd, ct, a, l, c, k⟩ := d
  exact hasDef_mk X G a l c k
theorem DA.mk {K : PySem.W.Frag} {x : Str} {st : Stmt} {f : Addr} {od an : Option Addr} {sl : Array (Option Value)} {oc kV dc pm cd ct : Value} (a : PySem.W.nsIn K mainGlobals x = some (some (.ref f))) (l : K.lookup f = some ⟨oc, od, .func (PySem.W.fnOf x x (defArgs st) (defBody st) (defScope st) .none kV dc pm an cd ct), sl⟩) (c : PySem.W.codeIn K cd x = true) (k : PySem.W.keepIn K (.ref f) = true) : DA K x st := ⟨f, od, an, sl, oc, kV, dc, pm, cd, ct, a, l, c, k⟩
theorem all_mk {l : PySem.W.OpenLaw} {w : World} {K : PySem.W.Frag} {h : Heap} {mg : Str → Option Value} {fa : Addr} (X : K.In h) (G : h.Ns mainGlobals mg) (hfa : mg "law" = some (.ref fa))
    {tk0 : Tok}
    {c_BundleError : Addr}
    {c_TooMany : Addr}
    {c_Asks : Addr}
    {c_Endless : Addr}
    {c_NoMap : Addr}
    {c_NoName : Addr}
    {c_NoPart : Addr}
    {c_NoPlace : Addr}
    {c_NoRow : Addr}
    {c_NotGiven : Addr}
    {c_Twice : Addr}
    {cd_c_BundleError : ClassData}
    {cd_c_TooMany : ClassData}
    {fi_TooMany : Addr} {iod_TooMany ian_TooMany : Option Addr} {isl_TooMany : Array (Option Value)} {ioc_TooMany ikV_TooMany idc_TooMany ipm_TooMany icd_TooMany ict_TooMany : Value}
    {jN_TooMany : Addr} {jnm_TooMany jq_TooMany : Str} {jbs_TooMany : List Value} {jh_TooMany : Bool} {jsn_TooMany : List Str} {jsub_TooMany : List Value} {jab_TooMany : Bool} {jcol_TooMany : Option Bool} {jdd_TooMany : Option Addr} {j0_TooMany j1_TooMany j2_TooMany j3_TooMany j5_TooMany : Option Value}
    (hd : DA K "brings" s_brings ∧
    DA K "bringings" s_bringings ∧
    DA K "named_parts" s_named_parts ∧
    DA K "knots_in" s_knots_in ∧
    DA K "knot_around" s_knot_around ∧
    DA K "turned" s_turned ∧
    DA K "spread" s_spread ∧
    DA K "tangles" s_tangles ∧
    DA K "numbers_in" s_numbers_in ∧
    DA K "ring_table" s_ring_table ∧
    DA K "steps_within" s_steps_within ∧
    DA K "place_of" s_place_of ∧
    DA K "best_lasts" s_best_lasts ∧
    DA K "count_with_last" s_count_with_last ∧
    DA K "fewest" s_fewest ∧
    DA K "fewest_within" s_fewest_within ∧
    DA K "_law_cell_at" s_law_cell_at ∧
    DA K "_law_mixed" s_law_mixed ∧
    DA K "_law_names" s_law_names ∧
    DA K "_law_sizes" s_law_sizes ∧
    DA K "_law_rings" s_law_rings ∧
    DA K "_law_more" s_law_more ∧
    DA K "_law_fine" s_law_fine ∧
    DA K "_law_caught" s_law_caught ∧
    DA K "law" s_law)
    (z0 : PySem.W.nsIn K mainGlobals "len" = some none)
    (z1 : PySem.W.nsIn K mainGlobals "range" = some none)
    (z2 : PySem.W.nsIn K mainGlobals "str" = some none)
    (z3 : PySem.W.nsIn K mainGlobals "tuple" = some none)
    (z4 : PySem.W.nsIn K mainGlobals "dict" = some none)
    (z5 : PySem.W.nsIn K mainGlobals "list" = some none)
    (z6 : PySem.W.nsIn K mainGlobals "isinstance" = some none)
    (z7 : PySem.W.nsIn K mainGlobals "min" = some none)
    (z8 : PySem.W.nsIn K mainGlobals "zip" = some none)
    (z9 : PySem.W.nsIn K mainGlobals "sum" = some none)
    (z10 : PySem.W.nsIn K mainGlobals "enumerate" = some none)
    (z11 : PySem.W.nsIn K mainGlobals "sorted" = some none)
    (z12 : PySem.W.nsIn K mainGlobals "ValueError" = some none)
    (gc0 : PySem.W.nsIn K mainGlobals "MOST_PARTS" = some (some (.int 8 tk0)))
    (x_BundleError : PySem.W.nsIn K mainGlobals "BundleError" = some (some (.ref c_BundleError)))
    (x_TooMany : PySem.W.nsIn K mainGlobals "TooMany" = some (some (.ref c_TooMany)))
    (x_Asks : PySem.W.nsIn K mainGlobals "Asks" = some (some (.ref c_Asks)))
    (x_Endless : PySem.W.nsIn K mainGlobals "Endless" = some (some (.ref c_Endless)))
    (x_NoMap : PySem.W.nsIn K mainGlobals "NoMap" = some (some (.ref c_NoMap)))
    (x_NoName : PySem.W.nsIn K mainGlobals "NoName" = some (some (.ref c_NoName)))
    (x_NoPart : PySem.W.nsIn K mainGlobals "NoPart" = some (some (.ref c_NoPart)))
    (x_NoPlace : PySem.W.nsIn K mainGlobals "NoPlace" = some (some (.ref c_NoPlace)))
    (x_NoRow : PySem.W.nsIn K mainGlobals "NoRow" = some (some (.ref c_NoRow)))
    (x_NotGiven : PySem.W.nsIn K mainGlobals "NotGiven" = some (some (.ref c_NotGiven)))
    (x_Twice : PySem.W.nsIn K mainGlobals "Twice" = some (some (.ref c_Twice)))
    (k_BundleError_cl : PySem.W.clsIn K c_BundleError = some cd_c_BundleError)
    (k_BundleError_ty : PySem.W.typeIn K (.ref c_BundleError) = some (.type "type"))
    (k_BundleError_base : PySem.W.mroIn K c_BundleError (.type "BaseException") = some true)
    (k_BundleError_ga : PySem.W.findIn K (.ref c_BundleError) "__getattribute__" = some (some (.builtin "BaseException.__getattribute__")))
    (k_BundleError_gt : PySem.W.findIn K (.ref c_BundleError) "__getattr__" = some none)
    (k_BundleError_ca : PySem.W.findIn K (.ref c_BundleError) "__class__" = some (some (.builtin "object.__class__")))
    (k_BundleError_gd : PySem.W.specialIn K (.builtin "object.__class__") "__get__" = some (some (.builtin "getset_descriptor.__get__")))
    (k_BundleError_tk : PySem.W.takesIn K (.builtin "object.__class__") = some true)
    (k_BundleError_ob : PySem.W.mroIn K c_BundleError (.type "object") = some true)
    (k_TooMany_cl : PySem.W.clsIn K c_TooMany = some cd_c_TooMany)
    (k_TooMany_ty : PySem.W.typeIn K (.ref c_TooMany) = some (.type "type"))
    (k_TooMany_base : PySem.W.mroIn K c_TooMany (.type "BaseException") = some true)
    (k_TooMany_ga : PySem.W.findIn K (.ref c_TooMany) "__getattribute__" = some (some (.builtin "BaseException.__getattribute__")))
    (k_TooMany_gt : PySem.W.findIn K (.ref c_TooMany) "__getattr__" = some none)
    (k_TooMany_ca : PySem.W.findIn K (.ref c_TooMany) "__class__" = some (some (.builtin "object.__class__")))
    (k_TooMany_gd : PySem.W.specialIn K (.builtin "object.__class__") "__get__" = some (some (.builtin "getset_descriptor.__get__")))
    (k_TooMany_tk : PySem.W.takesIn K (.builtin "object.__class__") = some true)
    (k_TooMany_ob : PySem.W.mroIn K c_TooMany (.type "object") = some true)
    (f_i_self : PySem.W.kitOne K (.ref c_TooMany) (.ref c_TooMany) = some true)
    (f_i_val : PySem.W.kitOne K (.ref c_TooMany) (.type "ValueError") = some true)
    (f_i_oth : PySem.W.kitAny K (.ref c_TooMany) [.ref c_Asks, .ref c_Endless, .ref c_NoMap, .ref c_NoName, .ref c_NoPart, .ref c_NoPlace, .ref c_NoRow, .ref c_NotGiven, .ref c_Twice] = some false)
    (f_s_TooMany : PySem.W.mroIn K c_TooMany (.ref c_BundleError) = some true)
    (i_TooMany_ini : PySem.W.findIn K (.ref c_TooMany) "__init__" = some (some (.ref fi_TooMany)))
    (i_TooMany_l : K.lookup fi_TooMany = some ⟨ioc_TooMany, iod_TooMany, .func (PySem.W.fnOf "__init__" "TooMany.__init__" (defArgs s_TooMany___init__) (defBody s_TooMany___init__) (defScope s_TooMany___init__) .none ikV_TooMany idc_TooMany ipm_TooMany ian_TooMany icd_TooMany ict_TooMany), isl_TooMany⟩)
    (i_TooMany_c : PySem.W.codeIn K icd_TooMany "TooMany.__init__" = true)
    (i_TooMany_k : PySem.W.keepIn K (.ref fi_TooMany) = true)
    (i_TooMany_f : PySem.W.isFn K (.ref fi_TooMany) = true)
    (i_TooMany_kc : PySem.W.keepIn K (.ref c_TooMany) = true)
    (i_TooMany_o : K.lookup c_TooMany = some (excClassObj jnm_TooMany jq_TooMany c_TooMany jN_TooMany jbs_TooMany (.ref c_BundleError :: [.type "ValueError", .type "Exception", .type "BaseException", .type "object"]) jh_TooMany jsn_TooMany jsub_TooMany jab_TooMany jcol_TooMany jdd_TooMany j0_TooMany j1_TooMany j2_TooMany j3_TooMany j5_TooMany "ValueError.__new__"))
    (i_TooMany_e : PySem.W.excIn K c_BundleError [.type "ValueError", .type "Exception", .type "BaseException", .type "object"] "ValueError.__new__" = true)
    (i_TooMany_ov : OverV cd_c_TooMany.mro)
    (i_TooMany_hd : cd_c_TooMany.hasDict = true)
    (i_TooMany_sa : PySem.W.findIn K (.ref c_TooMany) "__setattr__" = some (some (.builtin "object.__setattr__")))
    (i_TooMany_no : PySem.W.findIn K (.ref c_TooMany) "parts" = some none)
    (b_BundleError_ga : PySem.W.specialIn K (.ref c_BundleError) "__getattribute__" = some (some (.builtin "type.__getattribute__")))
    (b_BundleError_rd : PySem.W.readsIn K c_BundleError (.type "type") = true)
    (b_BundleError_fc : PySem.W.findCls K (.ref c_BundleError) (.type "type") "__init__" = some (.val (.builtin "ValueError.__init__"))) :
    ∃ fd : FuncData, (∀ (s : Shared) (v : Value), BindsTo s fd ⟨[v], []⟩ [("_law_script", v)]) ∧ ∀ base : Heap, K.In base → base.Ns mainGlobals mg → FnOk l.prog w K mg base CX0 9 fa fd ["_law_script"] (spLaw K) := by
  obtain ⟨d0, d1, d2, d3, d4, d5, d6, d7, d8, d9, d10, d11, d12, d13, d14, d15, d16, d17, d18, d19, d20, d21, d22, d23, f, od, an, sl, oc, kV, dc, pm, cd, ct, a, l, c, k⟩ := hd
  have e := hfa.symm.trans (PySem.W.mg_of X G a)
  cases e
  have T : Txt K mg := ⟨PySem.W.mg_none_of X G z0, PySem.W.mg_none_of X G z1, PySem.W.mg_none_of X G z2, PySem.W.mg_none_of X G z3, PySem.W.mg_none_of X G z4, PySem.W.mg_none_of X G z5, PySem.W.mg_none_of X G z6, PySem.W.mg_none_of X G z7, PySem.W.mg_none_of X G z8, PySem.W.mg_none_of X G z9, PySem.W.mg_none_of X G z10, PySem.W.mg_none_of X G z11, PySem.W.mg_none_of X G z12, ⟨_, PySem.W.mg_of X G gc0, ⟨_, rfl⟩⟩, d0.has X G, d1.has X G, d2.has X G, d3.has X G, d4.has X G, d5.has X G, d6.has X G, d7.has X G, d8.has X G, d9.has X G, d10.has X G, d11.has X G, d12.has X G, d13.has X G, d14.has X G, d15.has X G, d16.has X G, d17.has X G, d18.has X G, d19.has X G, d20.has X G, d21.has X G, d22.has X G, d23.has X G, ⟨⟨c_BundleError, c_TooMany, c_Asks, c_Endless, c_NoMap, c_NoName, c_NoPart, c_NoPlace, c_NoRow, c_NotGiven, c_Twice⟩, ⟨PySem.W.mg_of X G x_BundleError, PySem.W.mg_of X G x_TooMany, PySem.W.mg_of X G x_Asks, PySem.W.mg_of X G x_Endless, PySem.W.mg_of X G x_NoMap, PySem.W.mg_of X G x_NoName, PySem.W.mg_of X G x_NoPart, PySem.W.mg_of X G x_NoPlace, PySem.W.mg_of X G x_NoRow, PySem.W.mg_of X G x_NotGiven, PySem.W.mg_of X G x_Twice, ⟨(by rw [k_BundleError_cl]; rfl), k_BundleError_ty, k_BundleError_base, k_BundleError_ga, k_BundleError_gt, k_BundleError_ca, k_BundleError_gd, k_BundleError_tk, k_BundleError_ob⟩, ⟨(by rw [k_TooMany_cl]; rfl), k_TooMany_ty, k_TooMany_base, k_TooMany_ga, k_TooMany_gt, k_TooMany_ca, k_TooMany_gd, k_TooMany_tk, k_TooMany_ob⟩, f_i_self, f_i_val, f_i_oth, f_s_TooMany, ⟨fi_TooMany, _, fun_mk (st := s_TooMany___init__) i_TooMany_l i_TooMany_c i_TooMany_k, ⟨⟨c_BundleError, jN_TooMany, jnm_TooMany, jq_TooMany, jbs_TooMany, jh_TooMany, jsn_TooMany, jsub_TooMany, jab_TooMany, jcol_TooMany, jdd_TooMany, j0_TooMany, j1_TooMany, j2_TooMany, j3_TooMany, j5_TooMany, i_TooMany_o, i_TooMany_e⟩, i_TooMany_ini, i_TooMany_f⟩, i_TooMany_kc⟩, ⟨⟨cd_c_TooMany, k_TooMany_cl, i_TooMany_ov, i_TooMany_hd⟩, i_TooMany_sa, i_TooMany_no⟩, ⟨b_BundleError_ga, b_BundleError_rd, b_BundleError_fc⟩⟩⟩⟩
  exact ⟨_, fun s v => .of_eq rfl, fun base _ _ => law_fn (fun_mk (st := s_law) l c k) T⟩
theorem walk {l : PySem.W.OpenLaw} {q : Program} {loose : List Str} {XP : (Str → Option Value) → Heap → Prop} {YP : World → Heap → Prop} {d : DefRec} {K : Params → PySem.W.Frag} (hn : l.most = some 63) (hdf : d.params.defaults = [])
    (hY : ∀ (w : World) (h : Heap), YP w h → (K w.params).In h)
    (F : ∀ (w : World) (mg : Str → Option Value) (fa : Addr) (h : Heap), (K w.params).In h → h.Ns mainGlobals mg → mg d.name = some (.ref fa) →
      ∃ fd : FuncData, (∀ (s : Shared) (u : Value), BindsTo s fd ⟨[u], []⟩ [("_law_script", u)]) ∧ ∀ base : Heap, (K w.params).In base → base.Ns mainGlobals mg → FnOk l.prog w (K w.params) mg base CX0 9 fa fd ["_law_script"] (spLaw (K w.params))) :
    PySem.W.WalkO q loose XP YP l.row.toRowW d [] (fun f vs => PySem.call f vs) :=
  L2.walk_of (n := 63) (k := 9) (x := "_law_script") (CX := fun _ => CX0) (sp := fun w => spLaw (K w.params)) hn (by decide) hdf ⟨rfl, by decide, by decide⟩ hY F (fun _ _ a ns hl _ hS => ⟨a, ns, rfl, hS, hl, fun _ => rfl⟩) fun _ _ _ _ _ z => z
end K85
open PySem PySem.W PyProof.Rows
set_option maxRecDepth 100000 in
set_option maxHeartbeats 0 in
theorem PySem.Challenge.cw_bundlehouse_k85_too_many_in_a_tangle_holds : PySem.Challenge.rw_bundlehouse_k85_too_many_in_a_tangle.Holds := by
  w_on
  refine HD.head_of (l := PySem.Challenge.rw_bundlehouse_k85_too_many_in_a_tangle) (q := HD.cutTo PySem.Challenge.rw_bundlehouse_k85_too_many_in_a_tangle.prog [43]) (K := K85.heapK) (as := K85.heapA) (N := 7184) K85.heapE K85.said K85.top_run (by rfl) (by rfl) (by rfl) (by rfl) (by decide +kernel) ⟨rfl, rfl, rfl, rfl, rfl, by decide +kernel⟩ ?hw ?hc
  (case hw => w_witness2)
  k_fill
  refine K85.walk (l := PySem.Challenge.rw_bundlehouse_k85_too_many_in_a_tangle) rfl rfl (fun w h Y => PySem.W.kIn_of Y) ?F
  case F =>
    intro w mg fa h KX G hmg
    refine' K85.all_mk KX G hmg ?hd ?z0 ?z1 ?z2 ?z3 ?z4 ?z5 ?z6 ?z7 ?z8 ?z9 ?z10 ?z11 ?z12 ?gc0 ?x_BundleError ?x_TooMany ?x_Asks ?x_Endless ?x_NoMap ?x_NoName ?x_NoPart ?x_NoPlace ?x_NoRow ?x_NotGiven ?x_Twice ?k_BundleError_cl ?k_BundleError_ty ?k_BundleError_base ?k_BundleError_ga ?k_BundleError_gt ?k_BundleError_ca ?k_BundleError_gd ?k_BundleError_tk ?k_BundleError_ob ?k_TooMany_cl ?k_TooMany_ty ?k_TooMany_base ?k_TooMany_ga ?k_TooMany_gt ?k_TooMany_ca ?k_TooMany_gd ?k_TooMany_tk ?k_TooMany_ob ?f_i_self ?f_i_val ?f_i_oth ?f_s_TooMany ?i_TooMany_ini ?i_TooMany_l ?i_TooMany_c ?i_TooMany_k ?i_TooMany_f ?i_TooMany_kc ?i_TooMany_o ?i_TooMany_e ?i_TooMany_ov ?i_TooMany_hd ?i_TooMany_sa ?i_TooMany_no ?b_BundleError_ga ?b_BundleError_rd ?b_BundleError_fc
    case hd =>
      iterate 24 (refine ⟨?_, ?_⟩; focus (apply K85.DA.mk; k_is; k_is; k_is; k_is))
      apply K85.DA.mk; k_is; k_is; k_is; k_is
    (case z0 => k_is); (case z1 => k_is); (case z2 => k_is); (case z3 => k_is); (case z4 => k_is); (case z5 => k_is); (case z6 => k_is); (case z7 => k_is); (case z8 => k_is); (case z9 => k_is); (case z10 => k_is); (case z11 => k_is); (case z12 => k_is)
    (case gc0 => k_is)
    (case x_BundleError => k_is)
    (case x_TooMany => k_is)
    (case x_Asks => k_is)
    (case x_Endless => k_is)
    (case x_NoMap => k_is)
    (case x_NoName => k_is)
    (case x_NoPart => k_is)
    (case x_NoPlace => k_is)
    (case x_NoRow => k_is)
    (case x_NotGiven => k_is)
    (case x_Twice => k_is)
    (case k_BundleError_cl => k_is)
    (case k_BundleError_ty => k_is)
    (case k_BundleError_base => k_is)
    (case k_BundleError_ga => k_is)
    (case k_BundleError_gt => k_is)
    (case k_BundleError_ca => k_is)
    (case k_BundleError_gd => k_is)
    (case k_BundleError_tk => k_is)
    (case k_BundleError_ob => k_is)
    (case k_TooMany_cl => k_is)
    (case k_TooMany_ty => k_is)
    (case k_TooMany_base => k_is)
    (case k_TooMany_ga => k_is)
    (case k_TooMany_gt => k_is)
    (case k_TooMany_ca => k_is)
    (case k_TooMany_gd => k_is)
    (case k_TooMany_tk => k_is)
    (case k_TooMany_ob => k_is)
    (case f_i_self => kit_is)
    (case f_i_val => kit_is)
    (case f_i_oth => kit_is)
    (case f_s_TooMany => k_is)
    (case i_TooMany_ini => k_is)
    (case i_TooMany_l => k_is)
    (case i_TooMany_c => k_is)
    (case i_TooMany_k => k_is)
    (case i_TooMany_f => k_is)
    (case i_TooMany_kc => k_is)
    (case i_TooMany_o => k_is)
    (case i_TooMany_e => k_exc)
    (case i_TooMany_ov => exact .own (.own .base))
    (case i_TooMany_hd => rfl)
    (case i_TooMany_sa => k_is)
    (case i_TooMany_no => k_is)
    (case b_BundleError_ga => k_is)
    (case b_BundleError_rd => k_is)
    (case b_BundleError_fc => k_is)