import PyProof.Rows.All
import Wide.All
import OpenK.AllK
import Wide.FinOn
import Lean
import PyProof.EqAt
import PyProof.EqKinds
import PyProof.TupleCall
import PySem.Challenge.RW_bundlehouse_k88_whole_rings_cut
set_option Elab.async false
set_option linter.all false
set_option maxRecDepth 100000
namespace HD
open PySem PySem.W
noncomputable abbrev cutTo (p : Program) (ks : List Nat) : Program :=
 { p with main := { p.main with body := ks.filterMap fun i => p.main.body[i]? } }
noncomputable abbrev en (P : Params) (x : Str) (t : Tok) (v : Value) : DictEntry := ⟨PyData.keyHash P x, .str x t, v⟩
noncomputable abbrev tp (p : Program) (i : Nat) : Stmt := p.main.body.getD i (.Pass ⟨0, 0, 0, 0⟩)
noncomputable def dA (s : Stmt) : Arguments := match s with
 | .FunctionDef _ a _ _ _ _ _ _ _ _ => a
 | _ => ⟨[], [], none, [], [], none, []⟩
noncomputable def dB (s : Stmt) : List Stmt := match s with
 | .FunctionDef _ _ b _ _ _ _ _ _ _ => b
 | _ => []
noncomputable def dS (s : Stmt) : Scope := match s with
 | .FunctionDef _ _ _ _ _ _ c _ _ _ => c
 | _ => default
theorem left_of {p q : Program} {Xt : Shared → Bool} {α : Type} {Yf : Shared → α} {Ya : World → α} {N : Nat}
   (h1 : ∀ w, ((openEnds treeTable p w N).map fun s => (openSeen q [] (importedModules p.main.body) Xt true s).1) = some (openGood q []).1)
   (h2 : ∀ w, ((openEnds treeTable p w N).map fun s => ((openSeen q [] (importedModules p.main.body) Xt true s).2.1, (openSeen q [] (importedModules p.main.body) Xt true s).2.2.1)) = some ((openGood q []).2.1, (openGood q []).2.2.1))
   (h3 : ∀ w, ((openEnds treeTable p w N).map fun s => (openSeen q [] (importedModules p.main.body) Xt true s).2.2.2) = some (openGood q []).2.2.2)
   (h4 : ∀ w, (openEnds treeTable p w N).map Yf = some (Ya w)) : LeftO p q [] Xt Yf Ya N := by
 intro w
 have a1 := h1 w
 have a2 := h2 w
 have a3 := h3 w
 have a4 := h4 w
 generalize openEnds treeTable p w N = r at a1 a2 a3 a4 ⊢
 cases r with
 | none => cases a4
 | some s =>
   have b1 := Option.some.inj a1
   have b2 := Prod.mk.inj (Option.some.inj a2)
   have b3 := Option.some.inj a3
   have b4 := Option.some.inj a4
   have e : openSeen q [] (importedModules p.main.body) Xt true s = openGood q [] := Prod.ext b1 (Prod.ext b2.1 (Prod.ext b2.2 b3))
   show some (openSeen q [] (importedModules p.main.body) Xt true s, Yf s) = some (openGood q [], Ya w)
   rw [e, b4]
theorem head_of {l : OpenLaw} {q : Program} {K : Params → Frag} {as : List Addr} {N : Nat} {d : DefRec} {kwd : List (Str × Expr)}
   (e : ∀ P, as = (K P).map (·.1)) (said : l.wellSaid = true)
   (hl : LeftO l.row.prog q [] (fun s => xlAt q [] s && recOk (RowW.records l.row.toRowW) s) (kHook K as e).obs (kHook K as e).val N)
   (h1 : defOf q l.row.name = some (d, kwd)) (h2 : l.row.prog.theDef l.row.name = some (d.params, d.body, d.scope))
   (h3 : kwWritten? d.params.kwonlyargs d.params.kw_defaults = some kwd) (h4 : (!l.row.writes || l.row.records.isEmpty) = true)
   (h5 : (chainsOk q && opensWell l.row.prog && (frees l.row.toRowW && l.row.within.isEmpty)) = true)
   (h6 : l.row.prog.bare) (h7 : l.row.toRowW.promised)
   (go : WalkO q [] (XL q []) (kHook K as e).says l.row.toRowW d kwd fun f vs => PySem.call f vs) : l.Holds := by
 refine holds_law said fun sd => ?_
 refine holds_open (XP := XL q []) (YP := (kHook K as e).says) hl (kHook K as e).of (kHook K as e).keeps ?_ XL.keeps h1 h2 h3 ?_ h4 sd h5 h6 h7 go
 · intro s x
   exact xl_of s (Bool.and_eq_true_iff.mp x).1
 · intro s x
   exact recFacts_of (Bool.and_eq_true_iff.mp x).2
end HD
set_option Elab.async false
set_option linter.all false
set_option maxRecDepth 100000
namespace K88
open PySem PySem.W
theorem len1 {α : Type} {us : List α} (h : us.length = 1) : ∃ a, us = [a] := by
 match us, h with
 | [a], _ => exact ⟨a, rfl⟩
theorem len2 {α : Type} {us : List α} (h : us.length = 2) : ∃ a b, us = [a, b] := by
 match us, h with
 | [a, b], _ => exact ⟨a, b, rfl⟩
theorem len3 {α : Type} {us : List α} (h : us.length = 3) : ∃ a b c, us = [a, b, c] := by
 match us, h with
 | [a, b, c], _ => exact ⟨a, b, c, rfl⟩
theorem len4 {α : Type} {us : List α} (h : us.length = 4) : ∃ a b c d, us = [a, b, c, d] := by
 match us, h with
 | [a, b, c, d], _ => exact ⟨a, b, c, d, rfl⟩
set_option maxHeartbeats 0
noncomputable def heapK (P : Params) : PySem.W.Frag :=
 (nat_lit 2, { cls := Value.none, data := Data.dict #[] }) ::
 (nat_lit 3, { cls := Value.type "dict", data := Data.dict #[HD.en P "__name__" 165 (Value.str ("law_bundlehouse_k88_whole_rings_cut") 390), HD.en P "__doc__" 166 (Value.none), HD.en P "__package__" 167 (Value.none), HD.en P "__loader__" 168 (Value.builtin "__main__.__loader__#opaque"), HD.en P "__spec__" 169 (Value.none), HD.en P "__annotations__" 170 (Value.ref 6), HD.en P "__builtins__" 171 (Value.ref 4), HD.en P "__file__" 173 (Value.str ("/claim/cut.py") 172), HD.en P "__cached__" 174 (Value.none), HD.en P "BundleError" 206 (Value.ref 24), HD.en P "TooMany" 231 (Value.ref 44), HD.en P "numbers_in" 239 (Value.ref 51), HD.en P "brings" 249 (Value.ref 58), HD.en P "bringings" 259 (Value.ref 65), HD.en P "named_parts" 270 (Value.ref 72), HD.en P "knots_in" 283 (Value.ref 79), HD.en P "knot_around" 289 (Value.ref 84), HD.en P "turned" 299 (Value.ref 91), HD.en P "spread" 310 (Value.ref 98), HD.en P "MOST_PARTS" 314 (Value.int 8 313), HD.en P "tangles" 321 (Value.ref 105), HD.en P "steps_within" 327 (Value.ref 110), HD.en P "place_of" 333 (Value.ref 115), HD.en P "best_lasts" 339 (Value.ref 120), HD.en P "count_with_last" 349 (Value.ref 127), HD.en P "fewest" 355 (Value.ref 132), HD.en P "fewest_within" 361 (Value.ref 137), HD.en P "broken" 377 (Value.ref 144), HD.en P "laid_in" 383 (Value.ref 149), HD.en P "shortest_way" 389 (Value.ref 154), HD.en P "_law_cell_at" 399 (Value.ref 161), HD.en P "_law_mixed" 408 (Value.ref 168), HD.en P "_law_names" 414 (Value.ref 173), HD.en P "_law_other" 424 (Value.ref 180), HD.en P "_law_no_ring" 430 (Value.ref 185), HD.en P "_law_pairs_of" 436 (Value.ref 190), HD.en P "_law_is_cut" 442 (Value.ref 195), HD.en P "_law_plain" 448 (Value.ref 200), HD.en P "_law_without" 454 (Value.ref 205), HD.en P "_law_round" 460 (Value.ref 210), HD.en P "_law_rounds" 466 (Value.ref 215), HD.en P "law" 472 (Value.ref 220)] 42 }) ::
 (nat_lit 15, { cls := Value.type "tuple", data := Data.seq #[Value.type "ValueError"] }) ::
 (nat_lit 22, { cls := Value.type "tuple", data := Data.seq #[] }) ::
 (nat_lit 23, { cls := Value.type "dict", data := Data.dict #[HD.en P "__module__" 196 (Value.str ("bundlehouse.errors") 187), HD.en P "__firstlineno__" 200 (Value.int 2 199), HD.en P "__static_attributes__" 201 (Value.ref 22), HD.en P "__weakref__" 203 (Value.ref 25), HD.en P "__doc__" 204 (Value.none)] 3 }) ::
 (nat_lit 24, { cls := Value.type "type", data := Data.cls { name := "BundleError", bases := [Value.type "ValueError"], mro := [Value.ref 24, Value.type "ValueError", Value.type "Exception", Value.type "BaseException", Value.type "object"], ns := 23, qualname := "BundleError", subclasses := [Value.ref 44] }, slots := #[some (Value.ref 15), none, some (Value.str ("BundleError") 189), some (Value.str ("BundleError") 197), some (Value.builtin "ValueError.__new__"), some (Value.bool true)] }) ::
 (nat_lit 25, { cls := Value.type "getset_descriptor", data := Data.fields #[Value.str ("__weakref__") 202, Value.ref 24, Value.builtin "ExceptionGroup.__weakref__", Value.none] }) ::
 (nat_lit 28, { cls := Value.type "tuple", data := Data.seq #[Value.ref 24] }) ::
 (nat_lit 35, { cls := Value.type "tuple", data := Data.seq #[] }) ::
 (nat_lit 37, { cls := Value.type "tuple", data := Data.seq #[Value.str ("self") 222, Value.str ("parts") 223] }) ::
 (nat_lit 38, { cls := Value.type "tuple", data := Data.seq #[] }) ::
 (nat_lit 40, { cls := Value.type "code", data := Data.fields #[Value.str ("__init__") 219, Value.str ("TooMany.__init__") 220, Value.str ("/claim/cut.py") 221, Value.int 6 0, Value.int 2 0, Value.int 0 0, Value.int 0 0, Value.int 3 0, Value.ref 35, Value.bool true, Value.int 181 0, Value.ref 36, Value.none, Value.ref 37, Value.ref 38, Value.ref 39, Value.int 224 0, Value.int 6 0, Value.str ("/claim/cut.py") 225] }) ::
 (nat_lit 42, { cls := Value.type "tuple", data := Data.seq #[Value.str ("parts") 227] }) ::
 (nat_lit 43, { cls := Value.type "dict", data := Data.dict #[HD.en P "__module__" 214 (Value.str ("bundlehouse.errors") 187), HD.en P "__firstlineno__" 218 (Value.int 4 217), HD.en P "__init__" 226 (Value.ref 41), HD.en P "__static_attributes__" 228 (Value.ref 42), HD.en P "__doc__" 229 (Value.none)] 2 }) ::
 (nat_lit 44, { cls := Value.type "type", data := Data.cls { name := "TooMany", bases := [Value.ref 24], mro := [Value.ref 44, Value.ref 24, Value.type "ValueError", Value.type "Exception", Value.type "BaseException", Value.type "object"], ns := 43, qualname := "TooMany" }, slots := #[some (Value.ref 28), none, some (Value.str ("TooMany") 207), some (Value.str ("TooMany") 215), some (Value.builtin "ValueError.__new__"), some (Value.bool true)] }) ::
 (nat_lit 47, { cls := Value.type "tuple", data := Data.seq #[] }) ::
 (nat_lit 50, { cls := Value.type "code", data := Data.fields #[Value.str ("numbers_in") 234, Value.str ("numbers_in") 235, Value.str ("/claim/cut.py") 236, Value.int 10 0, Value.int 1 0, Value.int 0 0, Value.int 0 0, Value.int 3 0, Value.ref 47, Value.bool true, Value.int 181 0, Value.ref 48, Value.none, Value.none, Value.none, Value.ref 49, Value.int 237 0, Value.int 10 0, Value.str ("/claim/cut.py") 238] }) ::
 (nat_lit 51, ⟨Value.type "function", none, .func (PySem.W.fnOf "numbers_in" "numbers_in" (HD.dA (HD.tp PySem.Challenge.pw_bundlehouse_k88_whole_rings_cut 4)) (HD.dB (HD.tp PySem.Challenge.pw_bundlehouse_k88_whole_rings_cut 4)) (HD.dS (HD.tp PySem.Challenge.pw_bundlehouse_k88_whole_rings_cut 4)) (Value.none) (Value.none) (Value.none) (Value.str ("bundlehouse.cuts") 232) (none) (Value.ref 50) (Value.none)), #[]⟩) ::
 (nat_lit 52, { cls := Value.type "tuple", data := Data.seq #[] }) ::
 (nat_lit 54, { cls := Value.type "tuple", data := Data.seq #[Value.str ("parts") 245, Value.str ("part") 246] }) ::
 (nat_lit 55, { cls := Value.type "tuple", data := Data.seq #[] }) ::
 (nat_lit 57, { cls := Value.type "code", data := Data.fields #[Value.str ("brings") 242, Value.str ("brings") 243, Value.str ("/claim/cut.py") 244, Value.int 13 0, Value.int 2 0, Value.int 0 0, Value.int 0 0, Value.int 3 0, Value.ref 52, Value.bool true, Value.int 181 0, Value.ref 53, Value.none, Value.ref 54, Value.ref 55, Value.ref 56, Value.int 247 0, Value.int 13 0, Value.str ("/claim/cut.py") 248] }) ::
 (nat_lit 58, ⟨Value.type "function", none, .func (PySem.W.fnOf "brings" "brings" (HD.dA (HD.tp PySem.Challenge.pw_bundlehouse_k88_whole_rings_cut 6)) (HD.dB (HD.tp PySem.Challenge.pw_bundlehouse_k88_whole_rings_cut 6)) (HD.dS (HD.tp PySem.Challenge.pw_bundlehouse_k88_whole_rings_cut 6)) (Value.none) (Value.none) (Value.none) (Value.str ("bundlehouse.net") 240) (none) (Value.ref 57) (Value.none)), #[]⟩) ::
 (nat_lit 59, { cls := Value.type "tuple", data := Data.seq #[] }) ::
 (nat_lit 61, { cls := Value.type "tuple", data := Data.seq #[Value.str ("parts") 253, Value.str ("onward") 254, Value.str ("part") 255, Value.str ("rows") 256] }) ::
 (nat_lit 62, { cls := Value.type "tuple", data := Data.seq #[] }) ::
 (nat_lit 64, { cls := Value.type "code", data := Data.fields #[Value.str ("bringings") 250, Value.str ("bringings") 251, Value.str ("/claim/cut.py") 252, Value.int 15 0, Value.int 1 0, Value.int 0 0, Value.int 0 0, Value.int 3 0, Value.ref 59, Value.bool true, Value.int 181 0, Value.ref 60, Value.none, Value.ref 61, Value.ref 62, Value.ref 63, Value.int 257 0, Value.int 15 0, Value.str ("/claim/cut.py") 258] }) ::
 (nat_lit 65, ⟨Value.type "function", none, .func (PySem.W.fnOf "bringings" "bringings" (HD.dA (HD.tp PySem.Challenge.pw_bundlehouse_k88_whole_rings_cut 7)) (HD.dB (HD.tp PySem.Challenge.pw_bundlehouse_k88_whole_rings_cut 7)) (HD.dS (HD.tp PySem.Challenge.pw_bundlehouse_k88_whole_rings_cut 7)) (Value.none) (Value.none) (Value.none) (Value.str ("bundlehouse.net") 240) (none) (Value.ref 64) (Value.none)), #[]⟩) ::
 (nat_lit 66, { cls := Value.type "tuple", data := Data.seq #[] }) ::
 (nat_lit 68, { cls := Value.type "tuple", data := Data.seq #[Value.str ("parts") 263, Value.str ("part") 264, Value.str ("kind") 265, Value.str ("found") 266, Value.str ("row") 267] }) ::
 (nat_lit 69, { cls := Value.type "tuple", data := Data.seq #[] }) ::
 (nat_lit 71, { cls := Value.type "code", data := Data.fields #[Value.str ("named_parts") 260, Value.str ("named_parts") 261, Value.str ("/claim/cut.py") 262, Value.int 20 0, Value.int 3 0, Value.int 0 0, Value.int 0 0, Value.int 3 0, Value.ref 66, Value.bool true, Value.int 181 0, Value.ref 67, Value.none, Value.ref 68, Value.ref 69, Value.ref 70, Value.int 268 0, Value.int 20 0, Value.str ("/claim/cut.py") 269] }) ::
 (nat_lit 72, ⟨Value.type "function", none, .func (PySem.W.fnOf "named_parts" "named_parts" (HD.dA (HD.tp PySem.Challenge.pw_bundlehouse_k88_whole_rings_cut 8)) (HD.dB (HD.tp PySem.Challenge.pw_bundlehouse_k88_whole_rings_cut 8)) (HD.dS (HD.tp PySem.Challenge.pw_bundlehouse_k88_whole_rings_cut 8)) (Value.none) (Value.none) (Value.none) (Value.str ("bundlehouse.net") 240) (none) (Value.ref 71) (Value.none)), #[]⟩) ::
 (nat_lit 73, { cls := Value.type "tuple", data := Data.seq #[] }) ::
 (nat_lit 75, { cls := Value.type "tuple", data := Data.seq #[Value.str ("onward") 276, Value.str ("backward") 277, Value.str ("found") 278, Value.str ("part") 279, Value.str ("knot") 280] }) ::
 (nat_lit 76, { cls := Value.type "tuple", data := Data.seq #[] }) ::
 (nat_lit 78, { cls := Value.type "code", data := Data.fields #[Value.str ("knots_in") 273, Value.str ("knots_in") 274, Value.str ("/claim/cut.py") 275, Value.int 27 0, Value.int 1 0, Value.int 0 0, Value.int 0 0, Value.int 3 0, Value.ref 73, Value.bool true, Value.int 181 0, Value.ref 74, Value.none, Value.ref 75, Value.ref 76, Value.ref 77, Value.int 281 0, Value.int 27 0, Value.str ("/claim/cut.py") 282] }) ::
 (nat_lit 79, ⟨Value.type "function", none, .func (PySem.W.fnOf "knots_in" "knots_in" (HD.dA (HD.tp PySem.Challenge.pw_bundlehouse_k88_whole_rings_cut 10)) (HD.dB (HD.tp PySem.Challenge.pw_bundlehouse_k88_whole_rings_cut 10)) (HD.dS (HD.tp PySem.Challenge.pw_bundlehouse_k88_whole_rings_cut 10)) (Value.none) (Value.none) (Value.none) (Value.str ("bundlehouse.knots") 271) (none) (Value.ref 78) (Value.none)), #[]⟩) ::
 (nat_lit 80, { cls := Value.type "tuple", data := Data.seq #[] }) ::
 (nat_lit 83, { cls := Value.type "code", data := Data.fields #[Value.str ("knot_around") 284, Value.str ("knot_around") 285, Value.str ("/claim/cut.py") 286, Value.int 35 0, Value.int 3 0, Value.int 0 0, Value.int 0 0, Value.int 3 0, Value.ref 80, Value.bool true, Value.int 181 0, Value.ref 81, Value.none, Value.none, Value.none, Value.ref 82, Value.int 287 0, Value.int 35 0, Value.str ("/claim/cut.py") 288] }) ::
 (nat_lit 84, ⟨Value.type "function", none, .func (PySem.W.fnOf "knot_around" "knot_around" (HD.dA (HD.tp PySem.Challenge.pw_bundlehouse_k88_whole_rings_cut 11)) (HD.dB (HD.tp PySem.Challenge.pw_bundlehouse_k88_whole_rings_cut 11)) (HD.dS (HD.tp PySem.Challenge.pw_bundlehouse_k88_whole_rings_cut 11)) (Value.none) (Value.none) (Value.none) (Value.str ("bundlehouse.knots") 271) (none) (Value.ref 83) (Value.none)), #[]⟩) ::
 (nat_lit 85, { cls := Value.type "tuple", data := Data.seq #[] }) ::
 (nat_lit 87, { cls := Value.type "tuple", data := Data.seq #[Value.str ("onward") 293, Value.str ("backward") 294, Value.str ("part") 295, Value.str ("other") 296] }) ::
 (nat_lit 88, { cls := Value.type "tuple", data := Data.seq #[] }) ::
 (nat_lit 90, { cls := Value.type "code", data := Data.fields #[Value.str ("turned") 290, Value.str ("turned") 291, Value.str ("/claim/cut.py") 292, Value.int 39 0, Value.int 1 0, Value.int 0 0, Value.int 0 0, Value.int 3 0, Value.ref 85, Value.bool true, Value.int 181 0, Value.ref 86, Value.none, Value.ref 87, Value.ref 88, Value.ref 89, Value.int 297 0, Value.int 39 0, Value.str ("/claim/cut.py") 298] }) ::
 (nat_lit 91, ⟨Value.type "function", none, .func (PySem.W.fnOf "turned" "turned" (HD.dA (HD.tp PySem.Challenge.pw_bundlehouse_k88_whole_rings_cut 12)) (HD.dB (HD.tp PySem.Challenge.pw_bundlehouse_k88_whole_rings_cut 12)) (HD.dS (HD.tp PySem.Challenge.pw_bundlehouse_k88_whole_rings_cut 12)) (Value.none) (Value.none) (Value.none) (Value.str ("bundlehouse.knots") 271) (none) (Value.ref 90) (Value.none)), #[]⟩) ::
 (nat_lit 92, { cls := Value.type "tuple", data := Data.seq #[] }) ::
 (nat_lit 94, { cls := Value.type "tuple", data := Data.seq #[Value.str ("onward") 303, Value.str ("some") 304, Value.str ("found") 305, Value.str ("waiting") 306, Value.str ("part") 307] }) ::
 (nat_lit 95, { cls := Value.type "tuple", data := Data.seq #[] }) ::
 (nat_lit 97, { cls := Value.type "code", data := Data.fields #[Value.str ("spread") 300, Value.str ("spread") 301, Value.str ("/claim/cut.py") 302, Value.int 47 0, Value.int 2 0, Value.int 0 0, Value.int 0 0, Value.int 3 0, Value.ref 92, Value.bool true, Value.int 181 0, Value.ref 93, Value.none, Value.ref 94, Value.ref 95, Value.ref 96, Value.int 308 0, Value.int 47 0, Value.str ("/claim/cut.py") 309] }) ::
 (nat_lit 98, ⟨Value.type "function", none, .func (PySem.W.fnOf "spread" "spread" (HD.dA (HD.tp PySem.Challenge.pw_bundlehouse_k88_whole_rings_cut 13)) (HD.dB (HD.tp PySem.Challenge.pw_bundlehouse_k88_whole_rings_cut 13)) (HD.dS (HD.tp PySem.Challenge.pw_bundlehouse_k88_whole_rings_cut 13)) (Value.none) (Value.none) (Value.none) (Value.str ("bundlehouse.knots") 271) (none) (Value.ref 97) (Value.none)), #[]⟩) ::
 (nat_lit 99, { cls := Value.type "tuple", data := Data.seq #[] }) ::
 (nat_lit 101, { cls := Value.type "tuple", data := Data.seq #[Value.str ("parts") 318] }) ::
 (nat_lit 102, { cls := Value.type "tuple", data := Data.seq #[] }) ::
 (nat_lit 104, { cls := Value.type "code", data := Data.fields #[Value.str ("tangles") 315, Value.str ("tangles") 316, Value.str ("/claim/cut.py") 317, Value.int 58 0, Value.int 1 0, Value.int 0 0, Value.int 0 0, Value.int 3 0, Value.ref 99, Value.bool true, Value.int 181 0, Value.ref 100, Value.none, Value.ref 101, Value.ref 102, Value.ref 103, Value.int 319 0, Value.int 58 0, Value.str ("/claim/cut.py") 320] }) ::
 (nat_lit 105, ⟨Value.type "function", none, .func (PySem.W.fnOf "tangles" "tangles" (HD.dA (HD.tp PySem.Challenge.pw_bundlehouse_k88_whole_rings_cut 16)) (HD.dB (HD.tp PySem.Challenge.pw_bundlehouse_k88_whole_rings_cut 16)) (HD.dS (HD.tp PySem.Challenge.pw_bundlehouse_k88_whole_rings_cut 16)) (Value.none) (Value.none) (Value.none) (Value.str ("bundlehouse.rings") 311) (none) (Value.ref 104) (Value.none)), #[]⟩) ::
 (nat_lit 106, { cls := Value.type "tuple", data := Data.seq #[] }) ::
 (nat_lit 109, { cls := Value.type "code", data := Data.fields #[Value.str ("steps_within") 322, Value.str ("steps_within") 323, Value.str ("/claim/cut.py") 324, Value.int 60 0, Value.int 2 0, Value.int 0 0, Value.int 0 0, Value.int 3 0, Value.ref 106, Value.bool true, Value.int 181 0, Value.ref 107, Value.none, Value.none, Value.none, Value.ref 108, Value.int 325 0, Value.int 60 0, Value.str ("/claim/cut.py") 326] }) ::
 (nat_lit 110, ⟨Value.type "function", none, .func (PySem.W.fnOf "steps_within" "steps_within" (HD.dA (HD.tp PySem.Challenge.pw_bundlehouse_k88_whole_rings_cut 17)) (HD.dB (HD.tp PySem.Challenge.pw_bundlehouse_k88_whole_rings_cut 17)) (HD.dS (HD.tp PySem.Challenge.pw_bundlehouse_k88_whole_rings_cut 17)) (Value.none) (Value.none) (Value.none) (Value.str ("bundlehouse.rings") 311) (none) (Value.ref 109) (Value.none)), #[]⟩) ::
 (nat_lit 111, { cls := Value.type "tuple", data := Data.seq #[] }) ::
 (nat_lit 114, { cls := Value.type "code", data := Data.fields #[Value.str ("place_of") 328, Value.str ("place_of") 329, Value.str ("/claim/cut.py") 330, Value.int 65 0, Value.int 2 0, Value.int 0 0, Value.int 0 0, Value.int 3 0, Value.ref 111, Value.bool true, Value.int 181 0, Value.ref 112, Value.none, Value.none, Value.none, Value.ref 113, Value.int 331 0, Value.int 65 0, Value.str ("/claim/cut.py") 332] }) ::
 (nat_lit 115, ⟨Value.type "function", none, .func (PySem.W.fnOf "place_of" "place_of" (HD.dA (HD.tp PySem.Challenge.pw_bundlehouse_k88_whole_rings_cut 18)) (HD.dB (HD.tp PySem.Challenge.pw_bundlehouse_k88_whole_rings_cut 18)) (HD.dS (HD.tp PySem.Challenge.pw_bundlehouse_k88_whole_rings_cut 18)) (Value.none) (Value.none) (Value.none) (Value.str ("bundlehouse.rings") 311) (none) (Value.ref 114) (Value.none)), #[]⟩) ::
 (nat_lit 116, { cls := Value.type "tuple", data := Data.seq #[] }) ::
 (nat_lit 119, { cls := Value.type "code", data := Data.fields #[Value.str ("best_lasts") 334, Value.str ("best_lasts") 335, Value.str ("/claim/cut.py") 336, Value.int 67 0, Value.int 1 0, Value.int 0 0, Value.int 0 0, Value.int 3 0, Value.ref 116, Value.bool true, Value.int 181 0, Value.ref 117, Value.none, Value.none, Value.none, Value.ref 118, Value.int 337 0, Value.int 67 0, Value.str ("/claim/cut.py") 338] }) ::
 (nat_lit 120, ⟨Value.type "function", none, .func (PySem.W.fnOf "best_lasts" "best_lasts" (HD.dA (HD.tp PySem.Challenge.pw_bundlehouse_k88_whole_rings_cut 19)) (HD.dB (HD.tp PySem.Challenge.pw_bundlehouse_k88_whole_rings_cut 19)) (HD.dS (HD.tp PySem.Challenge.pw_bundlehouse_k88_whole_rings_cut 19)) (Value.none) (Value.none) (Value.none) (Value.str ("bundlehouse.rings") 311) (none) (Value.ref 119) (Value.none)), #[]⟩) ::
 (nat_lit 121, { cls := Value.type "tuple", data := Data.seq #[] }) ::
 (nat_lit 123, { cls := Value.type "tuple", data := Data.seq #[Value.str ("steps") 343, Value.str ("best") 344, Value.str ("place") 345, Value.str ("last") 346] }) ::
 (nat_lit 124, { cls := Value.type "tuple", data := Data.seq #[] }) ::
 (nat_lit 126, { cls := Value.type "code", data := Data.fields #[Value.str ("count_with_last") 340, Value.str ("count_with_last") 341, Value.str ("/claim/cut.py") 342, Value.int 72 0, Value.int 4 0, Value.int 0 0, Value.int 0 0, Value.int 3 0, Value.ref 121, Value.bool true, Value.int 181 0, Value.ref 122, Value.none, Value.ref 123, Value.ref 124, Value.ref 125, Value.int 347 0, Value.int 72 0, Value.str ("/claim/cut.py") 348] }) ::
 (nat_lit 127, ⟨Value.type "function", none, .func (PySem.W.fnOf "count_with_last" "count_with_last" (HD.dA (HD.tp PySem.Challenge.pw_bundlehouse_k88_whole_rings_cut 20)) (HD.dB (HD.tp PySem.Challenge.pw_bundlehouse_k88_whole_rings_cut 20)) (HD.dS (HD.tp PySem.Challenge.pw_bundlehouse_k88_whole_rings_cut 20)) (Value.none) (Value.none) (Value.none) (Value.str ("bundlehouse.rings") 311) (none) (Value.ref 126) (Value.none)), #[]⟩) ::
 (nat_lit 128, { cls := Value.type "tuple", data := Data.seq #[] }) ::
 (nat_lit 131, { cls := Value.type "code", data := Data.fields #[Value.str ("fewest") 350, Value.str ("fewest") 351, Value.str ("/claim/cut.py") 352, Value.int 74 0, Value.int 1 0, Value.int 0 0, Value.int 0 0, Value.int 3 0, Value.ref 128, Value.bool true, Value.int 181 0, Value.ref 129, Value.none, Value.none, Value.none, Value.ref 130, Value.int 353 0, Value.int 74 0, Value.str ("/claim/cut.py") 354] }) ::
 (nat_lit 132, ⟨Value.type "function", none, .func (PySem.W.fnOf "fewest" "fewest" (HD.dA (HD.tp PySem.Challenge.pw_bundlehouse_k88_whole_rings_cut 21)) (HD.dB (HD.tp PySem.Challenge.pw_bundlehouse_k88_whole_rings_cut 21)) (HD.dS (HD.tp PySem.Challenge.pw_bundlehouse_k88_whole_rings_cut 21)) (Value.none) (Value.none) (Value.none) (Value.str ("bundlehouse.rings") 311) (none) (Value.ref 131) (Value.none)), #[]⟩) ::
 (nat_lit 133, { cls := Value.type "tuple", data := Data.seq #[] }) ::
 (nat_lit 136, { cls := Value.type "code", data := Data.fields #[Value.str ("fewest_within") 356, Value.str ("fewest_within") 357, Value.str ("/claim/cut.py") 358, Value.int 83 0, Value.int 2 0, Value.int 0 0, Value.int 0 0, Value.int 3 0, Value.ref 133, Value.bool true, Value.int 181 0, Value.ref 134, Value.none, Value.none, Value.none, Value.ref 135, Value.int 359 0, Value.int 83 0, Value.str ("/claim/cut.py") 360] }) ::
 (nat_lit 137, ⟨Value.type "function", none, .func (PySem.W.fnOf "fewest_within" "fewest_within" (HD.dA (HD.tp PySem.Challenge.pw_bundlehouse_k88_whole_rings_cut 22)) (HD.dB (HD.tp PySem.Challenge.pw_bundlehouse_k88_whole_rings_cut 22)) (HD.dS (HD.tp PySem.Challenge.pw_bundlehouse_k88_whole_rings_cut 22)) (Value.none) (Value.none) (Value.none) (Value.str ("bundlehouse.rings") 311) (none) (Value.ref 136) (Value.none)), #[]⟩) ::
 (nat_lit 138, { cls := Value.type "tuple", data := Data.seq #[] }) ::
 (nat_lit 140, { cls := Value.type "tuple", data := Data.seq #[Value.str ("parts") 367, Value.str ("folders") 368, Value.str ("rules") 369, Value.str ("onward") 370, Value.str ("found") 371, Value.str ("number") 372, Value.str ("rule") 373, Value.str ("way") 374] }) ::
 (nat_lit 141, { cls := Value.type "tuple", data := Data.seq #[] }) ::
 (nat_lit 143, { cls := Value.type "code", data := Data.fields #[Value.str ("broken") 364, Value.str ("broken") 365, Value.str ("/claim/cut.py") 366, Value.int 94 0, Value.int 3 0, Value.int 0 0, Value.int 0 0, Value.int 3 0, Value.ref 138, Value.bool true, Value.int 181 0, Value.ref 139, Value.none, Value.ref 140, Value.ref 141, Value.ref 142, Value.int 375 0, Value.int 94 0, Value.str ("/claim/cut.py") 376] }) ::
 (nat_lit 144, ⟨Value.type "function", none, .func (PySem.W.fnOf "broken" "broken" (HD.dA (HD.tp PySem.Challenge.pw_bundlehouse_k88_whole_rings_cut 24)) (HD.dB (HD.tp PySem.Challenge.pw_bundlehouse_k88_whole_rings_cut 24)) (HD.dS (HD.tp PySem.Challenge.pw_bundlehouse_k88_whole_rings_cut 24)) (Value.none) (Value.none) (Value.none) (Value.str ("bundlehouse.layers") 362) (none) (Value.ref 143) (Value.none)), #[]⟩) ::
 (nat_lit 145, { cls := Value.type "tuple", data := Data.seq #[] }) ::
 (nat_lit 148, { cls := Value.type "code", data := Data.fields #[Value.str ("laid_in") 378, Value.str ("laid_in") 379, Value.str ("/claim/cut.py") 380, Value.int 102 0, Value.int 2 0, Value.int 0 0, Value.int 0 0, Value.int 3 0, Value.ref 145, Value.bool true, Value.int 181 0, Value.ref 146, Value.none, Value.none, Value.none, Value.ref 147, Value.int 381 0, Value.int 102 0, Value.str ("/claim/cut.py") 382] }) ::
 (nat_lit 149, ⟨Value.type "function", none, .func (PySem.W.fnOf "laid_in" "laid_in" (HD.dA (HD.tp PySem.Challenge.pw_bundlehouse_k88_whole_rings_cut 25)) (HD.dB (HD.tp PySem.Challenge.pw_bundlehouse_k88_whole_rings_cut 25)) (HD.dS (HD.tp PySem.Challenge.pw_bundlehouse_k88_whole_rings_cut 25)) (Value.none) (Value.none) (Value.none) (Value.str ("bundlehouse.layers") 362) (none) (Value.ref 148) (Value.none)), #[]⟩) ::
 (nat_lit 150, { cls := Value.type "tuple", data := Data.seq #[] }) ::
 (nat_lit 153, { cls := Value.type "code", data := Data.fields #[Value.str ("shortest_way") 384, Value.str ("shortest_way") 385, Value.str ("/claim/cut.py") 386, Value.int 104 0, Value.int 3 0, Value.int 0 0, Value.int 0 0, Value.int 3 0, Value.ref 150, Value.bool true, Value.int 181 0, Value.ref 151, Value.none, Value.none, Value.none, Value.ref 152, Value.int 387 0, Value.int 104 0, Value.str ("/claim/cut.py") 388] }) ::
 (nat_lit 154, ⟨Value.type "function", none, .func (PySem.W.fnOf "shortest_way" "shortest_way" (HD.dA (HD.tp PySem.Challenge.pw_bundlehouse_k88_whole_rings_cut 26)) (HD.dB (HD.tp PySem.Challenge.pw_bundlehouse_k88_whole_rings_cut 26)) (HD.dS (HD.tp PySem.Challenge.pw_bundlehouse_k88_whole_rings_cut 26)) (Value.none) (Value.none) (Value.none) (Value.str ("bundlehouse.layers") 362) (none) (Value.ref 153) (Value.none)), #[]⟩) ::
 (nat_lit 155, { cls := Value.type "tuple", data := Data.seq #[] }) ::
 (nat_lit 157, { cls := Value.type "tuple", data := Data.seq #[Value.str ("_law_script") 395, Value.str ("_law_k") 396] }) ::
 (nat_lit 158, { cls := Value.type "tuple", data := Data.seq #[] }) ::
 (nat_lit 160, { cls := Value.type "code", data := Data.fields #[Value.str ("_law_cell_at") 392, Value.str ("_law_cell_at") 393, Value.str ("/claim/cut.py") 394, Value.int 119 0, Value.int 2 0, Value.int 0 0, Value.int 0 0, Value.int 3 0, Value.ref 155, Value.bool true, Value.int 181 0, Value.ref 156, Value.none, Value.ref 157, Value.ref 158, Value.ref 159, Value.int 397 0, Value.int 119 0, Value.str ("/claim/cut.py") 398] }) ::
 (nat_lit 161, ⟨Value.type "function", none, .func (PySem.W.fnOf "_law_cell_at" "_law_cell_at" (HD.dA (HD.tp PySem.Challenge.pw_bundlehouse_k88_whole_rings_cut 28)) (HD.dB (HD.tp PySem.Challenge.pw_bundlehouse_k88_whole_rings_cut 28)) (HD.dS (HD.tp PySem.Challenge.pw_bundlehouse_k88_whole_rings_cut 28)) (Value.none) (Value.none) (Value.none) (Value.str ("law_bundlehouse_k88_whole_rings_cut") 390) (none) (Value.ref 160) (Value.none)), #[]⟩) ::
 (nat_lit 162, { cls := Value.type "tuple", data := Data.seq #[] }) ::
 (nat_lit 164, { cls := Value.type "tuple", data := Data.seq #[Value.str ("_law_cell") 403, Value.str ("_law_k") 404, Value.str ("_law_prime") 405] }) ::
 (nat_lit 165, { cls := Value.type "tuple", data := Data.seq #[] }) ::
 (nat_lit 167, { cls := Value.type "code", data := Data.fields #[Value.str ("_law_mixed") 400, Value.str ("_law_mixed") 401, Value.str ("/claim/cut.py") 402, Value.int 123 0, Value.int 3 0, Value.int 0 0, Value.int 0 0, Value.int 3 0, Value.ref 162, Value.bool true, Value.int 181 0, Value.ref 163, Value.none, Value.ref 164, Value.ref 165, Value.ref 166, Value.int 406 0, Value.int 123 0, Value.str ("/claim/cut.py") 407] }) ::
 (nat_lit 168, ⟨Value.type "function", none, .func (PySem.W.fnOf "_law_mixed" "_law_mixed" (HD.dA (HD.tp PySem.Challenge.pw_bundlehouse_k88_whole_rings_cut 29)) (HD.dB (HD.tp PySem.Challenge.pw_bundlehouse_k88_whole_rings_cut 29)) (HD.dS (HD.tp PySem.Challenge.pw_bundlehouse_k88_whole_rings_cut 29)) (Value.none) (Value.none) (Value.none) (Value.str ("law_bundlehouse_k88_whole_rings_cut") 390) (none) (Value.ref 167) (Value.none)), #[]⟩) ::
 (nat_lit 169, { cls := Value.type "tuple", data := Data.seq #[] }) ::
 (nat_lit 172, { cls := Value.type "code", data := Data.fields #[Value.str ("_law_names") 409, Value.str ("_law_names") 410, Value.str ("/claim/cut.py") 411, Value.int 125 0, Value.int 2 0, Value.int 0 0, Value.int 0 0, Value.int 3 0, Value.ref 169, Value.bool true, Value.int 181 0, Value.ref 170, Value.none, Value.none, Value.none, Value.ref 171, Value.int 412 0, Value.int 125 0, Value.str ("/claim/cut.py") 413] }) ::
 (nat_lit 173, ⟨Value.type "function", none, .func (PySem.W.fnOf "_law_names" "_law_names" (HD.dA (HD.tp PySem.Challenge.pw_bundlehouse_k88_whole_rings_cut 30)) (HD.dB (HD.tp PySem.Challenge.pw_bundlehouse_k88_whole_rings_cut 30)) (HD.dS (HD.tp PySem.Challenge.pw_bundlehouse_k88_whole_rings_cut 30)) (Value.none) (Value.none) (Value.none) (Value.str ("law_bundlehouse_k88_whole_rings_cut") 390) (none) (Value.ref 172) (Value.none)), #[]⟩) ::
 (nat_lit 174, { cls := Value.type "tuple", data := Data.seq #[] }) ::
 (nat_lit 176, { cls := Value.type "tuple", data := Data.seq #[Value.str ("_law_here") 418, Value.str ("_law_many") 419, Value.str ("_law_mix") 420, Value.str ("_law_mode") 421] }) ::
 (nat_lit 177, { cls := Value.type "tuple", data := Data.seq #[] }) ::
 (nat_lit 179, { cls := Value.type "code", data := Data.fields #[Value.str ("_law_other") 415, Value.str ("_law_other") 416, Value.str ("/claim/cut.py") 417, Value.int 144 0, Value.int 4 0, Value.int 0 0, Value.int 0 0, Value.int 3 0, Value.ref 174, Value.bool true, Value.int 181 0, Value.ref 175, Value.none, Value.ref 176, Value.ref 177, Value.ref 178, Value.int 422 0, Value.int 144 0, Value.str ("/claim/cut.py") 423] }) ::
 (nat_lit 180, ⟨Value.type "function", none, .func (PySem.W.fnOf "_law_other" "_law_other" (HD.dA (HD.tp PySem.Challenge.pw_bundlehouse_k88_whole_rings_cut 31)) (HD.dB (HD.tp PySem.Challenge.pw_bundlehouse_k88_whole_rings_cut 31)) (HD.dS (HD.tp PySem.Challenge.pw_bundlehouse_k88_whole_rings_cut 31)) (Value.none) (Value.none) (Value.none) (Value.str ("law_bundlehouse_k88_whole_rings_cut") 390) (none) (Value.ref 179) (Value.none)), #[]⟩) ::
 (nat_lit 186, { cls := Value.type "tuple", data := Data.seq #[] }) ::
 (nat_lit 189, { cls := Value.type "code", data := Data.fields #[Value.str ("_law_pairs_of") 431, Value.str ("_law_pairs_of") 432, Value.str ("/claim/cut.py") 433, Value.int 161 0, Value.int 1 0, Value.int 0 0, Value.int 0 0, Value.int 3 0, Value.ref 186, Value.bool true, Value.int 181 0, Value.ref 187, Value.none, Value.none, Value.none, Value.ref 188, Value.int 434 0, Value.int 161 0, Value.str ("/claim/cut.py") 435] }) ::
 (nat_lit 190, ⟨Value.type "function", none, .func (PySem.W.fnOf "_law_pairs_of" "_law_pairs_of" (HD.dA (HD.tp PySem.Challenge.pw_bundlehouse_k88_whole_rings_cut 33)) (HD.dB (HD.tp PySem.Challenge.pw_bundlehouse_k88_whole_rings_cut 33)) (HD.dS (HD.tp PySem.Challenge.pw_bundlehouse_k88_whole_rings_cut 33)) (Value.none) (Value.none) (Value.none) (Value.str ("law_bundlehouse_k88_whole_rings_cut") 390) (none) (Value.ref 189) (Value.none)), #[]⟩) ::
 (nat_lit 191, { cls := Value.type "tuple", data := Data.seq #[] }) ::
 (nat_lit 194, { cls := Value.type "code", data := Data.fields #[Value.str ("_law_is_cut") 437, Value.str ("_law_is_cut") 438, Value.str ("/claim/cut.py") 439, Value.int 167 0, Value.int 2 0, Value.int 0 0, Value.int 0 0, Value.int 3 0, Value.ref 191, Value.bool true, Value.int 181 0, Value.ref 192, Value.none, Value.none, Value.none, Value.ref 193, Value.int 440 0, Value.int 167 0, Value.str ("/claim/cut.py") 441] }) ::
 (nat_lit 195, ⟨Value.type "function", none, .func (PySem.W.fnOf "_law_is_cut" "_law_is_cut" (HD.dA (HD.tp PySem.Challenge.pw_bundlehouse_k88_whole_rings_cut 34)) (HD.dB (HD.tp PySem.Challenge.pw_bundlehouse_k88_whole_rings_cut 34)) (HD.dS (HD.tp PySem.Challenge.pw_bundlehouse_k88_whole_rings_cut 34)) (Value.none) (Value.none) (Value.none) (Value.str ("law_bundlehouse_k88_whole_rings_cut") 390) (none) (Value.ref 194) (Value.none)), #[]⟩) ::
 (nat_lit 196, { cls := Value.type "tuple", data := Data.seq #[] }) ::
 (nat_lit 199, { cls := Value.type "code", data := Data.fields #[Value.str ("_law_plain") 443, Value.str ("_law_plain") 444, Value.str ("/claim/cut.py") 445, Value.int 176 0, Value.int 3 0, Value.int 0 0, Value.int 0 0, Value.int 3 0, Value.ref 196, Value.bool true, Value.int 181 0, Value.ref 197, Value.none, Value.none, Value.none, Value.ref 198, Value.int 446 0, Value.int 176 0, Value.str ("/claim/cut.py") 447] }) ::
 (nat_lit 200, ⟨Value.type "function", none, .func (PySem.W.fnOf "_law_plain" "_law_plain" (HD.dA (HD.tp PySem.Challenge.pw_bundlehouse_k88_whole_rings_cut 35)) (HD.dB (HD.tp PySem.Challenge.pw_bundlehouse_k88_whole_rings_cut 35)) (HD.dS (HD.tp PySem.Challenge.pw_bundlehouse_k88_whole_rings_cut 35)) (Value.none) (Value.none) (Value.none) (Value.str ("law_bundlehouse_k88_whole_rings_cut") 390) (none) (Value.ref 199) (Value.none)), #[]⟩) ::
 (nat_lit 201, { cls := Value.type "tuple", data := Data.seq #[] }) ::
 (nat_lit 204, { cls := Value.type "code", data := Data.fields #[Value.str ("_law_without") 449, Value.str ("_law_without") 450, Value.str ("/claim/cut.py") 451, Value.int 190 0, Value.int 2 0, Value.int 0 0, Value.int 0 0, Value.int 3 0, Value.ref 201, Value.bool true, Value.int 181 0, Value.ref 202, Value.none, Value.none, Value.none, Value.ref 203, Value.int 452 0, Value.int 190 0, Value.str ("/claim/cut.py") 453] }) ::
 (nat_lit 205, ⟨Value.type "function", none, .func (PySem.W.fnOf "_law_without" "_law_without" (HD.dA (HD.tp PySem.Challenge.pw_bundlehouse_k88_whole_rings_cut 36)) (HD.dB (HD.tp PySem.Challenge.pw_bundlehouse_k88_whole_rings_cut 36)) (HD.dS (HD.tp PySem.Challenge.pw_bundlehouse_k88_whole_rings_cut 36)) (Value.none) (Value.none) (Value.none) (Value.str ("law_bundlehouse_k88_whole_rings_cut") 390) (none) (Value.ref 204) (Value.none)), #[]⟩) ::
 (nat_lit 206, { cls := Value.type "tuple", data := Data.seq #[] }) ::
 (nat_lit 209, { cls := Value.type "code", data := Data.fields #[Value.str ("_law_round") 455, Value.str ("_law_round") 456, Value.str ("/claim/cut.py") 457, Value.int 196 0, Value.int 2 0, Value.int 0 0, Value.int 0 0, Value.int 3 0, Value.ref 206, Value.bool true, Value.int 181 0, Value.ref 207, Value.none, Value.none, Value.none, Value.ref 208, Value.int 458 0, Value.int 196 0, Value.str ("/claim/cut.py") 459] }) ::
 (nat_lit 210, ⟨Value.type "function", none, .func (PySem.W.fnOf "_law_round" "_law_round" (HD.dA (HD.tp PySem.Challenge.pw_bundlehouse_k88_whole_rings_cut 37)) (HD.dB (HD.tp PySem.Challenge.pw_bundlehouse_k88_whole_rings_cut 37)) (HD.dS (HD.tp PySem.Challenge.pw_bundlehouse_k88_whole_rings_cut 37)) (Value.none) (Value.none) (Value.none) (Value.str ("law_bundlehouse_k88_whole_rings_cut") 390) (none) (Value.ref 209) (Value.none)), #[]⟩) ::
 (nat_lit 211, { cls := Value.type "tuple", data := Data.seq #[] }) ::
 (nat_lit 214, { cls := Value.type "code", data := Data.fields #[Value.str ("_law_rounds") 461, Value.str ("_law_rounds") 462, Value.str ("/claim/cut.py") 463, Value.int 205 0, Value.int 3 0, Value.int 0 0, Value.int 0 0, Value.int 3 0, Value.ref 211, Value.bool true, Value.int 181 0, Value.ref 212, Value.none, Value.none, Value.none, Value.ref 213, Value.int 464 0, Value.int 205 0, Value.str ("/claim/cut.py") 465] }) ::
 (nat_lit 215, ⟨Value.type "function", none, .func (PySem.W.fnOf "_law_rounds" "_law_rounds" (HD.dA (HD.tp PySem.Challenge.pw_bundlehouse_k88_whole_rings_cut 38)) (HD.dB (HD.tp PySem.Challenge.pw_bundlehouse_k88_whole_rings_cut 38)) (HD.dS (HD.tp PySem.Challenge.pw_bundlehouse_k88_whole_rings_cut 38)) (Value.none) (Value.none) (Value.none) (Value.str ("law_bundlehouse_k88_whole_rings_cut") 390) (none) (Value.ref 214) (Value.none)), #[]⟩) ::
 (nat_lit 216, { cls := Value.type "tuple", data := Data.seq #[] }) ::
 (nat_lit 219, { cls := Value.type "code", data := Data.fields #[Value.str ("law") 467, Value.str ("law") 468, Value.str ("/claim/cut.py") 469, Value.int 218 0, Value.int 1 0, Value.int 0 0, Value.int 0 0, Value.int 3 0, Value.ref 216, Value.bool true, Value.int 181 0, Value.ref 217, Value.none, Value.none, Value.none, Value.ref 218, Value.int 470 0, Value.int 218 0, Value.str ("/claim/cut.py") 471] }) ::
 (nat_lit 220, ⟨Value.type "function", none, .func (PySem.W.fnOf "law" "law" (HD.dA (HD.tp PySem.Challenge.pw_bundlehouse_k88_whole_rings_cut 39)) (HD.dB (HD.tp PySem.Challenge.pw_bundlehouse_k88_whole_rings_cut 39)) (HD.dS (HD.tp PySem.Challenge.pw_bundlehouse_k88_whole_rings_cut 39)) (Value.none) (Value.none) (Value.none) (Value.str ("law_bundlehouse_k88_whole_rings_cut") 390) (none) (Value.ref 219) (Value.none)), #[]⟩) :: []
noncomputable def heapA : List Addr := [nat_lit 2, nat_lit 3, nat_lit 15, nat_lit 22, nat_lit 23, nat_lit 24, nat_lit 25, nat_lit 28, nat_lit 35, nat_lit 37, nat_lit 38, nat_lit 40, nat_lit 42, nat_lit 43, nat_lit 44, nat_lit 47, nat_lit 50, nat_lit 51, nat_lit 52, nat_lit 54, nat_lit 55, nat_lit 57, nat_lit 58, nat_lit 59, nat_lit 61, nat_lit 62, nat_lit 64, nat_lit 65, nat_lit 66, nat_lit 68, nat_lit 69, nat_lit 71, nat_lit 72, nat_lit 73, nat_lit 75, nat_lit 76, nat_lit 78, nat_lit 79, nat_lit 80, nat_lit 83, nat_lit 84, nat_lit 85, nat_lit 87, nat_lit 88, nat_lit 90, nat_lit 91, nat_lit 92, nat_lit 94, nat_lit 95, nat_lit 97, nat_lit 98, nat_lit 99, nat_lit 101, nat_lit 102, nat_lit 104, nat_lit 105, nat_lit 106, nat_lit 109, nat_lit 110, nat_lit 111, nat_lit 114, nat_lit 115, nat_lit 116, nat_lit 119, nat_lit 120, nat_lit 121, nat_lit 123, nat_lit 124, nat_lit 126, nat_lit 127, nat_lit 128, nat_lit 131, nat_lit 132, nat_lit 133, nat_lit 136, nat_lit 137, nat_lit 138, nat_lit 140, nat_lit 141, nat_lit 143, nat_lit 144, nat_lit 145, nat_lit 148, nat_lit 149, nat_lit 150, nat_lit 153, nat_lit 154, nat_lit 155, nat_lit 157, nat_lit 158, nat_lit 160, nat_lit 161, nat_lit 162, nat_lit 164, nat_lit 165, nat_lit 167, nat_lit 168, nat_lit 169, nat_lit 172, nat_lit 173, nat_lit 174, nat_lit 176, nat_lit 177, nat_lit 179, nat_lit 180, nat_lit 186, nat_lit 189, nat_lit 190, nat_lit 191, nat_lit 194, nat_lit 195, nat_lit 196, nat_lit 199, nat_lit 200, nat_lit 201, nat_lit 204, nat_lit 205, nat_lit 206, nat_lit 209, nat_lit 210, nat_lit 211, nat_lit 214, nat_lit 215, nat_lit 216, nat_lit 219, nat_lit 220]
theorem heapE : ∀ P, heapA = (heapK P).map (·.1) := fun _ => by kernel_rfl
theorem said : PySem.Challenge.rw_bundlehouse_k88_whole_rings_cut.wellSaid = true := by kernel_rfl
theorem run1 : ∀ w, ((openEnds treeTable PySem.Challenge.rw_bundlehouse_k88_whole_rings_cut.row.prog w 2834).map fun s => (openSeen (HD.cutTo PySem.Challenge.rw_bundlehouse_k88_whole_rings_cut.prog [1, 2, 4, 6, 7, 8, 10, 11, 12, 13, 15, 16, 17, 18, 19, 20, 21, 22, 24, 25, 26, 28, 29, 30, 31, 32, 33, 34, 35, 36, 37, 38, 39]) [] (importedModules PySem.Challenge.rw_bundlehouse_k88_whole_rings_cut.row.prog.main.body) (fun s => xlAt (HD.cutTo PySem.Challenge.rw_bundlehouse_k88_whole_rings_cut.prog [1, 2, 4, 6, 7, 8, 10, 11, 12, 13, 15, 16, 17, 18, 19, 20, 21, 22, 24, 25, 26, 28, 29, 30, 31, 32, 33, 34, 35, 36, 37, 38, 39]) [] s && recOk (RowW.records PySem.Challenge.rw_bundlehouse_k88_whole_rings_cut.row.toRowW) s) true s).1) = some (openGood (HD.cutTo PySem.Challenge.rw_bundlehouse_k88_whole_rings_cut.prog [1, 2, 4, 6, 7, 8, 10, 11, 12, 13, 15, 16, 17, 18, 19, 20, 21, 22, 24, 25, 26, 28, 29, 30, 31, 32, 33, 34, 35, 36, 37, 38, 39]) []).1 := fun w => by kernel_rfl
theorem run2 : ∀ w, ((openEnds treeTable PySem.Challenge.rw_bundlehouse_k88_whole_rings_cut.row.prog w 2834).map fun s => ((openSeen (HD.cutTo PySem.Challenge.rw_bundlehouse_k88_whole_rings_cut.prog [1, 2, 4, 6, 7, 8, 10, 11, 12, 13, 15, 16, 17, 18, 19, 20, 21, 22, 24, 25, 26, 28, 29, 30, 31, 32, 33, 34, 35, 36, 37, 38, 39]) [] (importedModules PySem.Challenge.rw_bundlehouse_k88_whole_rings_cut.row.prog.main.body) (fun s => xlAt (HD.cutTo PySem.Challenge.rw_bundlehouse_k88_whole_rings_cut.prog [1, 2, 4, 6, 7, 8, 10, 11, 12, 13, 15, 16, 17, 18, 19, 20, 21, 22, 24, 25, 26, 28, 29, 30, 31, 32, 33, 34, 35, 36, 37, 38, 39]) [] s && recOk (RowW.records PySem.Challenge.rw_bundlehouse_k88_whole_rings_cut.row.toRowW) s) true s).2.1, (openSeen (HD.cutTo PySem.Challenge.rw_bundlehouse_k88_whole_rings_cut.prog [1, 2, 4, 6, 7, 8, 10, 11, 12, 13, 15, 16, 17, 18, 19, 20, 21, 22, 24, 25, 26, 28, 29, 30, 31, 32, 33, 34, 35, 36, 37, 38, 39]) [] (importedModules PySem.Challenge.rw_bundlehouse_k88_whole_rings_cut.row.prog.main.body) (fun s => xlAt (HD.cutTo PySem.Challenge.rw_bundlehouse_k88_whole_rings_cut.prog [1, 2, 4, 6, 7, 8, 10, 11, 12, 13, 15, 16, 17, 18, 19, 20, 21, 22, 24, 25, 26, 28, 29, 30, 31, 32, 33, 34, 35, 36, 37, 38, 39]) [] s && recOk (RowW.records PySem.Challenge.rw_bundlehouse_k88_whole_rings_cut.row.toRowW) s) true s).2.2.1)) = some ((openGood (HD.cutTo PySem.Challenge.rw_bundlehouse_k88_whole_rings_cut.prog [1, 2, 4, 6, 7, 8, 10, 11, 12, 13, 15, 16, 17, 18, 19, 20, 21, 22, 24, 25, 26, 28, 29, 30, 31, 32, 33, 34, 35, 36, 37, 38, 39]) []).2.1, (openGood (HD.cutTo PySem.Challenge.rw_bundlehouse_k88_whole_rings_cut.prog [1, 2, 4, 6, 7, 8, 10, 11, 12, 13, 15, 16, 17, 18, 19, 20, 21, 22, 24, 25, 26, 28, 29, 30, 31, 32, 33, 34, 35, 36, 37, 38, 39]) []).2.2.1) := fun w => by kernel_rfl
theorem run3 : ∀ w, ((openEnds treeTable PySem.Challenge.rw_bundlehouse_k88_whole_rings_cut.row.prog w 2834).map fun s => (openSeen (HD.cutTo PySem.Challenge.rw_bundlehouse_k88_whole_rings_cut.prog [1, 2, 4, 6, 7, 8, 10, 11, 12, 13, 15, 16, 17, 18, 19, 20, 21, 22, 24, 25, 26, 28, 29, 30, 31, 32, 33, 34, 35, 36, 37, 38, 39]) [] (importedModules PySem.Challenge.rw_bundlehouse_k88_whole_rings_cut.row.prog.main.body) (fun s => xlAt (HD.cutTo PySem.Challenge.rw_bundlehouse_k88_whole_rings_cut.prog [1, 2, 4, 6, 7, 8, 10, 11, 12, 13, 15, 16, 17, 18, 19, 20, 21, 22, 24, 25, 26, 28, 29, 30, 31, 32, 33, 34, 35, 36, 37, 38, 39]) [] s && recOk (RowW.records PySem.Challenge.rw_bundlehouse_k88_whole_rings_cut.row.toRowW) s) true s).2.2.2) = some (openGood (HD.cutTo PySem.Challenge.rw_bundlehouse_k88_whole_rings_cut.prog [1, 2, 4, 6, 7, 8, 10, 11, 12, 13, 15, 16, 17, 18, 19, 20, 21, 22, 24, 25, 26, 28, 29, 30, 31, 32, 33, 34, 35, 36, 37, 38, 39]) []).2.2.2 := fun w => by kernel_rfl
theorem run4 : ∀ w, ((openEnds treeTable PySem.Challenge.rw_bundlehouse_k88_whole_rings_cut.row.prog w 2834).map (kHook heapK heapA heapE).obs) = some ((kHook heapK heapA heapE).val w) := fun w => by kernel_rfl
theorem top_run : LeftO PySem.Challenge.rw_bundlehouse_k88_whole_rings_cut.row.prog (HD.cutTo PySem.Challenge.rw_bundlehouse_k88_whole_rings_cut.prog [1, 2, 4, 6, 7, 8, 10, 11, 12, 13, 15, 16, 17, 18, 19, 20, 21, 22, 24, 25, 26, 28, 29, 30, 31, 32, 33, 34, 35, 36, 37, 38, 39]) [] (fun s => xlAt (HD.cutTo PySem.Challenge.rw_bundlehouse_k88_whole_rings_cut.prog [1, 2, 4, 6, 7, 8, 10, 11, 12, 13, 15, 16, 17, 18, 19, 20, 21, 22, 24, 25, 26, 28, 29, 30, 31, 32, 33, 34, 35, 36, 37, 38, 39]) [] s && recOk (RowW.records PySem.Challenge.rw_bundlehouse_k88_whole_rings_cut.row.toRowW) s) (kHook heapK heapA heapE).obs (kHook heapK heapA heapE).val 2834 := HD.left_of run1 run2 run3 run4
end K88
set_option Elab.async false
set_option linter.all false
set_option maxRecDepth 100000
namespace L2
open PySem PySem.Spec PyProof.Rows
noncomputable abbrev Key := Sum Int Str
noncomputable def keyIs : Key → Value → Bool
 | .inl k, v => Value.isInt k v
 | .inr x, v => Value.isStrOf x v
noncomputable def keyH (w : World) : Key → Int
 | .inl k => hashInt k
 | .inr x => hashStr w x
theorem keyIs_shape : ∀ {k : Key} {v : Value}, keyIs k v = true → (∃ i t, k = Sum.inl i ∧ v = Value.int i t) ∨ (∃ x t, k = Sum.inr x ∧ v = Value.str x t)
 | .inl i, v, h => by
   obtain ⟨t, e⟩ := Value.isInt_shape (k := i) (v := v) h
   exact .inl ⟨i, t, rfl, e⟩
 | .inr x, v, h => by
   obtain ⟨t, e⟩ := Value.isStrOf_shape (x := x) (v := v) h
   exact .inr ⟨x, t, rfl, e⟩
theorem keyIs_int (i : Int) (t : Tok) : keyIs (.inl i) (.int i t) = true := by simp [keyIs, Value.isInt]
theorem keyIs_str (x : Str) (t : Tok) : keyIs (.inr x) (.str x t) = true := by simp [keyIs, Value.isStrOf]
theorem key_ll (a b : Int) : decide ((Sum.inl a : Key) = Sum.inl b) = (a == b) := by
 by_cases e : a = b
 · subst e; simp
 · have h : ¬ (Sum.inl a : Key) = Sum.inl b := fun q => e (Sum.inl.inj q)
   rw [decide_eq_false h]
   exact (beq_eq_false_iff_ne.mpr e).symm
theorem key_rr (a b : Str) : decide ((Sum.inr a : Key) = Sum.inr b) = decide (a = b) := by
 by_cases e : a = b
 · subst e; simp
 · have h : ¬ (Sum.inr a : Key) = Sum.inr b := fun q => e (Sum.inr.inj q)
   rw [decide_eq_false h, decide_eq_false e]
theorem key_lr (a : Int) (b : Str) : decide ((Sum.inl a : Key) = Sum.inr b) = false := decide_eq_false (fun q => nomatch q)
theorem key_rl (a : Str) (b : Int) : decide ((Sum.inr a : Key) = Sum.inl b) = false := decide_eq_false (fun q => nomatch q)
noncomputable def mixKind (prog : Program) (w : World) : PySem.KeyKind prog w Key where
 is := keyIs
 hash := keyH w
 inj := fun v a b ha hb => by
   rcases keyIs_shape ha with ⟨i, t, rfl, rfl⟩ | ⟨x, t, rfl, rfl⟩
   · rcases keyIs_shape hb with ⟨j, u, rfl, e⟩ | ⟨y, u, rfl, e⟩
     · injection e with e1 _; rw [e1]
     · exact nomatch e
   · rcases keyIs_shape hb with ⟨j, u, rfl, e⟩ | ⟨y, u, rfl, e⟩
     · exact nomatch e
     · injection e with e1 _; rw [e1]
 byValue := fun k v h => by
   rcases keyIs_shape h with ⟨i, t, rfl, rfl⟩ | ⟨x, t, rfl, rfl⟩ <;> rfl
 pyHash := fun hv h => by
   rcases keyIs_shape hv with ⟨i, t, rfl, rfl⟩ | ⟨x, t, rfl, rfl⟩
   · exact wpAny_pyHash_int h
   · exact wpAny_pyHash_str h
 eqBool := fun hu hv h => by
   rcases keyIs_shape hu with ⟨i, t, rfl, rfl⟩ | ⟨x, t, rfl, rfl⟩
   · rcases keyIs_shape hv with ⟨j, u, rfl, rfl⟩ | ⟨y, u, rfl, rfl⟩
     · rw [key_ll] at h; exact wpAny_eqBool_int h
     · rw [key_lr] at h; exact SeqAt.EqAt.int_str i t y u _ _ _ _ h
   · rcases keyIs_shape hv with ⟨j, u, rfl, rfl⟩ | ⟨y, u, rfl, rfl⟩
     · rw [key_rl] at h; exact SeqAt.EqAt.str_int x t j u _ _ _ _ h
     · rw [key_rr] at h; exact wpAny_eqBool_str h
 «strs» := fun k x t v h => by
   rcases keyIs_shape h with ⟨i, u, rfl, e⟩ | ⟨y, u, rfl, e⟩
   · exact nomatch e
   · injection e with e1 _
     subst e1
     cases v <;> rfl
theorem mixKind_int (prog : Program) (w : World) (i : Int) (t : Tok) : (mixKind prog w).is (.inl i) (.int i t) = true := keyIs_int i t
theorem mixKind_str (prog : Program) (w : World) (x : Str) (t : Tok) : (mixKind prog w).is (.inr x) (.str x t) = true := keyIs_str x t
end L2
namespace L2
open PySem PySem.Spec PyProof.Rows
inductive V where
 | non | bl (b : Bool) | int (i : Int) | str (x : Str) | byt (b : Array UInt8) | flt (b : UInt64) | ref (a : Addr) | ty (n : String)
 deriving DecidableEq
noncomputable def RelV : V → Value → Prop
 | .non, u => u = Value.none
 | .bl b, u => u = Value.bool b
 | .int i, u => ∃ t, u = Value.int i t
 | .str x, u => ∃ t, u = Value.str x t
 | .byt b, u => ∃ t, u = Value.bytes b t
 | .flt b, u => ∃ t, u = Value.float b t
 | .ref a, u => u = Value.ref a
 | .ty n, u => u = Value.type n
noncomputable abbrev Vals : List V → List Value → Prop := Paired RelV
theorem Vals.length {xs : List V} {us : List Value} (r : Vals xs us) : xs.length = us.length := Paired.length r
theorem Vals.get : ∀ {xs : List V} {us : List Value} {i : Nat} {x : V}, Vals xs us → xs[i]? = some x → ∃ u, us[i]? = some u ∧ RelV x u
 | _, _, _, _, .nil, e => by simp at e
 | _, _, 0, _, .cons r _, e => by simp at e; subst e; exact ⟨_, rfl, r⟩
 | _, _, i + 1, x, .cons _ t, e => by
   obtain ⟨u, h1, h2⟩ := Vals.get (i := i) (x := x) t (by simpa using e)
   exact ⟨u, by simpa using h1, h2⟩
theorem Vals.append : ∀ {xs ys : List V} {us ws : List Value}, Vals xs us → Vals ys ws → Vals (xs ++ ys) (us ++ ws)
 | _, _, _, _, .nil, s => s
 | _, _, _, _, .cons r t, s => .cons r (Vals.append t s)
theorem Vals.take : ∀ {xs : List V} {us : List Value} (n : Nat), Vals xs us → Vals (xs.take n) (us.take n)
 | _, _, 0, _ => .nil
 | _, _, _ + 1, .nil => .nil
 | _, _, n + 1, .cons r t => .cons r (Vals.take n t)
theorem Vals.drop : ∀ {xs : List V} {us : List Value} (n : Nat), Vals xs us → Vals (xs.drop n) (us.drop n)
 | _, _, 0, r => r
 | _, _, _ + 1, .nil => .nil
 | _, _, n + 1, .cons _ t => Vals.drop n t
noncomputable def RelO : Option V → Option Value → Prop
 | some v, some u => RelV v u
 | none, none => True
 | _, _ => False
noncomputable def KV {κ : Type} : List (κ × V) → List (κ × Value) → Prop := Paired fun (p : κ × V) (q : κ × Value) => p.1 = q.1 ∧ RelV p.2 q.2
noncomputable def kV : Key → V
 | .inl i => .int i
 | .inr x => .str x
inductive HO where
 | lst (xs : List V)
 | tup (xs : List V)
 | dK (kvs : List (Key × V)) | dT (kvs : List (List Key × V))
 | set (S : Int → Bool) (n : Nat)
 | ins (C dx : Addr) (fs : List (Str × V))
 | own (x : Addr)
 | xd (fs : List (Str × V))
 | met (f x : Addr)
 | rng (lo hi : Int)
 | frz (o : Obj) (u : HO)
 | tbl (ps : Array Value)
 | ext (φ : Heap → Prop)
noncomputable abbrev Hp := Addr → Option HO
noncomputable def upd (H : Hp) (a : Addr) (o : HO) : Hp := fun b => if b = a then some o else H b
theorem upd_same {H : Hp} {a : Addr} {o : HO} : upd H a o a = some o := by unfold upd; rw [if_pos rfl]
theorem upd_ne {H : Hp} {a b : Addr} {o : HO} (h : b ≠ a) : upd H a o b = H b := by unfold upd; rw [if_neg h]
theorem upd_upd {H : Hp} {a : Addr} {o u : HO} : upd (upd H a o) a u = upd H a u := by
 funext b; unfold upd; split <;> rfl
theorem ne_of {H : Hp} {a b : Addr} {o u : HO} (h : H a = some o) (h' : H b = some u) (d : o ≠ u) : a ≠ b := by
 intro e; subst e; rw [h] at h'; exact d (Option.some.inj h')
theorem ne_of_none {H : Hp} {a b : Addr} {o : HO} (h : H a = some o) (h' : H b = none) : a ≠ b := by
 intro e; subst e; rw [h] at h'; cases h'
section
variable (P : Program) (w : World)
noncomputable def ObjOk (H : Hp) (h : Heap) (a : Addr) : HO → Prop
 | .lst xs => xs.length ≤ sizeLine ∧ ∃ (its : List Value) (n : Nat), Vals xs its ∧ h.get? a = some { cls := .type "list", data := .seq its.toArray n }
 | .tup xs => xs.length ≤ sizeLine ∧ ∃ its : List Value, Vals xs its ∧ IsTup h a its.toArray
 | .dK kvs => kvs.length ≤ sizeLine ∧ (a == sysModules) = false ∧ ∃ vs, KV kvs vs ∧ h.DictOf (mixKind P w) a vs
 | .dT kvs => kvs.length ≤ sizeLine ∧ (a == sysModules) = false ∧ ∃ xs : List (List Key × Addr × Value),
     Paired (fun (p : List Key × V) (q : List Key × Addr × Value) => p.1 = q.1 ∧ H q.2.1 = some (.tup (p.1.map kV)) ∧ RelV p.2 q.2.2) kvs xs ∧
     ∃ o es ep, h.get? a = some o ∧ o.ExactDict ∧ o.data = .dict es ep ∧ es.toList = xs.map (entryOfKey (tupleKind (mixKind P w))) ∧ (xs.map (·.1)).Nodup
 | .set S n => h.SetOf (intKind P w) a S n
 | .ins C dx fs => H dx = some (.own a) ∧ fs.length ≤ 1000 ∧ dx ≠ a ∧ h.get? a = some (PySem.W.instObj C dx) ∧
     ∃ mA, h.Ns1 dx mA ∧ (∀ f, RelO (fs.lookup f) (mA f)) ∧ PySem.Within mA (fs.map (·.1))
 | .own _ => ∃ o, h.get? a = some o
 | .xd fs => ∃ mA, h.Ns1 a mA ∧ ∀ f, RelO (fs.lookup f) (mA f)
 | .rng lo hi => ∃ t u v, h.get? a = some { cls := .type "range", data := .fields #[.int lo t, .int hi u, .int 1 v] }
 | .frz o u => h.get? a = some o ∧ ObjOk H h a u
 | .tbl ps => h.get? a = some { cls := .none, data := .fields ps }
 | .met f x => h.get? a = some (PySem.W.methodObj (.ref f) (.ref x))
 | .ext φ => φ h ∧ (∃ o, h.get? a = some o) ∧ ∀ h1 h2 : Heap, φ h1 → (∀ o, h1.get? a = some o → h2.get? a = some o) → φ h2
noncomputable def HOk (H : Hp) (h : Heap) : Prop := ∀ a o, H a = some o → ObjOk P w H h a o
end
section
variable {P : Program} {w : World} {H H' : Hp} {h h' : Heap} {a : Addr} {o : HO}
theorem ObjOk.lt (x : ObjOk P w H h a o) : a < h.objs.size := by
 cases o with
 | lst xs => obtain ⟨_, _, _, _, e⟩ := x; exact Heap.lt_size e
 | tup xs => obtain ⟨_, _, _, p⟩ := x; exact p.lt
 | dK kvs => obtain ⟨_, _, _, _, o, _, _, e, _⟩ := x; exact Heap.lt_size e
 | dT kvs => obtain ⟨_, _, _, _, o, _, _, e, _⟩ := x; exact Heap.lt_size e
 | set S n => obtain ⟨o, _, _, _, e, _⟩ := x; exact Heap.lt_size e
 | ins C dx fs => obtain ⟨_, _, _, e, _⟩ := x; exact Heap.lt_size e
 | own y => obtain ⟨_, e⟩ := x; exact Heap.lt_size e
 | xd fs => obtain ⟨_, ⟨_, _, _, e, _⟩, _⟩ := x; exact Heap.lt_size e
 | rng lo hi => obtain ⟨_, _, _, e⟩ := x; exact Heap.lt_size e
 | frz ob u => obtain ⟨e, _⟩ := x; exact Heap.lt_size e
 | tbl ps => exact Heap.lt_size (show h.get? a = some _ from x)
 | met f y => exact Heap.lt_size (show h.get? a = some _ from x)
 | ext φ => obtain ⟨_, ⟨_, e⟩, _⟩ := x; exact Heap.lt_size e
theorem Paired.mapP {α β : Type} {F G : α → β → Prop} : ∀ {l₁ : List α} {l₂ : List β}, Paired F l₁ l₂ → (∀ a b, F a b → G a b) → Paired G l₁ l₂
 | _, _, .nil, _ => .nil
 | _, _, .cons r t, f => .cons (f _ _ r) (Paired.mapP t f)
theorem ObjOk.stay (x : ObjOk P w H h a o) (k : ∀ b u, (b = a ∨ H b = some (.own a)) → h.get? b = some u → h'.get? b = some u)
   (ho : ∀ b, H b = some (.own a) → H' b = some (.own a)) (ht : ∀ b xs, H b = some (.tup xs) → H' b = some (.tup xs)) : ObjOk P w H' h' a o := by
 induction o with
 | lst xs => obtain ⟨z, its, n, r, e⟩ := x; exact ⟨z, its, n, r, k _ _ (.inl rfl) e⟩
 | tup xs => obtain ⟨z, its, r, ob, e, c⟩ := x; exact ⟨z, its, r, ob, k _ _ (.inl rfl) e, c⟩
 | dK kvs => obtain ⟨z, y, vs, r, ob, es, ep, e, c⟩ := x; exact ⟨z, y, vs, r, ob, es, ep, k _ _ (.inl rfl) e, c⟩
 | dT kvs =>
   obtain ⟨z, y, xs, r, ob, es, ep, e, c⟩ := x
   exact ⟨z, y, xs, Paired.mapP r fun p q z => ⟨z.1, ht _ _ z.2.1, z.2.2⟩, ob, es, ep, k _ _ (.inl rfl) e, c⟩
 | set S n => obtain ⟨ob, es, ep, t, e, c⟩ := x; exact ⟨ob, es, ep, t, k _ _ (.inl rfl) e, c⟩
 | ins C dx fs =>
   obtain ⟨d, z, ne, e, mA, ⟨od, es, ep, e2, c⟩, r⟩ := x
   exact ⟨ho _ d, z, ne, k _ _ (.inl rfl) e, mA, ⟨od, es, ep, k _ _ (.inr d) e2, c⟩, r⟩
 | own y => obtain ⟨ob, e⟩ := x; exact ⟨ob, k _ _ (.inl rfl) e⟩
 | xd fs => obtain ⟨mA, ⟨od, es, ep, e, c⟩, r⟩ := x; exact ⟨mA, ⟨od, es, ep, k _ _ (.inl rfl) e, c⟩, r⟩
 | rng lo hi => obtain ⟨t, u, v, e⟩ := x; exact ⟨t, u, v, k _ _ (.inl rfl) e⟩
 | frz ob u ih => obtain ⟨e, q⟩ := x; exact ⟨k _ _ (.inl rfl) e, ih q⟩
 | tbl ps =>
   have e : h.get? a = some { cls := .none, data := .fields ps } := x
   show h'.get? a = some { cls := .none, data := .fields ps }
   exact k a _ (.inl rfl) e
 | met f y =>
   have e : h.get? a = some (PySem.W.methodObj (.ref f) (.ref y)) := x
   show h'.get? a = some (PySem.W.methodObj (.ref f) (.ref y))
   exact k a _ (.inl rfl) e
 | ext φ => obtain ⟨p, ⟨o, e⟩, st⟩ := x; exact ⟨st _ _ p fun o q => k _ _ (.inl rfl) q, ⟨o, k _ _ (.inl rfl) e⟩, st⟩
theorem HOk.lt (x : HOk P w H h) (e : H a = some o) : a < h.objs.size := (x a o e).lt
theorem HOk.fresh (x : HOk P w H h) (e : h.objs.size ≤ a) : H a = none := by
 cases q : H a with
 | none => rfl
 | some u => exact absurd (Nat.lt_of_lt_of_le (x.lt q) e) (Nat.lt_irrefl _)
theorem HOk.kept (x : HOk P w H h) (k : ∀ b u, h.get? b = some u → h'.get? b = some u) : HOk P w H h' := fun a o e =>
 (x a o e).stay (fun b u _ q => k b u q) (fun _ q => q) fun _ _ q => q
theorem HOk.laid (x : HOk P w H h) (k : ∀ b u, h.get? b = some u → h'.get? b = some u) (hp : h.objs.size ≤ a) (new : ObjOk P w (upd H a o) h' a o) : HOk P w (upd H a o) h' := fun b u e => by
 have hn := x.fresh hp
 by_cases hb : b = a
 · subst hb; rw [upd_same] at e; cases e; exact new
 · rw [upd_ne hb] at e
   exact (x b u e).stay (fun c v _ q => k c v q) (fun c q => by rw [upd_ne (ne_of_none q hn)]; exact q) fun c xs q => by rw [upd_ne (ne_of_none q hn)]; exact q
end
noncomputable def Rd (H : Hp) (a : Addr) (u : HO) : Prop := H a = some u ∨ ∃ o, H a = some (.frz o u)
theorem Rd.ok {P : Program} {w : World} {H : Hp} {h : Heap} {a : Addr} {u : HO} (r : Rd H a u) (x : HOk P w H h) : ObjOk P w H h a u := by
 rcases r with r | ⟨o, r⟩
 · exact x a u r
 · obtain ⟨_, q⟩ := x a _ r
   exact q
noncomputable def Mut : Option HO → Prop
 | some (.lst _) => True
 | some (.dK _) => True
 | some (.dT _) => True
 | some (.set _ _) => True
 | some (.ins _ _ _) => True
 | some (.ext _) => True
 | _ => False
section
variable {P : Program} {w : World} {H : Hp} {h h' : Heap} {x e : Addr} {o' : HO}
theorem HOk.write (ok : HOk P w H h) (mu : Mut (H x)) (he : e = x ∨ H e = some (.own x)) (k : ∀ b u, b ≠ e → h.get? b = some u → h'.get? b = some u) (heo : ∃ u, h'.get? e = some u)
   (new : ObjOk P w (upd H x o') h' x o') : HOk P w (upd H x o') h' := fun b u q => by
 have nown : ∀ c y, H c = some (.own y) → c ≠ x := fun c y r z => by subst z; rw [r] at mu; exact mu
 have ntup : ∀ c xs, H c = some (.tup xs) → c ≠ x := fun c xs r z => by subst z; rw [r] at mu; exact mu
 by_cases hb : b = x
 · subst hb; rw [upd_same] at q; cases q; exact new
 · rw [upd_ne hb] at q
   by_cases hbe : b = e
   · have q' : H b = some (.own x) := by
       rcases he with z | z
       · exact absurd (hbe.trans z) hb
       · rw [hbe]; exact z
     rw [q] at q'; cases q'
     obtain ⟨v, hv⟩ := heo
     exact ⟨v, by rw [hbe]; exact hv⟩
   · refine (ok b u q).stay (fun c v hc r => k c v ?_ r) (fun c r => by rw [upd_ne (nown c b r)]; exact r) fun c xs r => by rw [upd_ne (ntup c xs r)]; exact r
     rcases hc with rfl | hc
     · exact hbe
     · rintro rfl
       rcases he with z | z
       · exact nown c b hc z
       · rw [hc] at z; cases z; exact hb rfl
end
structure Un (fs ex : List Addr) (H H' : Hp) (h h' : Heap) : Prop where
 keep : ∀ b o, h.get? b = some o → H b = none → b ∉ fs → b ∉ ex → h'.get? b = some o
 slot : ∀ b o, h.get? b = some o → H b = none → b ∈ fs → b ∉ ex → ∃ sl, h'.get? b = some { o with slots := sl }
 free : ∀ b o, h.get? b = some o → H b = none → b ∉ ex → H' b = none
 there : ∀ b o, h.get? b = some o → b ∉ ex → ∃ o', h'.get? b = some o'
 tups : ∀ b xs, H b = some (.tup xs) → H' b = some (.tup xs)
 frzs : ∀ b o u, H b = some (.frz o u) → H' b = some (.frz o u)
 tbls : ∀ b ps, H b = some (.tbl ps) → ∃ more, H' b = some (.tbl (ps ++ more))
section
variable {fs fs' ex ex' : List Addr} {H H1 H2 : Hp} {h h1 h2 h' : Heap} {a x e : Addr} {o : HO}
theorem Un.any (u : Un fs ex H H1 h h1) {b : Addr} {ob : Obj} (q : h.get? b = some ob) (n : H b = none) (hx : b ∉ ex) : ∃ sl, h1.get? b = some { ob with slots := sl } := by
 by_cases hb : b ∈ fs
 · exact u.slot b ob q n hb hx
 · exact ⟨ob.slots, u.keep b ob q n hb hx⟩
theorem Un.kept (k : ∀ b u, h.get? b = some u → h'.get? b = some u) : Un fs ex H H h h' :=
 ⟨fun b ob q _ _ _ => k b ob q, fun b ob q _ _ _ => ⟨ob.slots, k b ob q⟩, fun _ _ _ n _ => n, fun b ob q _ => ⟨ob, k b ob q⟩, fun _ _ q => q, fun _ _ _ q => q, fun _ ps q => ⟨#[], by rw [q]; simp⟩⟩
theorem Un.refl : Un fs ex H H h h := Un.kept fun _ _ q => q
theorem Un.laid (k : ∀ b u, h.get? b = some u → h'.get? b = some u) (hp : h.objs.size ≤ a) (hn : H a = none) : Un fs ex H (upd H a o) h h' where
 keep := fun b u q _ _ _ => k b u q
 slot := fun b u q _ _ _ => ⟨u.slots, k b u q⟩
 free := fun b u q n _ => by rw [upd_ne (Nat.ne_of_lt (Nat.lt_of_lt_of_le (Heap.lt_size q) hp))]; exact n
 there := fun b u q _ => ⟨u, k b u q⟩
 tups := fun b xs q => by rw [upd_ne (ne_of_none q hn)]; exact q
 frzs := fun b u xs q => by rw [upd_ne (ne_of_none q hn)]; exact q
 tbls := fun b ps q => ⟨#[], by rw [upd_ne (ne_of_none q hn), q]; simp⟩
theorem Un.write (mu : Mut (H x)) (he : e = x ∨ H e = some (.own x)) (k : ∀ b u, b ≠ e → h.get? b = some u → h'.get? b = some u) (heo : ∃ u, h'.get? e = some u) : Un fs ex H (upd H x o) h h' := by
 have hx : ∀ b, H b = none → b ≠ x := fun b n z => by subst z; rw [n] at mu; exact mu
 have hb : ∀ b, H b = none → b ≠ e := fun b n z => by
   subst z
   rcases he with r | r
   · exact hx b n r
   · rw [n] at r; cases r
 have hm : ∀ b u, H b = some u → ¬ Mut (some u) → b ≠ x := fun b u q nm z => by subst z; rw [q] at mu; exact nm mu
 refine ⟨fun b u q n _ _ => k b u (hb b n) q, fun b u q n _ _ => ⟨u.slots, k b u (hb b n) q⟩, fun b u q n _ => by rw [upd_ne (hx b n)]; exact n, fun b u q _ => ?_,
   fun b xs q => by rw [upd_ne (hm b _ q fun z => z)]; exact q, fun b u xs q => by rw [upd_ne (hm b _ q fun z => z)]; exact q, fun b ps q => ⟨#[], by rw [upd_ne (hm b _ q fun z => z), q]; simp⟩⟩
 by_cases hbe : b = e
 · subst hbe; exact heo
 · exact ⟨u, k b u hbe q⟩
end
noncomputable def trk (h : Heap) (H : Hp) : List Addr := (List.range h.objs.size).filter fun a => (H a).isSome
noncomputable def hidT (h : Heap) (H : Hp) : Heap := PySem.W.hideAll h (trk h H)
theorem hidT_size (h : Heap) (H : Hp) : (hidT h H).objs.size = h.objs.size := PySem.W.hideAll_size _ _
theorem hidT_get {h : Heap} {H : Hp} {b : Addr} {o : Obj} (e : h.get? b = some o) (n : H b = none) : (hidT h H).get? b = some o :=
 PySem.W.hideAll_get _ e fun hm => by
   have q : (H b).isSome = true := (List.mem_filter.mp hm).2
   rw [n] at q; simp at q
theorem of_hidT {h : Heap} {H : Hp} {b : Addr} {o : Obj} (e : (hidT h H).get? b = some o) : h.get? b = some o ∧ H b = none := by
 have e' : h.get? b = some o := PySem.W.of_hideAll (trk h H) e
 refine ⟨e', ?_⟩
 cases q : H b with
 | none => rfl
 | some x =>
   have hm : b ∈ trk h H := List.mem_filter.mpr ⟨List.mem_range.mpr (Heap.lt_size e'), by simp [q]⟩
   have z : (hidT h H).get? b = none := PySem.W.hideAll_none (trk h H) hm
   rw [z] at e; cases e
end L2
namespace L2
open PySem PySem.Spec PyProof.Rows
structure Mod (K : PySem.W.Frag) (mg : Str → Option Value) (base : Heap) : Prop where
 kin : K.In base
 glob : base.Ns mainGlobals mg
 blt : ∃ mb, base.Ns builtinsNs mb ∧ ∀ x : Str, x ≠ "__name__" → mb x = bootBuiltins x
 nolimit : base.NoLimit
structure Cx where
 prog : Program
 w : World
 K : PySem.W.Frag
 mg : Str → Option Value
 base : Heap
 A : Around
 N : List Str
 s₀ : Shared
 H₀ : Hp
 env : Env
 outer : List Env
 stack : List Env
 ex : List Addr
 fn : Str → Bool
 calm : Bool
 pn : List (Addr × Obj)
 xe : Value → Shared → Prop
noncomputable def frs (l : List Env) : List Addr := l.filterMap (·.frame)
noncomputable abbrev Cx.fs (X : Cx) : List Addr := frs X.outer
noncomputable def Vis (sc : Scope) (x : Str) : Prop := sc.names.lookup x = some .local ∨ sc.names.lookup x = some .cell ∨ sc.names.lookup x = some .free
noncomputable def Loc (sc : Scope) (x : Str) : Prop := sc.names.lookup x = some .local ∨ sc.names.lookup x = some .cell
noncomputable def Look (env : Env) (h : Heap) (m : Str → Option Value) (x : Str) (u : Value) : Prop :=
 (env.kindOf x = some .local ∧ m x = some u) ∨ ((env.kindOf x = some .cell ∨ env.kindOf x = some .free) ∧ ∃ c, env.cells.lookup x = some c ∧ h.IsCell c (some u))
structure Cx.Ok (X : Cx) : Prop where
 mod : Mod X.K X.mg X.base
 kind : X.env.scope.kind = .function
 glob : X.env.globals = mainGlobals
 blt : X.env.builtins = builtinsNs
 above : X.s₀.heap.objs.size ≤ X.env.locals
 inj : ∀ x y c, X.env.cells.lookup x = some c → X.env.cells.lookup y = some c → x = y
 has : ∀ x, (X.env.kindOf x = some .cell ∨ X.env.kindOf x = some .free) → ∃ c, X.env.cells.lookup x = some c
 cab : ∀ x c, X.fn x = true → X.env.cells.lookup x = some c → X.s₀.heap.objs.size ≤ c
 hd : X.calm = true → X.A.handled = none
 frames : X.A.frames = some X.stack
 stk : X.stack = X.outer ∨ (X.stack = X.env :: X.outer ∧ X.env.frame = some X.env.locals)
 exf : ∀ b ∈ X.ex, b ≠ X.env.locals ∧ ∀ x c, X.env.cells.lookup x = some c → c ≠ b
 bs : ∀ b o, X.base.get? b = some o → X.s₀.heap.get? b = some o ∧ X.H₀ b = none
 bsz : X.base.objs.size ≤ X.s₀.heap.objs.size
 noex : ∀ b o, X.base.get? b = some o → b ∉ X.ex
 exfs : ∀ b ∈ X.ex, b ∉ X.fs
 funs : X.s₀.heap.FunFrames X.base X.outer
 frf : ∀ b ∈ X.fs, X.H₀ b = none
structure Inv (X : Cx) (pins : List (Addr × Obj)) (σ : List (Option V)) (H : Hp) (s : Shared) : Prop where
 ok : X.Ok
 os : s.os = X.s₀.os
 bare : AllBare s.gens
 base : Un X.fs X.ex X.H₀ H X.s₀.heap s.heap
 loc : ∃ m, s.heap.Ns X.env.locals m ∧ ∀ (i : Nat) (x : Str) (v : V), X.N[i]? = some x → σ[i]? = some (some v) → Vis X.env.scope x → ∃ u, RelV v u ∧ Look X.env s.heap m x u
 cell : ∀ x c, X.env.cells.lookup x = some c → ∃ v, s.heap.IsCell c v
 free : H X.env.locals = none
 freeC : ∀ x c, X.env.cells.lookup x = some c → H c = none
 pin : ∀ p ∈ X.pn ++ pins, s.heap.get? p.1 = some p.2 ∧ H p.1 = none ∧ p.1 ≠ X.env.locals ∧ p.1 ∉ X.fs ∧ ∀ v, p.2.data ≠ .cell v
 hok : HOk X.prog X.w H s.heap
 len : σ.length = X.N.length
section
variable {X : Cx} {pins : List (Addr × Obj)} {σ : List (Option V)} {H H' : Hp} {s : Shared} {h' : Heap}
theorem Cx.Ok.nofr (ok : X.Ok) {b : Addr} {o : Obj} (e : X.base.get? b = some o) : b ∉ X.fs := fun hb => by
 have := (ok.funs.mem hb).1
 rw [e] at this; cases this
theorem Inv.bs (I : Inv X pins σ H s) : ∀ b o, X.base.get? b = some o → s.heap.get? b = some o ∧ H b = none := fun b o e =>
 ⟨I.base.keep b o (I.ok.bs b o e).1 (I.ok.bs b o e).2 (I.ok.nofr e) (I.ok.noex b o e), I.base.free b o (I.ok.bs b o e).1 (I.ok.bs b o e).2 (I.ok.noex b o e)⟩
theorem Inv.bk (I : Inv X pins σ H s) : ∀ b o, X.base.get? b = some o → s.heap.get? b = some o := fun b o e => (I.bs b o e).1
theorem Inv.mod (I : Inv X pins σ H s) : Mod X.K X.mg X.base := I.ok.mod
theorem Inv.kIn (I : Inv X pins σ H s) : X.K.In s.heap := I.ok.mod.kin.keeps I.bk
theorem Inv.lt (I : Inv X pins σ H s) : X.env.locals < s.heap.objs.size := let ⟨_, hn, _⟩ := I.loc; hn.lt
theorem Inv.sz (I : Inv X pins σ H s) : X.s₀.heap.objs.size ≤ s.heap.objs.size := Nat.le_trans I.ok.above (Nat.le_of_lt I.lt)
theorem Inv.nofs (I : Inv X pins σ H s) {a : Addr} (h : s.heap.objs.size ≤ a) : a ∉ X.fs := fun hb => by
 obtain ⟨_, o, ho, _⟩ := I.ok.funs.mem hb
 exact absurd (Nat.lt_of_lt_of_le (Heap.lt_size ho) (Nat.le_trans I.sz h)) (Nat.lt_irrefl _)
theorem Inv.cne (I : Inv X pins σ H s) : ∀ x c, X.env.cells.lookup x = some c → c ≠ X.env.locals := fun x c e z => by
 obtain ⟨v, o, ho, hd⟩ := I.cell x c e
 obtain ⟨m, ⟨o', es, ep, ho', hd', _⟩, _⟩ := I.loc
 rw [z, ho'] at ho; cases ho; rw [hd'] at hd; cases hd
theorem Inv.funs (I : Inv X pins σ H s) : s.heap.FunFrames X.base X.outer := by
 have all : ∀ (l : List Env), (∀ b ∈ frs l, b ∈ X.fs) → X.s₀.heap.FunFrames X.base l → s.heap.FunFrames X.base l := by
   intro l
   induction l with
   | nil => intro _ _; trivial
   | cons env r ih =>
     intro hs hl
     obtain ⟨hk, ⟨L, o, hf, hn, ho, hd⟩, hr⟩ := hl
     have hL : L ∈ X.fs := hs L (by unfold frs; rw [List.filterMap_cons, hf]; exact List.mem_cons_self)
     obtain ⟨sl, e⟩ := I.base.slot L o ho (I.ok.frf L hL) hL fun z => I.ok.exfs L z hL
     exact ⟨hk, ⟨L, _, hf, hn, e, hd⟩, ih (fun b hb => hs b (by unfold frs; rw [List.filterMap_cons, hf]; exact List.mem_cons_of_mem _ hb)) hr⟩
 exact all X.outer (fun _ hb => hb) I.ok.funs
theorem Inv.stack (I : Inv X pins σ H s) : s.heap.FunFrames X.base X.stack := by
 rcases I.ok.stk with e | ⟨e, hf⟩
 · rw [e]; exact I.funs
 · rw [e]
   obtain ⟨m, hn, _⟩ := I.loc
   refine .cons (by rw [I.ok.kind]; decide) hf hn ?_ I.funs
   exact Heap.get?_none_of_le (Nat.le_trans I.ok.bsz I.ok.above)
theorem Inv.stkSub (I : Inv X pins σ H s) : ∀ b ∈ frs X.stack, b ∈ X.env.locals :: X.fs := fun b hb => by
 rcases I.ok.stk with e | ⟨e, hf⟩
 · rw [e] at hb; exact List.mem_cons_of_mem _ hb
 · rw [e] at hb
   unfold frs at hb
   rw [List.filterMap_cons, hf] at hb
   exact hb
theorem Inv.stkFree (I : Inv X pins σ H s) : ∀ b ∈ frs X.stack, H b = none := fun b hb => by
 rcases List.mem_cons.mp (I.stkSub b hb) with e | hb
 · rw [e]; exact I.free
 · obtain ⟨_, o, ho, _⟩ := I.ok.funs.mem hb
   exact I.base.free b o ho (I.ok.frf b hb) fun z => I.ok.exfs b z hb
theorem Inv.step {g' : Array GenState} {t' : Nat} {d' : Drawn} {ch : List Addr} (I : Inv X pins σ H s)
   (hch : ∀ b ∈ ch, (b ∈ X.ex ∨ X.s₀.heap.objs.size ≤ b) ∧ b ≠ X.env.locals ∧ (∀ x c, X.env.cells.lookup x = some c → c ≠ b) ∧ ∀ p ∈ X.pn ++ pins, p.1 ≠ b)
   (keep : ∀ b o, b ≠ X.env.locals → b ∉ X.fs → b ∉ ch → s.heap.get? b = some o → H b = none → h'.get? b = some o)
   (slot : ∀ b o, b ≠ X.env.locals → b ∈ X.fs → b ∉ ch → s.heap.get? b = some o → H b = none → ∃ sl, h'.get? b = some { o with slots := sl }) (free : ∀ b o, b ∉ ch → s.heap.get? b = some o → H b = none → H' b = none)
   (there : ∀ b o, b ∉ ch → s.heap.get? b = some o → ∃ o', h'.get? b = some o')
   (tups : ∀ b xs, H b = some (.tup xs) → H' b = some (.tup xs)) (frzs : ∀ b o u, H b = some (.frz o u) → H' b = some (.frz o u)) (tbls : ∀ b ps, H b = some (.tbl ps) → ∃ more, H' b = some (.tbl (ps ++ more)))
   (ns : ∀ m, s.heap.Ns X.env.locals m → h'.Ns X.env.locals m) (hok : HOk X.prog X.w H' h') (hg : AllBare g') :
   Inv X pins σ H' { s with heap := h', gens := g', drawn := d', toks := t' } := by
 have neL : ∀ b o, X.s₀.heap.get? b = some o → b ≠ X.env.locals := fun b o e => Nat.ne_of_lt (Nat.lt_of_lt_of_le (Heap.lt_size e) I.ok.above)
 have neC : ∀ b o, X.s₀.heap.get? b = some o → b ∉ X.ex → b ∉ ch := fun b o e hx hb => by
   rcases (hch b hb).1 with z | z
   · exact hx z
   · exact absurd (Nat.lt_of_lt_of_le (Heap.lt_size e) z) (Nat.lt_irrefl _)
 have cellK : ∀ x c, X.env.cells.lookup x = some c → ∀ v, s.heap.IsCell c v → h'.IsCell c v := fun x c e v ⟨o, ho, hd⟩ => by
   have nch : c ∉ ch := fun z => (hch c z).2.2.1 x c e rfl
   by_cases hc : c ∈ X.fs
   · obtain ⟨sl, q⟩ := slot c o (I.cne x c e) hc nch ho (I.freeC x c e)
     exact ⟨_, q, hd⟩
   · exact ⟨o, keep c o (I.cne x c e) hc nch ho (I.freeC x c e), hd⟩
 refine ⟨I.ok, I.os, hg, ⟨fun b o e n hb hx => ?_, fun b o e n hb hx => ?_, fun b o e n hx => ?_, fun b o e hx => ?_, fun b xs e => tups b xs (I.base.tups b xs e), fun b o xs e => frzs b o xs (I.base.frzs b o xs e), fun b ps e => ?_⟩, ?_, fun x c e => ?_, ?_, fun x c e => ?_, fun p hp => ?_, hok, I.len⟩
 · exact keep b o (neL b o e) hb (neC b o e hx) (I.base.keep b o e n hb hx) (I.base.free b o e n hx)
 · obtain ⟨sl, e1⟩ := I.base.slot b o e n hb hx
   obtain ⟨sl', e2⟩ := slot b _ (neL b o e) hb (neC b o e hx) e1 (I.base.free b o e n hx)
   exact ⟨sl', e2⟩
 · obtain ⟨o', e1⟩ := I.base.there b o e hx
   exact free b o' (neC b o e hx) e1 (I.base.free b o e n hx)
 · obtain ⟨o', e1⟩ := I.base.there b o e hx
   exact there b o' (neC b o e hx) e1
 · obtain ⟨m1, e1⟩ := I.base.tbls b ps e
   obtain ⟨m2, e2⟩ := tbls b _ e1
   exact ⟨m1 ++ m2, by rw [e2, Array.append_assoc]⟩
 · obtain ⟨m, hn, hl⟩ := I.loc
   refine ⟨m, ns m hn, fun i x v e1 e2 e3 => ?_⟩
   obtain ⟨u, r, l⟩ := hl i x v e1 e2 e3
   refine ⟨u, r, ?_⟩
   rcases l with l | ⟨k, c, e, z⟩
   · exact .inl l
   · exact .inr ⟨k, c, e, cellK x c e _ z⟩
 · obtain ⟨v, z⟩ := I.cell x c e
   exact ⟨v, cellK x c e v z⟩
 · obtain ⟨m, ⟨o, _, _, ho, _⟩, _⟩ := I.loc
   exact free _ o (fun z => (hch _ z).2.1 rfl) ho I.free
 · obtain ⟨v, o, ho, hd⟩ := I.cell x c e
   exact free c o (fun z => (hch c z).2.2.1 x c e rfl) ho (I.freeC x c e)
 · obtain ⟨e, n, ne, nf, d⟩ := I.pin p hp
   have nch : p.1 ∉ ch := fun z => (hch p.1 z).2.2.2 p hp rfl
   exact ⟨keep p.1 p.2 ne nf nch e n, free p.1 p.2 nch e n, ne, nf, d⟩
theorem Inv.un {t' : Nat} (I : Inv X pins σ H s) (u : Un X.fs [] H H' s.heap h') (hok : HOk X.prog X.w H' h') : Inv X pins σ H' { s with heap := h', toks := t' } := by
 obtain ⟨m, ⟨o, es, ep, ho, r⟩, _⟩ := id I.loc
 obtain ⟨sl, hL⟩ := u.any ho I.free (by simp)
 exact I.step (g' := s.gens) (d' := s.drawn) (ch := []) (fun _ z => nomatch z) (fun b o _ hb _ e n => u.keep b o e n hb (by simp)) (fun b o _ hb _ e n => u.slot b o e n hb (by simp)) (fun b o _ e n => u.free b o e n (by simp)) (fun b o _ e => u.there b o e (by simp)) u.tups u.frzs u.tbls (fun m' hm => by
   obtain ⟨o', es', ep', ho', r'⟩ := hm
   rw [ho] at ho'; cases ho'
   exact ⟨_, es', ep', hL, r'⟩) hok I.bare
theorem Inv.call {g' : Array GenState} {t' : Nat} {d' : Drawn} {ch : List Addr} (I : Inv X pins σ H s) (u : Un (frs X.stack) ch H H' s.heap h') (hok : HOk X.prog X.w H' h') (hg : AllBare g')
   (hch : ∀ b ∈ ch, (b ∈ X.ex ∨ X.s₀.heap.objs.size ≤ b) ∧ b ≠ X.env.locals ∧ (∀ x c, X.env.cells.lookup x = some c → c ≠ b) ∧ ∀ p ∈ X.pn ++ pins, p.1 ≠ b) :
   Inv X pins σ H' { s with heap := h', gens := g', drawn := d', toks := t' } := by
 obtain ⟨m, ⟨o, es, ep, ho, r⟩, _⟩ := id I.loc
 obtain ⟨sl, hL⟩ := u.any ho I.free fun z => (hch _ z).2.1 rfl
 exact I.step (ch := ch) hch (fun b o hL hb hc e n => u.keep b o e n (fun z => (List.mem_cons.mp (I.stkSub b z)).elim hL hb) hc) (fun b o _ _ hc e n => u.any e n hc) (fun b o hc e n => u.free b o e n hc) (fun b o hc e => u.there b o e hc) u.tups u.frzs u.tbls (fun m' hm => by
   obtain ⟨o', es', ep', ho', r'⟩ := hm
   rw [ho] at ho'; cases ho'
   exact ⟨_, es', ep', hL, r'⟩) hok hg
theorem Inv.turned {t' : Nat} {it : Addr} (I : Inv X pins σ H s) (k : ∀ b o, b ≠ it → s.heap.get? b = some o → h'.get? b = some o) (hn : H it = none) (hL : it ≠ X.env.locals)
   (h1 : it ∈ X.ex ∨ X.s₀.heap.objs.size ≤ it) (h2 : ∀ x c, X.env.cells.lookup x = some c → c ≠ it) (h3 : ∀ p ∈ X.pn ++ pins, p.1 ≠ it) : Inv X pins σ H { s with heap := h', toks := t' } := by
 have nit : ∀ b u, H b = some u → b ≠ it := fun b u e z => by rw [z, hn] at e; cases e
 refine I.step (g' := s.gens) (d' := s.drawn) (ch := [it]) (fun b hb => ?_) (fun b o _ _ hc e _ => k b o (fun z => hc (by simp [z])) e) (fun b o _ _ hc e _ => ⟨o.slots, k b o (fun z => hc (by simp [z])) e⟩) (fun _ _ _ _ n => n)
   (fun b o hc e => ⟨o, k b o (fun z => hc (by simp [z])) e⟩) (fun _ _ e => e) (fun _ _ _ e => e) (fun b ps e => ⟨#[], by rw [e]; simp⟩) (fun m hm => ?_) (fun b u e => ?_) I.bare
 · have e : b = it := by simpa using hb
   subst e
   exact ⟨h1, hL, h2, h3⟩
 · obtain ⟨o, es, ep, ho, r⟩ := hm
   exact ⟨o, es, ep, k _ o (Ne.symm hL) ho, r⟩
 · refine (I.hok b u e).stay (fun c v hc q => k c v ?_ q) (fun _ q => q) fun _ _ q => q
   rcases hc with z | z
   · rw [z]; exact nit b u e
   · exact nit c _ z
theorem Inv.tok (I : Inv X pins σ H s) (t : Nat) : Inv X pins σ H { s with toks := t } := I.un (h' := s.heap) (t' := t) Un.refl I.hok
theorem Inv.kept {t' : Nat} (I : Inv X pins σ H s) (k : ∀ b u, s.heap.get? b = some u → h'.get? b = some u) : Inv X pins σ H { s with heap := h', toks := t' } := I.un (Un.kept k) (I.hok.kept k)
theorem Inv.laid {a : Addr} {o : HO} {t' : Nat} (I : Inv X pins σ H s) (k : ∀ b u, s.heap.get? b = some u → h'.get? b = some u) (hp : s.heap.objs.size ≤ a) (new : ObjOk X.prog X.w (upd H a o) h' a o) :
   Inv X pins σ (upd H a o) { s with heap := h', toks := t' } := I.un (Un.laid k hp (I.hok.fresh hp)) (I.hok.laid k hp new)
theorem Inv.write {x e : Addr} {o : HO} {t' : Nat} (I : Inv X pins σ H s) (mu : Mut (H x)) (he : e = x ∨ H e = some (.own x)) (k : ∀ b u, b ≠ e → s.heap.get? b = some u → h'.get? b = some u) (heo : ∃ u, h'.get? e = some u)
   (new : ObjOk X.prog X.w (upd H x o) h' x o) : Inv X pins σ (upd H x o) { s with heap := h', toks := t' } := I.un (Un.write mu he k heo) (I.hok.write mu he k heo new)
theorem Inv.pins_of {pins' : List (Addr × Obj)} (I : Inv X pins σ H s) (h : ∀ p ∈ pins', s.heap.get? p.1 = some p.2 ∧ H p.1 = none ∧ p.1 ≠ X.env.locals ∧ p.1 ∉ X.fs ∧ ∀ v, p.2.data ≠ .cell v) : Inv X pins' σ H s :=
 ⟨I.ok, I.os, I.bare, I.base, I.loc, I.cell, I.free, I.freeC, fun p hp => (List.mem_append.mp hp).elim (fun z => I.pin p (List.mem_append_left _ z)) (h p), I.hok, I.len⟩
theorem nodup_ix {N : List Str} (hN : N.Nodup) {i j : Nat} {x : Str} (a : N[i]? = some x) (b : N[j]? = some x) : i = j := by
 obtain ⟨h1, e1⟩ := List.getElem?_eq_some_iff.mp a
 obtain ⟨h2, e2⟩ := List.getElem?_eq_some_iff.mp b
 exact (List.getElem_inj hN).mp (e1.trans e2.symm)
theorem store_ok2 {M : Model} {A : Around} {E : Value → Shared → Prop} {i : Nat} {x : Str} {v : V} {u : Value} {Q : Unit → Shared → Prop} (I : Inv X pins σ H s) (hN : X.N.Nodup) (hi : X.N[i]? = some x) (hx : Loc X.env.scope x) (r : RelV v u)
   (h : ∀ s', Inv X pins (σ.set i (some v)) H s' → (∃ a, Heap.SameBut a s.heap s'.heap ∧ (a = X.env.locals ∨ X.env.cells.lookup x = some a)) → Q () s') (hf : X.fn x = true ∨ X.env.scope.names.lookup x = some .local := by first | exact .inl rfl | exact .inr rfl | assumption) : wpAny M A (storeName X.env x u) Q E s := by
 obtain ⟨m, hn, hl⟩ := id I.loc
 have hcls : (X.env.scope.kind == .class || (X.env.scope.kind == .module && X.env.locals != X.env.globals)) = false := by rw [I.ok.kind]; rfl
 have hiσ : i < σ.length := by rw [I.len]; exact (List.getElem?_eq_some_iff.mp hi).1
 have cne := I.cne
 have tracked : ∀ {a : Addr} {h' : Heap}, (∃ o, s.heap.get? a = some o ∧ H a = none) → Heap.SameBut a s.heap h' → HOk X.prog X.w H h' := fun {a h'} ha hs b ob e => by
   obtain ⟨_, _, hfree⟩ := ha
   refine (I.hok b ob e).stay (fun c w' hc q => (hs.2 c ?_).trans q) (fun _ q => q) fun _ _ q => q
   rintro rfl
   rcases hc with rfl | hc
   · rw [hfree] at e; cases e
   · rw [hfree] at hc; cases hc
 rcases hx with hk | hk
 · refine wpAny_storeName_local hk hn (fun h' hn' hs => ?_) hcls
   obtain ⟨oL, _, _, hoL, _⟩ := id hn
   refine h _ ⟨I.ok, I.os, I.bare, ⟨fun b o e n hb hx => ?_, fun b o e n hb hx => ?_, I.base.free, fun b o e hx => ?_, I.base.tups, I.base.frzs, I.base.tbls⟩, ⟨_, hn', fun j y v' e1 e2 e3 => ?_⟩, fun y c e => ?_, I.free, I.freeC, fun p hp => ?_, tracked ⟨oL, hoL, I.free⟩ hs, by simpa using I.len⟩ ⟨_, hs, .inl rfl⟩
   · exact (hs.2 b (Nat.ne_of_lt (Nat.lt_of_lt_of_le (Heap.lt_size e) I.ok.above))).trans (I.base.keep b o e n hb hx)
   · obtain ⟨sl, e1⟩ := I.base.slot b o e n hb hx
     exact ⟨sl, (hs.2 b (Nat.ne_of_lt (Nat.lt_of_lt_of_le (Heap.lt_size e) I.ok.above))).trans e1⟩
   · obtain ⟨o', e1⟩ := I.base.there b o e hx
     exact ⟨o', (hs.2 b (Nat.ne_of_lt (Nat.lt_of_lt_of_le (Heap.lt_size e) I.ok.above))).trans e1⟩
   · by_cases hj : j = i
     · subst hj
       rw [hi] at e1; cases e1
       rw [List.getElem?_set_self hiσ] at e2
       cases e2
       exact ⟨u, r, .inl ⟨hk, by simp⟩⟩
     · rw [List.getElem?_set_ne (Ne.symm hj)] at e2
       obtain ⟨u', r', q⟩ := hl j y v' e1 e2 e3
       refine ⟨u', r', ?_⟩
       rcases q with ⟨k, e⟩ | ⟨k, c, e, z⟩
       · refine .inl ⟨k, ?_⟩
         have : y ≠ x := fun e => hj (nodup_ix hN e1 (e ▸ hi))
         simp [this, e]
       · exact .inr ⟨k, c, e, z.sameBut hs (cne y c e)⟩
   · obtain ⟨w', z⟩ := I.cell y c e
     exact ⟨w', z.sameBut hs (cne y c e)⟩
   · obtain ⟨e, n, ne, nf, d⟩ := I.pin p hp
     exact ⟨(hs.2 p.1 ne).trans e, n, ne, nf, d⟩
 · have hfn : X.fn x = true := by
     rcases hf with z | z
     · exact z
     · rw [z] at hk; cases hk
   obtain ⟨c, hc⟩ := I.ok.has x (.inl hk)
   obtain ⟨w', z⟩ := I.cell x c hc
   refine wpAny_storeName_cell I.ok.kind hk hc z (fun h' hc' hs => ?_)
   obtain ⟨oc, hoc, hocd⟩ := id z
   refine h { s with heap := h' } ⟨I.ok, I.os, I.bare, ⟨fun b o e n hb hx => ?_, fun b o e n hb hx => ?_, I.base.free, fun b o e hx => ?_, I.base.tups, I.base.frzs, I.base.tbls⟩, ⟨m, hn.sameBut hs (Ne.symm (cne x c hc)), fun j y v' e1 e2 e3 => ?_⟩, fun y c' e => ?_, I.free, I.freeC, fun p hp => ?_, tracked ⟨oc, hoc, I.freeC x c hc⟩ hs, by simpa using I.len⟩ ⟨c, hs, .inr hc⟩
   · exact (hs.2 b (Nat.ne_of_lt (Nat.lt_of_lt_of_le (Heap.lt_size e) (I.ok.cab x c hfn hc)))).trans (I.base.keep b o e n hb hx)
   · obtain ⟨sl, e1⟩ := I.base.slot b o e n hb hx
     exact ⟨sl, (hs.2 b (Nat.ne_of_lt (Nat.lt_of_lt_of_le (Heap.lt_size e) (I.ok.cab x c hfn hc)))).trans e1⟩
   · obtain ⟨o', e1⟩ := I.base.there b o e hx
     exact ⟨o', (hs.2 b (Nat.ne_of_lt (Nat.lt_of_lt_of_le (Heap.lt_size e) (I.ok.cab x c hfn hc)))).trans e1⟩
   · by_cases hj : j = i
     · subst hj
       rw [hi] at e1; cases e1
       rw [List.getElem?_set_self hiσ] at e2
       cases e2
       exact ⟨u, r, .inr ⟨.inl hk, c, hc, hc'⟩⟩
     · rw [List.getElem?_set_ne (Ne.symm hj)] at e2
       obtain ⟨u', r', q⟩ := hl j y v' e1 e2 e3
       refine ⟨u', r', ?_⟩
       rcases q with q | ⟨k, c', e, z'⟩
       · exact .inl q
       · refine .inr ⟨k, c', e, z'.sameBut hs ?_⟩
         rintro rfl
         exact hj (nodup_ix hN e1 (I.ok.inj _ _ _ e hc ▸ hi))
   · by_cases hcc : c' = c
     · subst hcc; exact ⟨_, hc'⟩
     · obtain ⟨w2, z2⟩ := I.cell y c' e
       exact ⟨w2, z2.sameBut hs hcc⟩
   · obtain ⟨e, n, ne, nf, d⟩ := I.pin p hp
     refine ⟨(hs.2 p.1 ?_).trans e, n, ne, nf, d⟩
     intro q
     rw [q, hoc] at e
     have q' : oc = p.2 := Option.some.inj e
     exact d w' (by rw [← q']; exact hocd)
theorem store_ok {M : Model} {A : Around} {E : Value → Shared → Prop} {i : Nat} {x : Str} {v : V} {u : Value} {Q : Unit → Shared → Prop} (I : Inv X pins σ H s) (hN : X.N.Nodup) (hi : X.N[i]? = some x) (hx : Loc X.env.scope x) (r : RelV v u)
   (h : ∀ s', Inv X pins (σ.set i (some v)) H s' → Q () s') (hf : X.fn x = true ∨ X.env.scope.names.lookup x = some .local := by first | exact .inl rfl | exact .inr rfl | assumption) : wpAny M A (storeName X.env x u) Q E s :=
 store_ok2 I hN hi hx r (fun s' I' _ => h s' I') hf
theorem Inv.call' {s' : Shared} {ch : List Addr} (I : Inv X pins σ H s) (ho : s'.os = s.os) (u : Un (frs X.stack) ch H H' s.heap s'.heap) (hok : HOk X.prog X.w H' s'.heap) (hg : AllBare s'.gens)
   (hch : ∀ b ∈ ch, (b ∈ X.ex ∨ X.s₀.heap.objs.size ≤ b) ∧ b ≠ X.env.locals ∧ (∀ x c, X.env.cells.lookup x = some c → c ≠ b) ∧ ∀ p ∈ X.pn ++ pins, p.1 ≠ b) : Inv X pins σ H' s' := by
 obtain ⟨h', g', d', t', o'⟩ := s'
 have e : o' = s.os := ho
 subst e
 exact I.call (g' := g') (t' := t') (d' := d') u hok hg hch
end
noncomputable abbrev XK := Value → Option Addr → Hp → Prop
noncomputable abbrev St := List (Option V)
noncomputable abbrev VK := V → Hp → Prop
noncomputable abbrev TE := St → Hp → VK → Prop
noncomputable abbrev TT := St → Hp → (Bool → Hp → Prop) → Prop
noncomputable abbrev TA := St → Hp → (List V → Hp → Prop) → Prop
structure Ends where
 nx : St → Hp → Prop
 rt : VK
 bk : St → Hp → Prop := fun _ _ => False
 ct : St → Hp → Prop := fun _ _ => False
noncomputable abbrev TS := Ends → St → Hp → Prop
noncomputable def EP (X : Cx) (pins : List (Addr × Obj)) (σ : St) (Q : VK) (u : Value) (s' : Shared) : Prop := ∃ v H', Inv X pins σ H' s' ∧ RelV v u ∧ Q v H'
noncomputable def TP (X : Cx) (pins : List (Addr × Obj)) (σ : St) (Q : Bool → Hp → Prop) (b : Bool) (s' : Shared) : Prop := ∃ H', Inv X pins σ H' s' ∧ Q b H'
noncomputable def AP (X : Cx) (pins : List (Addr × Obj)) (σ : St) (Q : List V → Hp → Prop) (us : List Value) (s' : Shared) : Prop := ∃ vs H', Inv X pins σ H' s' ∧ Vals vs us ∧ Q vs H'
noncomputable def SP (X : Cx) (pins : List (Addr × Obj)) (D : Ends) (f : Flow) (s' : Shared) : Prop :=
 match f with
 | .next => ∃ σ' H', Inv X pins σ' H' s' ∧ D.nx σ' H'
 | .brk => ∃ σ' H', Inv X pins σ' H' s' ∧ D.bk σ' H'
 | .cont => ∃ σ' H', Inv X pins σ' H' s' ∧ D.ct σ' H'
 | .ret u => ∃ v σ' H', Inv X pins σ' H' s' ∧ RelV v u ∧ D.rt v H'
noncomputable def PE (X : Cx) (e : Expr) (t : TE) : Prop :=
 ∀ (pins : List (Addr × Obj)) (s : Shared) (σ : St) (H : Hp) (Q : VK), Inv X pins σ H s → t σ H Q → wpAny (model X.prog X.w) X.A (eval e X.env) (EP X pins σ Q) X.xe s
noncomputable def PT (X : Cx) (e : Expr) (t : TT) : Prop :=
 ∀ (pins : List (Addr × Obj)) (s : Shared) (σ : St) (H : Hp) (Q : Bool → Hp → Prop), Inv X pins σ H s → t σ H Q → wpAny (model X.prog X.w) X.A (isTrue e X.env (eval e X.env)) (TP X pins σ Q) X.xe s
noncomputable def PW (X : Cx) (e : Expr) (t : TT) : Prop :=
 ∀ (whole : Sem Value) (pins : List (Addr × Obj)) (s : Shared) (σ : St) (H : Hp) (Q : Bool → Hp → Prop), Inv X pins σ H s → t σ H Q → wpAny (model X.prog X.w) X.A (isTrue e X.env whole) (TP X pins σ Q) X.xe s
theorem PW.pt {X : Cx} {e : Expr} {t : TT} (h : PW X e t) : PT X e t := h _
noncomputable def PA (X : Cx) (es : List Expr) (t : TA) : Prop :=
 ∀ (pos : Pos) (pins : List (Addr × Obj)) (s : Shared) (σ : St) (H : Hp) (Q : List V → Hp → Prop), Inv X pins σ H s → t σ H Q → wpAny (model X.prog X.w) X.A (spliced (backTo pos (starEach es X.env))) (AP X pins σ Q) X.xe s
noncomputable def PS (X : Cx) (st : Stmt) (t : TS) : Prop :=
 ∀ (pins : List (Addr × Obj)) (s : Shared) (σ : St) (H : Hp) (D : Ends), Inv X pins σ H s → t D σ H → wpAny (model X.prog X.w) X.A (exec st X.env) (SP X pins D) X.xe s
noncomputable def PSs (X : Cx) (st : List Stmt) (t : TS) : Prop :=
 ∀ (pins : List (Addr × Obj)) (s : Shared) (σ : St) (H : Hp) (D : Ends), Inv X pins σ H s → t D σ H → wpAny (model X.prog X.w) X.A (execs st X.env) (SP X pins D) X.xe s
theorem thn {α : Type} {t : Sem α} {Q Q' : α → Shared → Prop} {M : Model} {A : Around} {E : Value → Shared → Prop} {s : Shared} (h : wpAny M A t Q E s) (hQ : ∀ a s, Q a s → Q' a s) : wpAny M A t Q' E s := wpAny_mono h hQ fun _ _ x => x
end L2
namespace L2
open PySem PySem.Spec PyProof.Rows
section
variable {X : Cx}
noncomputable def tVar (i : Nat) : TE := fun σ H Q => ∃ v, σ[i]? = some (some v) ∧ Q v H
noncomputable def tC (v : V) : TE := fun _ H Q => Q v H
theorem pe_var {i : Nat} {x : Str} {pos : Pos} (hN : X.N[i]? = some x) (hv : Vis X.env.scope x) (hd : (x == ("__debug__" : Str)) = false := by decide) (hcd : (x == ("__classdict__" : Str)) = false := by decide) : PE X (.Name x pos) (tVar i) := by
 intro pins s σ H Q I h
 obtain ⟨v, e, h⟩ := h
 obtain ⟨m, hn, hl⟩ := I.loc
 obtain ⟨u, r, l⟩ := hl i x v hN e hv
 have fin : EP X pins σ Q u s := ⟨v, H, I, r, h⟩
 rcases l with ⟨hk, hm⟩ | ⟨hk, c, hc, hcell⟩
 · exact wpAny_Name (wpAny_loadName_local I.ok.kind hk hn hm fin) hd
 · rcases hk with hk | hk
   · exact wpAny_Name (wpAny_loadName_cell I.ok.kind hk hc hcell fin) hd
   · exact wpAny_Name (wpAny_loadName_free I.ok.kind hk hc hcell fin hcd) hd
theorem pe_int {i j pos} : PE X (.Constant (.int i) j pos) (tC (.int i)) := fun _ _ _ H _ I h => wpAny_Constant_int ⟨.int i, H, I.tok _, ⟨_, rfl⟩, h⟩
theorem pe_bl {b j pos} : PE X (.Constant (.bool b) j pos) (tC (.bl b)) := fun _ _ _ H _ I h => Constant_bool ⟨.bl b, H, I, rfl, h⟩
theorem pe_non {j pos} : PE X (.Constant .none j pos) (tC .non) := fun _ _ _ H _ I h => Constant_none ⟨.non, H, I, rfl, h⟩
theorem pe_str {x j pos} : PE X (.Constant (.str x) j pos) (tC (.str x)) := fun _ _ _ H _ I h => Calls.Constant_str ⟨.str x, H, I.tok _, ⟨_, rfl⟩, h⟩
noncomputable def Gl (X : Cx) (x : Str) : Prop := X.env.kindOf x = some .globalImplicit
theorem ld_glob {E : Value → Shared → Prop} {pins : List (Addr × Obj)} {s : Shared} {σ : St} {H : Hp} {x : Str} {u : Value} {pos : Pos} {Q : Value → Shared → Prop} (I : Inv X pins σ H s) (hg : Gl X x) (hm : X.mg x = some u) (h : Q u s)
   (hd : (x == ("__debug__" : Str)) = false := by decide) : wpAny (model X.prog X.w) X.A (eval (.Name x pos) X.env) Q E s :=
 Calls.Name_function_global I.ok.kind hg (Calls.loadGlobal_global (by rw [I.ok.glob]; exact I.mod.glob.keeps I.bk) hm h) hd
theorem ld_blt {E : Value → Shared → Prop} {pins : List (Addr × Obj)} {s : Shared} {σ : St} {H : Hp} {x : Str} {u : Value} {pos : Pos} {Q : Value → Shared → Prop} (I : Inv X pins σ H s) (hg : Gl X x) (hm : X.mg x = none) (hv : bootBuiltins x = some u) (h : Q u s)
   (hn : x ≠ "__name__" := by decide) (hd : (x == ("__debug__" : Str)) = false := by decide) : wpAny (model X.prog X.w) X.A (eval (.Name x pos) X.env) Q E s := by
 obtain ⟨mb, h1, h2⟩ := I.mod.blt
 exact Calls.Name_function_global I.ok.kind hg (Calls.loadGlobal_builtin (by rw [I.ok.glob]; exact I.mod.glob.keeps I.bk) hm (by rw [I.ok.blt]; exact h1.keeps I.bk) ((h2 x hn).trans hv) h) hd
theorem pe_glob {x : Str} {v : V} {u : Value} {pos : Pos} (hg : Gl X x) (hm : X.mg x = some u) (r : RelV v u) (hd : (x == ("__debug__" : Str)) = false := by decide) : PE X (.Name x pos) (tC v) :=
 fun _ _ _ H _ I h => ld_glob I hg hm ⟨v, H, I, r, h⟩ hd
theorem pe_bltn {x : Str} {v : V} {u : Value} {pos : Pos} (hg : Gl X x) (hm : X.mg x = none) (hv : bootBuiltins x = some u) (r : RelV v u) (hn : x ≠ "__name__" := by decide) (hd : (x == ("__debug__" : Str)) = false := by decide) : PE X (.Name x pos) (tC v) :=
 fun _ _ _ H _ I h => ld_blt I hg hm hv ⟨v, H, I, r, h⟩ hn hd
variable {a b : Expr} {ta tb : TE} {pos : Pos}
noncomputable def PC (X : Cx) (op : CmpOp) (a b : Expr) (t : TE) : Prop :=
 ∀ (pins : List (Addr × Obj)) (s : Shared) (σ : St) (H : Hp) (Q : VK), Inv X pins σ H s → t σ H Q →
   wpAny (model X.prog X.w) X.A (eval a X.env) (fun v s₁ => wpAny (model X.prog X.w) X.A (eval b X.env) (fun u s₂ => wpAny (model X.prog X.w) X.A (compareOp op v u) (EP X pins σ Q) X.xe s₂) X.xe s₁) X.xe s
noncomputable def tB (t : TE) : TT := fun σ H Q => t σ H fun x H1 => ∃ c, x = .bl c ∧ Q c H1
theorem pt_cmp {op : CmpOp} {t : TE} (h : PC X op a b t) (h1 : behindInMarks op b = false := by first | exact nobehind _ (by decide) (by decide) | rfl) : PT X (.Compare a [op] [b] pos) (tB t) := by
 intro pins s σ H Q I hw
 refine wpAny_isTrue_Compare1 (thn (h pins s σ H _ I hw) fun v s1 h1 => thn h1 fun u s2 h2 => thn h2 fun c s3 ⟨x, H1, I1, r1, q1⟩ => ?_) h1
 obtain ⟨d, rfl, q⟩ := q1
 cases r1
 exact wpAny_truthy_bool ⟨H1, I1, q⟩
theorem pt_val {e : Expr} {t : TE} (h : PE X e t) (he : ∀ whole, isTrue e X.env whole = (do let v ← whole; standAt e.pos; holding [v] (truthy v)) := by intro _; rfl) : PT X e (tB t) := by
 intro pins s σ H Q I hw
 refine isTrue_plain (thn (h pins s σ H _ I hw) fun v s1 ⟨x, H1, I1, r1, q1⟩ => ?_) (he _)
 obtain ⟨d, rfl, q⟩ := q1
 cases r1
 exact wpAny_truthy_bool ⟨H1, I1, q⟩
variable {tA tB' : TT} {rest : List Expr}
noncomputable def tAnd (t u : TT) : TT := fun σ H Q => t σ H fun c H1 => if c = true then u σ H1 Q else Q false H1
noncomputable def tOr (t u : TT) : TT := fun σ H Q => t σ H fun c H1 => if c = true then Q true H1 else u σ H1 Q
noncomputable def tNot (t : TT) : TT := fun σ H Q => t σ H fun c H1 => Q (!c) H1
theorem pw_and1 (ha : PT X a tA) : PW X (.BoolOp .And [a] pos) tA := by
 intro wh pins s σ H Q I h
 refine isTrue_and (thn (ha pins s σ H Q I h) fun c s1 e => ?_)
 cases c with
 | true => exact isTrue_and_nil e
 | false => exact e
theorem pw_or1 (ha : PT X a tA) : PW X (.BoolOp .Or [a] pos) tA := by
 intro wh pins s σ H Q I h
 refine isTrue_or (thn (ha pins s σ H Q I h) fun c s1 e => ?_)
 cases c with
 | false => exact isTrue_or_nil e
 | true => exact e
theorem pw_and (ha : PT X a tA) (hb : PW X (.BoolOp .And (b :: rest) pos) tB') : PW X (.BoolOp .And (a :: b :: rest) pos) (tAnd tA tB') := by
 intro wh pins s σ H Q I h
 refine isTrue_and (thn (ha pins s σ H _ I h) fun c s1 ⟨H1, I1, q1⟩ => ?_)
 cases c with
 | true => exact hb wh pins s1 σ H1 Q I1 q1
 | false => exact ⟨H1, I1, q1⟩
theorem pw_or (ha : PT X a tA) (hb : PW X (.BoolOp .Or (b :: rest) pos) tB') : PW X (.BoolOp .Or (a :: b :: rest) pos) (tOr tA tB') := by
 intro wh pins s σ H Q I h
 refine isTrue_or (thn (ha pins s σ H _ I h) fun c s1 ⟨H1, I1, q1⟩ => ?_)
 cases c with
 | true => exact ⟨H1, I1, q1⟩
 | false => exact hb wh pins s1 σ H1 Q I1 q1
theorem pt_not (ha : PT X a tA) : PT X (.UnaryOp .Not a pos) (tNot tA) := by
 intro pins s σ H Q I h
 exact isTrue_not (ha pins s σ H (fun c H1 => Q (!c) H1) I h)
end
end L2
namespace L2
open PySem PySem.Spec PyProof.Rows
noncomputable def SqL (K : PySem.W.Frag) (H : Hp) (a : Addr) (xs : List V) : Prop :=
 Rd H a (.lst xs) ∨
   ∃ (o : Obj) (its : Array Value) (n : Nat), K.lookup a = some o ∧ o.cls = .type "list" ∧ o.dict = none ∧ o.data = .seq its n ∧ its.size ≤ sizeLine ∧ Vals xs its.toList
noncomputable def SqT (K : PySem.W.Frag) (H : Hp) (a : Addr) (xs : List V) : Prop :=
 Rd H a (.tup xs) ∨
   ∃ (o : Obj) (its : Array Value) (n : Nat), K.lookup a = some o ∧ o.cls = .type "tuple" ∧ o.data = .seq its n ∧ its.size ≤ sizeLine ∧ Vals xs its.toList
noncomputable def absV : Value → Option V
 | .none => some .non
 | .bool b => some (.bl b)
 | .int i _ => some (.int i)
 | .str x _ => some (.str x)
 | .bytes b _ => some (.byt b)
 | .float b _ => some (.flt b)
 | .ref a => some (.ref a)
 | .type n => some (.ty n)
 | _ => none
theorem RelV.abs {x : V} {u : Value} (r : RelV x u) : absV u = some x := by
 cases x with
 | non => cases r; rfl
 | bl _ => cases r; rfl
 | int _ => obtain ⟨t, rfl⟩ := r; rfl
 | str _ => obtain ⟨t, rfl⟩ := r; rfl
 | byt _ => obtain ⟨t, rfl⟩ := r; rfl
 | flt _ => obtain ⟨t, rfl⟩ := r; rfl
 | ref _ => cases r; rfl
 | ty _ => cases r; rfl
theorem RelV.inj {x y : V} {u : Value} (r : RelV x u) (q : RelV y u) : x = y := Option.some.inj (r.abs.symm.trans q.abs)
theorem Vals.inj : ∀ {xs ys : List V} {us : List Value}, Vals xs us → Vals ys us → xs = ys
 | _, _, _, .nil, .nil => rfl
 | _, _, _, .cons r t, .cons r' t' => by rw [r.inj r', Vals.inj t t']
section
variable {X : Cx} {pins : List (Addr × Obj)} {σ : St} {H : Hp} {s : Shared} {a : Addr} {xs ys : List V}
theorem SqL.of {K : PySem.W.Frag} (h : H a = some (.lst xs)) : SqL K H a xs := .inl (.inl h)
theorem SqT.of {K : PySem.W.Frag} (h : H a = some (.tup xs)) : SqT K H a xs := .inl (.inl h)
theorem Inv.list (I : Inv X pins σ H s) (h : SqL X.K H a xs) : ∃ its : List Value, Vals xs its ∧ PlainL s.heap a its.toArray ∧ xs.length ≤ sizeLine := by
 rcases h with h | ⟨o, its, n, hk, hc, hd, hs, hz, r⟩
 · obtain ⟨z, its, n, r, e⟩ := h.ok I.hok
   exact ⟨its, r, ⟨_, n, e, rfl, rfl, rfl⟩, z⟩
 · refine ⟨its.toList, r, ⟨o, n, I.kIn a o hk, hc, hd, by simpa using hs⟩, ?_⟩
   have e := r.length
   simp only [Array.length_toList] at e
   omega
theorem Inv.tuple (I : Inv X pins σ H s) (h : SqT X.K H a xs) : ∃ its : List Value, Vals xs its ∧ IsTup s.heap a its.toArray ∧ xs.length ≤ sizeLine := by
 rcases h with h | ⟨o, its, n, hk, hc, hs, hz, r⟩
 · obtain ⟨z, its, r, p⟩ := h.ok I.hok
   exact ⟨its, r, p, z⟩
 · refine ⟨its.toList, r, ⟨o, I.kIn a o hk, hc, n, by simpa using hs⟩, ?_⟩
   have e := r.length
   simp only [Array.length_toList] at e
   omega
theorem Inv.list_inj (I : Inv X pins σ H s) (h : SqL X.K H a xs) (h' : SqL X.K H a ys) : xs = ys := by
 obtain ⟨its, r, ⟨o, n, e, _, _, d⟩, _⟩ := I.list h
 obtain ⟨its', r', ⟨o', n', e', _, _, d'⟩, _⟩ := I.list h'
 rw [e] at e'; cases e'
 rw [d] at d'
 injection d' with d1 _
 have : its = its' := by simpa using congrArg Array.toList d1
 subst this
 exact r.inj r'
theorem Inv.tuple_inj (I : Inv X pins σ H s) (h : SqT X.K H a xs) (h' : SqT X.K H a ys) : xs = ys := by
 obtain ⟨its, r, ⟨o, e, _, n, d⟩, _⟩ := I.tuple h
 obtain ⟨its', r', ⟨o', e', _, n', d'⟩, _⟩ := I.tuple h'
 rw [e] at e'; cases e'
 rw [d] at d'
 injection d' with d1 _
 have : its = its' := by simpa using congrArg Array.toList d1
 subst this
 exact r.inj r'
end
noncomputable abbrev Cx.wish (X : Cx) (E : Value → Shared → Prop) : Cx := { X with xe := E }
noncomputable abbrev Cx.nox (X : Cx) : Cx := X.wish fun _ _ => False
theorem Cx.Ok.wish {X : Cx} (ok : X.Ok) (E : Value → Shared → Prop) : (X.wish E).Ok :=
 ⟨ok.mod, ok.kind, ok.glob, ok.blt, ok.above, ok.inj, ok.has, ok.cab, ok.hd, ok.frames, ok.stk, ok.exf, ok.bs, ok.bsz, ok.noex, ok.exfs, ok.funs, ok.frf⟩
theorem Cx.Ok.unwish {X : Cx} {E : Value → Shared → Prop} (ok : (X.wish E).Ok) : X.Ok :=
 ⟨ok.mod, ok.kind, ok.glob, ok.blt, ok.above, ok.inj, ok.has, ok.cab, ok.hd, ok.frames, ok.stk, ok.exf, ok.bs, ok.bsz, ok.noex, ok.exfs, ok.funs, ok.frf⟩
section
variable {X : Cx} {pins : List (Addr × Obj)} {σ : St} {H : Hp} {s : Shared} {E : Value → Shared → Prop}
theorem Inv.wish (I : Inv X pins σ H s) (E : Value → Shared → Prop) : Inv (X.wish E) pins σ H s := ⟨I.ok.wish E, I.os, I.bare, I.base, I.loc, I.cell, I.free, I.freeC, I.pin, I.hok, I.len⟩
theorem Inv.unwish (I : Inv (X.wish E) pins σ H s) : Inv X pins σ H s := ⟨I.ok.unwish, I.os, I.bare, I.base, I.loc, I.cell, I.free, I.freeC, I.pin, I.hok, I.len⟩
theorem SP.unwish {D : Ends} {f : Flow} {s' : Shared} (h : SP (X.wish E) pins D f s') : SP X pins D f s' := by
 cases f with
 | next => obtain ⟨σ', H', I, q⟩ := h; exact ⟨σ', H', I.unwish, q⟩
 | brk => obtain ⟨σ', H', I, q⟩ := h; exact ⟨σ', H', I.unwish, q⟩
 | cont => obtain ⟨σ', H', I, q⟩ := h; exact ⟨σ', H', I.unwish, q⟩
 | ret u => obtain ⟨v, σ', H', I, r, q⟩ := h; exact ⟨v, σ', H', I.unwish, r, q⟩
theorem PSs.nox {st : List Stmt} {t : TS} (h : PSs X.nox st t) : PSs X st t := fun pins s σ H D I hw =>
 wpAny_mono (h pins s σ H D (I.wish _) hw) (fun _ _ q => q.unwish) fun _ _ z => False.elim z
end
section
variable {X : Cx} {st : Stmt} {rest : List Stmt} {t u : TS} {e : Expr} {te : TE} {pos : Pos}
noncomputable def tNext : TS := fun D σ H => D.nx σ H
noncomputable def tSeq (t u : TS) : TS := fun D σ H => t { D with nx := u D } σ H
theorem pss_nil : PSs X [] tNext := fun _ _ σ H _ I h => wpAny_execs_nil ⟨σ, H, I, h⟩
theorem pss_cons (h1 : PS X st t) (h2 : PSs X rest u) : PSs X (st :: rest) (tSeq t u) := by
 intro pins s σ H D I h
 refine wpAny_execs_cons (thn (h1 pins s σ H { D with nx := u D } I h) fun f s1 q => ?_)
 cases f with
 | next =>
   obtain ⟨σ', H', I', q⟩ := q
   exact h2 pins s1 σ' H' D I' q
 | ret v => exact q
 | brk => exact q
 | cont => exact q
theorem pss_one (h1 : PS X st t) : PSs X [st] t := by
 intro pins s σ H D I h
 refine wpAny_execs_cons (thn (h1 pins s σ H D I h) fun f s1 q => ?_)
 cases f with
 | next => exact wpAny_execs_nil q
 | ret v => exact q
 | brk => exact q
 | cont => exact q
theorem Inv.quiet {pins : List (Addr × Obj)} {σ : St} {H : Hp} {s : Shared} (I : Inv X pins σ H s) : interactive X.env = false := by simp [interactive, I.ok.kind]
noncomputable def tDrop (te : TE) : TS := fun D σ H => te σ H fun _ H1 => D.nx σ H1
theorem ps_expr (he : PE X e te) (hs : swapsWith e none pos.line X.env = pure false := by rfl) : PS X (.Expr e pos) (tDrop te) := by
 intro pins s σ H D I h
 exact wpAny_Expr_any (thn (he pins s σ H _ I h) fun v s1 ⟨x, H1, I1, r1, q1⟩ => ⟨σ, H1, I1, q1⟩) I.quiet hs
noncomputable def tRet (te : TE) : TS := fun D σ H => te σ H D.rt
theorem ps_ret (he : PE X e te) : PS X (.Return (some e) pos) (tRet te) := by
 intro pins s σ H D I h
 exact wpAny_Return_some (thn (he pins s σ H _ I h) fun v s1 ⟨x, H1, I1, r1, q1⟩ => ⟨x, σ, H1, I1, r1, q1⟩)
noncomputable def tIfS (c : TT) (t u : TS) : TS := fun D σ H => c σ H fun b H1 => if b = true then t D σ H1 else u D σ H1
theorem ps_if {c : Expr} {a b : List Stmt} {tc : TT} (hc : PT X c tc) (ha : PSs X a t) (hb : PSs X b u) : PS X (.If c a b pos) (tIfS tc t u) := by
 intro pins s σ H D I h
 refine wpAny_If (thn (hc pins s σ H _ I h) fun d s1 ⟨H1, I1, q1⟩ => ?_)
 cases d with
 | true => exact ha pins s1 σ H1 D I1 q1
 | false => exact hb pins s1 σ H1 D I1 q1
noncomputable def tNever : TS := fun _ _ _ => False
theorem ps_never : PS X st tNever := fun _ _ _ _ _ _ h => h.elim
end
noncomputable abbrev TG := V → St → Hp → (St → Hp → Prop) → Prop
noncomputable abbrev TGs := List V → St → Hp → (St → Hp → Prop) → Prop
noncomputable def PG (X : Cx) (target : Expr) (t : TG) : Prop :=
 ∀ (pins : List (Addr × Obj)) (s : Shared) (σ : St) (H : Hp) (v : V) (u : Value) (Q : St → Hp → Prop), Inv X pins σ H s → RelV v u → t v σ H Q →
   wpAny (model X.prog X.w) X.A (assign target X.env u) (fun _ s' => ∃ σ' H', Inv X pins σ' H' s' ∧ Q σ' H') X.xe s
noncomputable def PGs (X : Cx) (ts : List Expr) (t : TGs) : Prop :=
 ∀ (pins : List (Addr × Obj)) (s : Shared) (σ : St) (H : Hp) (vs : List V) (us : List Value) (Q : St → Hp → Prop), Inv X pins σ H s → Vals vs us → t vs σ H Q →
   wpAny (model X.prog X.w) X.A (assignInOrder ((assignEach ts X.env).map (·.2)) us) (fun _ s' => ∃ σ' H', Inv X pins σ' H' s' ∧ Q σ' H') X.xe s
noncomputable abbrev TSet := V → V → V → Hp → (Hp → Prop) → Prop
noncomputable abbrev TIp := V → V → Hp → VK → Prop
noncomputable def PIp (X : Cx) (op : Operator) (t : TIp) : Prop :=
 ∀ (pins : List (Addr × Obj)) (s : Shared) (σ : St) (H : Hp) (x y : V) (v u : Value) (Q : VK), Inv X pins σ H s → RelV x v → RelV y u → t x y H Q →
   wpAny (model X.prog X.w) X.A (inplaceOp op v u) (EP X pins σ Q) X.xe s
section
variable {X : Cx} {pos : Pos}
noncomputable def gName (i : Nat) : TG := fun v σ H Q => Q (σ.set i (some v)) H
theorem pg_name {i : Nat} {x : Str} (hN : X.N.Nodup) (hi : X.N[i]? = some x) (hx : Loc X.env.scope x) (hf : X.fn x = true ∨ X.env.scope.names.lookup x = some .local := by first | exact .inl rfl | exact .inr rfl | assumption) : PG X (.Name x pos) (gName i) := by
 intro pins s σ H v u Q I r h
 exact wpAny_assign_Name (store_ok I hN hi hx r (fun s' I' => ⟨_, H, I', h⟩) hf)
noncomputable def gNil : TGs := fun vs σ H Q => vs = [] ∧ Q σ H
noncomputable def gCons (t : TG) (u : TGs) : TGs := fun vs σ H Q => ∃ v r, vs = v :: r ∧ t v σ H fun σ' H' => u r σ' H' Q
theorem pgs_nil : PGs X [] gNil := by
 intro pins s σ H vs us Q I r h
 obtain ⟨e, h⟩ := h
 subst e
 cases r
 exact assignInOrder_nil ⟨σ, H, I, h⟩
theorem pgs_cons {e : Expr} {es : List Expr} {t : TG} {u : TGs} (h1 : PG X e t) (h2 : PGs X es u)
   (hs : (assignEach (e :: es) X.env).map (·.2) = assign e X.env :: (assignEach es X.env).map (·.2) := by rfl) : PGs X (e :: es) (gCons t u) := by
 intro pins s σ H vs us Q I r h
 obtain ⟨v, vr, e1, h⟩ := h
 subst e1
 cases r with
 | cons r rr =>
   rw [hs]
   refine assignInOrder_cons (thn (h1 pins s σ H _ _ _ I r h) fun _ s1 ⟨σ1, H1, I1, q1⟩ => ?_)
   exact h2 pins s1 σ1 H1 _ _ Q I1 rr q1
noncomputable def gTup (K : PySem.W.Frag) (n : Nat) (t : TGs) : TG := fun v σ H Q => ∃ a xs, v = .ref a ∧ SqT K H a xs ∧ xs.length = n ∧ t xs σ H Q
theorem pg_tup {es : List Expr} {k : Nat} {t : TGs} {n : Nat} (hc : X.calm = true) (h : PGs X es t)
   (hn : (assignEach es X.env).length = n := by rfl) (hst : (assignEach es X.env).findIdx? (·.1) = none := by rfl) : PG X (.Tuple es k pos) (gTup X.K n t) := by
 intro pins s σ H v u Q I r hw
 obtain ⟨a, xs, e1, hq, hl, hw⟩ := hw
 subst e1
 cases r
 obtain ⟨its, rv, ht, hz⟩ := I.tuple hq
 refine assign_Tuple_tuple (I.ok.hd hc) ht (by simp [hn, ← hl, rv.length]) hst fun h' hx => ?_
 have I1 : Inv X pins σ H { s with heap := h' } := I.kept (t' := s.toks) fun b o e => hx b o (Nat.ne_of_lt (Heap.lt_size e)) e
 exact h pins _ σ H xs _ Q I1 (by simpa using rv) hw
noncomputable def tAsg (te : TE) (g : TG) : TS := fun D σ H => te σ H fun x H1 => g x σ H1 D.nx
theorem ps_set {i : Nat} {x : Str} {e : Expr} {te : TE} {pos' : Pos} (hN : X.N.Nodup) (hi : X.N[i]? = some x) (hx : Loc X.env.scope x) (he : PE X e te) (hs : swapsWith e (some (.Name x pos')) pos.line X.env = pure false := by rfl) (hf : X.fn x = true ∨ X.env.scope.names.lookup x = some .local := by first | exact .inl rfl | exact .inr rfl | assumption) :
   PS X (.Assign [.Name x pos'] e pos) (tAsg te (gName i)) := by
 intro pins s σ H D I h
 refine wpAny_Assign_Name (thn (he pins s σ H _ I h) fun v s1 ⟨y, H1, I1, r1, q1⟩ => ?_) hs
 exact store_ok I1 hN hi hx r1 (fun s2 I2 => ⟨_, H1, I2, q1⟩) hf
noncomputable def tAug (i : Nat) (te : TE) (ti : TIp) : TS := fun D σ H => ∃ x, σ[i]? = some (some x) ∧ te σ H fun y H1 => ti x y H1 fun z H2 => D.nx (σ.set i (some z)) H2
theorem ps_aug {i : Nat} {x : Str} {e : Expr} {te : TE} {op : Operator} {ti : TIp} {pos' : Pos} (hN : X.N.Nodup) (hi : X.N[i]? = some x) (hx : Loc X.env.scope x) (he : PE X e te) (ho : PIp X op ti) (hf : X.fn x = true ∨ X.env.scope.names.lookup x = some .local := by first | exact .inl rfl | exact .inr rfl | assumption) :
   PS X (.AugAssign (.Name x pos') op e pos) (tAug i te ti) := by
 intro pins s σ H D I h
 obtain ⟨v, e1, h⟩ := h
 obtain ⟨m, hn, hl⟩ := I.loc
 have vis : Vis X.env.scope x := by rcases hx with k | k; exact .inl k; exact .inr (.inl k)
 obtain ⟨u, r, l⟩ := hl i x v hi e1 vis
 refine wpAny_AugAssign_Name ?_
 have go : wpAny (model X.prog X.w) X.A (eval e X.env) (fun w s₂ => wpAny (model X.prog X.w) X.A (inplaceOp op u w) (fun r s₃ => wpAny (model X.prog X.w) X.A (storeName X.env x r) (fun _ => SP X pins D .next) X.xe s₃) X.xe s₂) X.xe s := by
   refine thn (he pins s σ H _ I h) fun w s1 ⟨y, H1, I1, r1, q1⟩ => ?_
   refine thn (ho pins s1 σ H1 v y u w _ I1 r r1 q1) fun z s2 ⟨zv, H2, I2, r2, q2⟩ => ?_
   exact store_ok I2 hN hi hx r2 (fun s3 I3 => ⟨_, H2, I3, q2⟩) hf
 rcases l with ⟨hk, hm⟩ | ⟨hk, c, hc, hcell⟩
 · exact wpAny_loadName_local I.ok.kind hk hn hm go
 · rcases hk with hk | hk
   · exact wpAny_loadName_cell I.ok.kind hk hc hcell go
   · rcases hx with k | k
     · have : X.env.scope.names.lookup x = some .free := hk
       rw [k] at this; cases this
     · have : X.env.scope.names.lookup x = some .free := hk
       rw [k] at this; cases this
noncomputable def ipI (f : Int → Int → Int) : TIp := fun x y H Q => ∃ i j, x = .int i ∧ y = .int j ∧ Q (.int (f i j)) H
theorem ip_sub : PIp X .Sub (ipI fun i j => i - j) := by
 intro pins s σ H x y v u Q I r1 r2 h
 obtain ⟨i, j, e1, e2, q⟩ := h
 subst e1; subst e2
 obtain ⟨t, rfl⟩ := r1
 obtain ⟨t', rfl⟩ := r2
 exact isub_int ⟨.int _, H, I.tok _, ⟨_, rfl⟩, q⟩
end
section
variable {X : Cx} {pos : Pos}
noncomputable def tWhile (c : TT) (tb : TS) : TS := fun D σ H => ∃ W : Nat → St → Hp → Prop, (∃ m, W m σ H) ∧ ∀ m σ H, W m σ H →
 c σ H fun b H1 => if b = true then ∃ N : St → Hp → Prop, (∀ σ' H', N σ' H' → ∃ m', m' < m ∧ W m' σ' H') ∧ tb { D with nx := N, ct := N, bk := D.nx } σ H1 else D.nx σ H1
theorem ps_while {c : Expr} {body : List Stmt} {tc : TT} {tb : TS} (hp : PassesOwn (model X.prog X.w) X.A X.env X.xe) (hc : PT X c tc) (hb : PSs X body tb) : PS X (.While c body [] pos) (tWhile tc tb) := by
 intro pins s σ H D I h
 obtain ⟨W, ⟨m0, w0⟩, turn⟩ := h
 refine wpAny_While (codeAny_whileLoop (fun n s' => ∃ σ' H', Inv X pins σ' H' s' ∧ W n σ' H') ?_ m0 ⟨σ, H, I, w0⟩)
 rintro n s1 ⟨σ1, H1, I1, w1⟩
 refine wpAny_passesOwn hp (thn (hc pins s1 σ1 H1 _ I1 (turn n σ1 H1 w1)) fun b s2 ⟨H2, I2, q2⟩ => ?_)
 cases b with
 | true =>
   obtain ⟨N, hN, q2⟩ := q2
   rw [if_pos rfl]
   refine wpAny_passesOwn hp (thn (hb pins s2 σ1 H2 _ I2 q2) fun f s3 q3 => ?_)
   cases f with
   | next =>
     obtain ⟨σ3, H3, I3, n3⟩ := q3
     obtain ⟨m', hm, w3⟩ := hN σ3 H3 n3
     exact ⟨m', hm, σ3, H3, I3, w3⟩
   | cont =>
     obtain ⟨σ3, H3, I3, n3⟩ := q3
     obtain ⟨m', hm, w3⟩ := hN σ3 H3 n3
     exact ⟨m', hm, σ3, H3, I3, w3⟩
   | brk => exact q3
   | ret v => exact q3
 | false =>
   rw [if_neg Bool.false_ne_true]
   exact wpAny_execs_nil ⟨σ1, H2, I2, q2⟩
end
structure It where
 go : Nat → Hp → Prop
 yld : Nat → Hp → V → Hp → Prop
 stop : Nat → Hp → Prop
noncomputable def FpOk (X : Cx) (pins : List (Addr × Obj)) (H : Hp) (b : Addr) : Prop :=
 H b = none ∧ b ≠ X.env.locals ∧ b ∉ X.fs ∧ (b ∈ X.ex ∨ X.s₀.heap.objs.size ≤ b) ∧ (∀ x c, X.env.cells.lookup x = some c → c ≠ b) ∧ ∀ p ∈ X.pn ++ pins, p.1 ≠ b
theorem Inv.fpOk {X : Cx} {pins : List (Addr × Obj)} {σ : St} {H H' : Hp} {s : Shared} {b : Addr} (I : Inv X pins σ H s) (hb : s.heap.objs.size ≤ b) (hn : H' b = none) : FpOk X pins H' b := by
 refine ⟨hn, Nat.ne_of_gt (Nat.lt_of_lt_of_le I.lt hb), I.nofs hb, .inr (Nat.le_trans I.sz hb), fun x c e z => ?_, fun p hp z => ?_⟩
 · obtain ⟨v, q⟩ := I.cell x c e
   exact absurd (Nat.lt_of_lt_of_le q.lt (by rw [z]; exact hb)) (Nat.lt_irrefl _)
 · exact absurd (Nat.lt_of_lt_of_le (Heap.lt_size (I.pin p hp).1) (by rw [z]; exact hb)) (Nat.lt_irrefl _)
structure Turn (P : Program) (w : World) (K : PySem.W.Frag) (tg : Expr) (J : It) (fp : List Addr) (it : Addr) (tn : Nat → Heap → Prop) : Prop where
 mem : it ∈ fp
 obj : ∀ i h, tn i h → ∀ b ∈ fp, ∃ o, h.get? b = some o ∧ ∀ v, o.data ≠ .cell v
 keep : ∀ i h h', tn i h → (∀ b ∈ fp, ∀ o, h.get? b = some o → h'.get? b = some o) → tn i h'
 item : ∀ (X : Cx), X.prog = P → X.w = w → X.K = K → X.calm = true → ∀ (i : Nat) (pins : List (Addr × Obj)) (s : Shared) (σ : St) (H : Hp) (E : Value → Shared → Prop), Inv X pins σ H s → (∀ b ∈ fp, FpOk X pins H b) → tn i s.heap → J.go i H →
   wpAny (model P w) X.A (pyNext (.ref it)) (fun r s1 => ∃ u, r = some u ∧
     wpAny (model P w) X.A (letOwnedTupleGo tg (.ref it) u) (fun _ s2 => ∃ x H', Inv X pins σ H' s2 ∧ RelV x u ∧ J.yld i H x H' ∧ tn (i + 1) s2.heap ∧ ∀ b ∈ fp, H' b = none) E s1) E s
 done : ∀ (X : Cx), X.prog = P → X.w = w → X.K = K → X.calm = true → ∀ (i : Nat) (pins : List (Addr × Obj)) (s : Shared) (σ : St) (H : Hp) (E : Value → Shared → Prop), Inv X pins σ H s → (∀ b ∈ fp, FpOk X pins H b) → tn i s.heap → J.stop i H →
   wpAny (model P w) X.A (pyNext (.ref it)) (fun r s1 => r = none ∧ Inv X pins σ H s1) E s
 self : ∀ (A : Around) (i : Nat) (s : Shared) (Q : Value → Shared → Prop) (E : Value → Shared → Prop), tn i s.heap → Q (.ref it) s → wpAny (model P w) A (pyIter (.ref it)) Q E s
noncomputable abbrev TI := St → Hp → (It → Hp → Prop) → Prop
noncomputable def PIE (X : Cx) (pins : List (Addr × Obj)) (σ : St) (tg : Expr) (R : It → Hp → Prop) (itv : Value) (s2 : Shared) : Prop :=
 ∃ (it : Addr) (fp : List Addr) (tn : Nat → Heap → Prop) (J : It) (H' : Hp), itv = .ref it ∧ Inv X pins σ H' s2 ∧ Turn X.prog X.w X.K tg J fp it tn ∧ tn 0 s2.heap ∧ (∀ b ∈ fp, FpOk X pins H' b) ∧ R J H'
noncomputable def PI (X : Cx) (tg iter : Expr) (wi : TI) : Prop :=
 ∀ (pins : List (Addr × Obj)) (s : Shared) (σ : St) (H : Hp) (R : It → Hp → Prop), Inv X pins σ H s → wi σ H R →
   wpAny (model X.prog X.w) X.A (eval iter X.env) (fun v s1 => wpAny (model X.prog X.w) X.A (pyIter v) (PIE X pins σ tg R) X.xe s1) X.xe s
theorem go_of {M : Model} {A : Around} {E : Value → Shared → Prop} {s : Shared} {tg : Expr} {it : Addr} {u : Value} {o : Obj} {n : String} {vs : Array Value} {Q : Unit → Shared → Prop} (ho : s.heap.get? it = some o) (hc : o.cls = .type n) (hd : o.data = .fields vs)
   (hn : ["enumerate", "zip", "dict_itemiterator", "dict_reverseitemiterator", "odict_iterator", "itertools.zip_longest", "itertools.pairwise"].contains n = false) (hQ : Q () s) : wpAny M A (letOwnedTupleGo tg (.ref it) u) Q E s := by
 unfold letOwnedTupleGo
 cases tg <;> first
   | exact wpAny_pure hQ
   | (cases u <;> first
       | exact wpAny_pure hQ
       | (refine wpAny_bind (wpAny_load ho ?_)
          rw [hc, hd]
          show wpAny M A (if (["enumerate", "zip", "dict_itemiterator", "dict_reverseitemiterator", "odict_iterator", "itertools.zip_longest", "itertools.pairwise"].contains n && vs[0]? == some (rawInt _)) = true then _ else _) Q E s
          rw [if_neg (by intro h; rw [hn, Bool.false_and] at h; cases h)]
          exact wpAny_pure hQ))
noncomputable def Itl (K : PySem.W.Frag) (a : Addr) : It :=
 ⟨fun i H => ∃ xs x, SqL K H a xs ∧ xs[i]? = some x, fun i H x H' => H' = H ∧ ∀ xs, SqL K H a xs → xs[i]? = some x, fun i H => ∃ xs, SqL K H a xs ∧ xs.length ≤ i⟩
noncomputable def Itt (K : PySem.W.Frag) (a : Addr) : It :=
 ⟨fun i H => ∃ xs x, SqT K H a xs ∧ xs[i]? = some x, fun i H x H' => H' = H ∧ ∀ xs, SqT K H a xs → xs[i]? = some x, fun i H => ∃ xs, SqT K H a xs ∧ xs.length ≤ i⟩
noncomputable def Itr (lo : Int) (n : Nat) : It := ⟨fun i _ => i < n, fun i H x H' => H' = H ∧ x = .int (lo + i), fun i _ => n ≤ i⟩
theorem turn_list {P : Program} {w : World} {K : PySem.W.Frag} {tg : Expr} (a it : Addr) : Turn P w K tg (Itl K a) [it] it (fun i h => h.IsListIter it a i) where
 mem := by simp
 obj := fun i h st b hb => by
   have e : b = it := by simpa using hb
   subst e
   obtain ⟨o, e, c, d⟩ := st
   exact ⟨o, e, fun v z => by rw [d] at z; cases z⟩
 keep := fun i h h' st k => st.at fun o e => k it (by simp) o e
 item := by
   intro X hP hw hK hc i pins s σ H E I hf st hg
   subst hP hw hK
   obtain ⟨xs, x, hq, hx⟩ := hg
   obtain ⟨its, rv, p, hz⟩ := I.list hq
   obtain ⟨u, hu, ru⟩ := rv.get hx
   obtain ⟨f0, f1, f2, f3, f4, f5⟩ := hf it (by simp)
   refine wpAny_pyNext_list_item st p.isList (x := u) (by simpa using hu) fun h' st' sb => ?_
   have I1 : Inv X pins σ H { s with heap := h' } := I.turned (t' := s.toks) (fun b o hb e => (sb.2 b hb).trans e) f0 f1 f3 f4 f5
   obtain ⟨o, e, c, d⟩ := id st'
   exact ⟨u, rfl, go_of (s := { s with heap := h' }) e c d (by decide) ⟨x, H, I1, ru, ⟨rfl, fun ys hy => by rw [I.list_inj hy hq]; exact hx⟩, st', fun b hb => (hf b hb).1⟩⟩
 done := by
   intro X hP hw hK hc i pins s σ H E I hf st hg
   subst hP hw hK
   obtain ⟨xs, hq, hx⟩ := hg
   obtain ⟨its, rv, p, hz⟩ := I.list hq
   obtain ⟨f0, f1, f2, f3, f4, f5⟩ := hf it (by simp)
   have hl := rv.length
   exact wpAny_pyNext_list_end (I.ok.hd hc) st p.isList (by simp; omega) fun h' eb => ⟨rfl, I.turned (t' := s.toks) (fun b o hb e => eb b o hb e) f0 f1 f3 f4 f5⟩
 self := fun _ _ _ _ _ st h => wpAny_pyIter_listiter st h
theorem turn_tuple {P : Program} {w : World} {K : PySem.W.Frag} {tg : Expr} (a it : Addr) : Turn P w K tg (Itt K a) [it] it (fun i h => h.IsTupleIter it a i) where
 mem := by simp
 obj := fun i h st b hb => by
   have e : b = it := by simpa using hb
   subst e
   obtain ⟨o, e, c, d⟩ := st
   exact ⟨o, e, fun v z => by rw [d] at z; cases z⟩
 keep := fun i h h' st k => st.at fun o e => k it (by simp) o e
 item := by
   intro X hP hw hK hc i pins s σ H E I hf st hg
   subst hP hw hK
   obtain ⟨xs, x, hq, hx⟩ := hg
   obtain ⟨its, rv, p, hz⟩ := I.tuple hq
   obtain ⟨u, hu, ru⟩ := rv.get hx
   obtain ⟨f0, f1, f2, f3, f4, f5⟩ := hf it (by simp)
   refine wpAny_pyNext_tuple_item st (show s.heap.IsTuple a its.toArray from p) (x := u) (by simpa using hu) fun h' st' sb => ?_
   have I1 : Inv X pins σ H { s with heap := h' } := I.turned (t' := s.toks) (fun b o hb e => (sb.2 b hb).trans e) f0 f1 f3 f4 f5
   obtain ⟨o, e, c, d⟩ := id st'
   exact ⟨u, rfl, go_of (s := { s with heap := h' }) e c d (by decide) ⟨x, H, I1, ru, ⟨rfl, fun ys hy => by rw [I.tuple_inj hy hq]; exact hx⟩, st', fun b hb => (hf b hb).1⟩⟩
 done := by
   intro X hP hw hK hc i pins s σ H E I hf st hg
   subst hP hw hK
   obtain ⟨xs, hq, hx⟩ := hg
   obtain ⟨its, rv, p, hz⟩ := I.tuple hq
   obtain ⟨f0, f1, f2, f3, f4, f5⟩ := hf it (by simp)
   have hl := rv.length
   exact wpAny_pyNext_tuple_end (I.ok.hd hc) st (show s.heap.IsTuple a its.toArray from p) (by simp; omega) fun h' eb => ⟨rfl, I.turned (t' := s.toks) (fun b o hb e => eb b o hb e) f0 f1 f3 f4 f5⟩
 self := fun _ _ _ _ _ st h => wpAny_pyIter_tupleiter st h
theorem turn_range {P : Program} {w : World} {K : PySem.W.Frag} {tg : Expr} (it : Addr) (lo : Int) (n : Nat) : Turn P w K tg (Itr lo n) [it] it (fun i h => IsRangeIter h it (lo + (i : Nat) * 1) ((n : Int) - (i : Nat)) 1) where
 mem := by simp
 obj := fun i h st b hb => by
   have e : b = it := by simpa using hb
   subst e
   exact ⟨_, st, fun v z => by
     have z' : Data.fields _ = Data.cell v := z
     cases z'⟩
 keep := fun i h h' st k => k it (by simp) _ st
 item := by
   intro X hP hw hK hc i pins s σ H E I hf st hg
   subst hP hw hK
   obtain ⟨f0, f1, f2, f3, f4, f5⟩ := hf it (by simp)
   have W := Walks.range (prog := X.prog) (w := X.w) (I.ok.hd hc) it lo 1 n
   refine W.item i s _ _ hg st fun v h' tk hv st' kk => ?_
   obtain ⟨t, rfl⟩ := hv
   have I1 : Inv X pins σ H { s with heap := h', toks := tk } := I.turned (fun b o hb e => kk b o (by simpa using hb) e) f0 f1 f3 f4 f5
   refine ⟨_, rfl, go_of (s := { s with heap := h', toks := tk }) (n := "range_iterator") st' rfl rfl (by decide) ⟨.int (lo + i), H, I1, ⟨t, ?_⟩, ⟨rfl, rfl⟩, st', fun b hb => (hf b hb).1⟩⟩
   rw [Int.mul_one]
 done := by
   intro X hP hw hK hc i pins s σ H E I hf st hg
   subst hP hw hK
   obtain ⟨f0, f1, f2, f3, f4, f5⟩ := hf it (by simp)
   exact wpAny_pyNext_range_end (I.ok.hd hc) st (by have : n ≤ i := hg; omega) fun h' eb => ⟨rfl, I.turned (t' := s.toks) (fun b o hb e => eb b o hb e) f0 f1 f3 f4 f5⟩
 self := fun _ _ _ _ _ st h => wpAny_pyIter_rangeiter st h
end L2
namespace L2
open PySem PySem.Spec PyProof.Rows
section
variable {X : Cx} {tg : Expr}
noncomputable def iList (K : PySem.W.Frag) (tl : TE) : TI := fun σ H R => tl σ H fun x H1 => ∃ a, x = .ref a ∧ (∃ xs, SqL K H1 a xs) ∧ R (Itl K a) H1
noncomputable def iTup (K : PySem.W.Frag) (tl : TE) : TI := fun σ H R => tl σ H fun x H1 => ∃ a, x = .ref a ∧ (∃ xs, SqT K H1 a xs) ∧ R (Itt K a) H1
theorem pi_list {l : Expr} {tl : TE} (hl : PE X l tl) : PI X tg l (iList X.K tl) := by
 intro pins s σ H R I h
 refine thn (hl pins s σ H _ I h) fun v s1 ⟨x, H1, I1, r1, q1⟩ => ?_
 obtain ⟨a, e, ⟨xs, hq⟩, q⟩ := q1
 subst e
 cases r1
 obtain ⟨its, rv, p, hz⟩ := I1.list hq
 refine wpAny_pyIter_list p.isList ?_
 refine ⟨s1.heap.objs.size, [s1.heap.objs.size], _, _, H1, rfl, I1.kept (t' := s1.toks) fun b o e => Heap.get?_push_of_some _ e, turn_list a _, ⟨_, Heap.get?_push_size _ rfl, rfl, rfl⟩, fun b hb => ?_, q⟩
 have e : b = s1.heap.objs.size := by simpa using hb
 subst e
 exact I1.fpOk (Nat.le_refl _) (I1.hok.fresh (Nat.le_refl _))
theorem pi_tup {l : Expr} {tl : TE} (hl : PE X l tl) : PI X tg l (iTup X.K tl) := by
 intro pins s σ H R I h
 refine thn (hl pins s σ H _ I h) fun v s1 ⟨x, H1, I1, r1, q1⟩ => ?_
 obtain ⟨a, e, ⟨xs, hq⟩, q⟩ := q1
 subst e
 cases r1
 obtain ⟨its, rv, p, hz⟩ := I1.tuple hq
 refine wpAny_pyIter_tuple (show s1.heap.IsTuple a its.toArray from p) ?_
 refine ⟨s1.heap.objs.size, [s1.heap.objs.size], _, _, H1, rfl, I1.kept (t' := s1.toks) fun b o e => Heap.get?_push_of_some _ e, turn_tuple a _, ⟨_, Heap.get?_push_size _ rfl, rfl, rfl⟩, fun b hb => ?_, q⟩
 have e : b = s1.heap.objs.size := by simpa using hb
 subst e
 exact I1.fpOk (Nat.le_refl _) (I1.hok.fresh (Nat.le_refl _))
theorem range_it {pins : List (Addr × Obj)} {σ : St} {H : Hp} {s : Shared} {R : It → Hp → Prop} {E : Value → Shared → Prop} {lo hi : Int} {t u v : Tok} {tk : Nat} (I : Inv X pins σ H s) (h1 : -(2 ^ 62) ≤ lo) (h2 : lo < 2 ^ 62) (h3 : -(2 ^ 62) ≤ hi) (h4 : hi < 2 ^ 62)
   (q : R (Itr lo (hi - lo).toNat) H) : wpAny (model X.prog X.w) X.A (pyIter (.ref s.heap.objs.size)) (PIE X pins σ tg R) E { s with heap := s.heap.push { cls := .type "range", data := .fields #[.int lo t, .int hi u, .int 1 v] }, toks := tk } := by
 refine wpAny_pyIter_range (IsRange.new ..) (small_one h1 h2 h3 h4) ?_
 have I1 : Inv X pins σ H { s with heap := s.heap.push { cls := .type "range", data := .fields #[.int lo t, .int hi u, .int 1 v] }, toks := tk } := I.kept fun b o e => Heap.get?_push_of_some _ e
 refine ⟨(s.heap.push { cls := .type "range", data := .fields #[.int lo t, .int hi u, .int 1 v] }).objs.size, [(s.heap.push { cls := .type "range", data := .fields #[.int lo t, .int hi u, .int 1 v] }).objs.size], _, _, H, rfl,
   I1.kept (t' := tk) fun b o e => Heap.get?_push_of_some _ e, turn_range _ lo (hi - lo).toNat, ?_, fun b hb => ?_, q⟩
 · have e1 : lo + ((0 : Nat) : Int) * 1 = lo := by simp
   have e2 : (((hi - lo).toNat : Nat) : Int) - ((0 : Nat) : Int) = Builtin.Range.rangeSize lo hi 1 := by rw [rangeSize_one]; split <;> omega
   show IsRangeIter _ _ (lo + ((0 : Nat) : Int) * 1) ((((hi - lo).toNat : Nat) : Int) - ((0 : Nat) : Int)) 1
   rw [e1, e2]
   exact Heap.get?_push_size _ rfl
 · have e : b = (s.heap.push { cls := .type "range", data := .fields #[.int lo t, .int hi u, .int 1 v] }).objs.size := by simpa using hb
   subst e
   exact I1.fpOk (Nat.le_refl _) (I1.hok.fresh (Nat.le_refl _))
noncomputable def iRng1 (ta : TA) : TI := fun σ H R => ta σ H fun vs H1 => ∃ j : Int, vs = [.int j] ∧ -(2 ^ 62) ≤ j ∧ j < 2 ^ 62 ∧ R (Itr 0 j.toNat) H1
noncomputable def iRng2 (ta : TA) : TI := fun σ H R => ta σ H fun vs H1 => ∃ i j : Int, vs = [.int i, .int j] ∧ (-(2 ^ 62) ≤ i ∧ i < 2 ^ 62 ∧ -(2 ^ 62) ≤ j ∧ j < 2 ^ 62) ∧ R (Itr i (j - i).toNat) H1
theorem pi_range1 {a : Expr} {ta : TA} {p pos : Pos} (hg : Gl X "range") (hm : X.mg "range" = none) (ha : PA X [a] ta) (hs : starEach [a] X.env = [(false, eval a X.env)] := by rfl) : PI X tg (.Call (.Name "range" p) [a] [] pos) (iRng1 ta) := by
 intro pins s σ H R I h
 refine Call_ (ld_blt I hg hm boot_range (PyProof.Rows.callWith_type1 (thn (ha pos pins s σ H _ I h) fun us s1 ⟨vs, H1, I1, r1, q1⟩ => ?_) hs rfl))
 obtain ⟨j, e, q1, q2, q⟩ := q1
 subst e
 cases r1 with
 | cons r rr =>
   cases rr
   obtain ⟨t, rfl⟩ := r
   exact call_range_1 (range_it I1 (by omega) (by omega) q1 q2 (by simpa using q))
theorem pi_range2 {a b : Expr} {ta : TA} {p pos : Pos} (hg : Gl X "range") (hm : X.mg "range" = none) (ha : PA X [a, b] ta) (hs : starEach [a, b] X.env = [(false, eval a X.env), (false, eval b X.env)] := by rfl) (hs2 : starEach [b] X.env = [(false, eval b X.env)] := by rfl) :
   PI X tg (.Call (.Name "range" p) [a, b] [] pos) (iRng2 ta) := by
 intro pins s σ H R I h
 refine Call_ (ld_blt I hg hm boot_range (PyProof.Rows.callWith_type1 (thn (ha pos pins s σ H _ I h) fun us s1 ⟨vs, H1, I1, r1, q1⟩ => ?_) (by rw [hs, hs2]) (by rw [hs2]; rfl)))
 obtain ⟨i, j, e, ⟨q1, q2, q3, q4⟩, q⟩ := q1
 subst e
 cases r1 with
 | cons r rr =>
   cases rr with
   | cons r' rr =>
     cases rr
     obtain ⟨t, rfl⟩ := r
     obtain ⟨t', rfl⟩ := r'
     exact call_range_2 (range_it I1 q1 q2 q3 q4 q)
noncomputable def tFor (wi : TI) (g : TG) (tb : TS) : TS := fun D σ H => wi σ H fun J H1 => ∃ W : Nat → Nat → St → Hp → Prop, (∃ m, W 0 m σ H1) ∧ ∀ i m σ H, W i m σ H →
 (J.stop i H ∧ D.nx σ H) ∨ (J.go i H ∧ ∃ N : St → Hp → Prop, (∀ σ' H', N σ' H' → ∃ m', m' < m ∧ W (i + 1) m' σ' H') ∧ ∀ x H', J.yld i H x H' → g x σ H' fun σ2 H2 => tb { D with nx := N, ct := N, bk := D.nx } σ2 H2)
noncomputable def pinsAt (fp : List Addr) (h : Heap) : List (Addr × Obj) := fp.filterMap fun b => (h.get? b).map fun o => (b, o)
theorem mem_pinsAt {fp : List Addr} {h : Heap} {b : Addr} {o : Obj} (hb : b ∈ fp) (e : h.get? b = some o) : (b, o) ∈ pinsAt fp h := List.mem_filterMap.mpr ⟨b, hb, by rw [e]; rfl⟩
theorem of_pinsAt {fp : List Addr} {h : Heap} {p : Addr × Obj} (hp : p ∈ pinsAt fp h) : p.1 ∈ fp ∧ h.get? p.1 = some p.2 := by
 obtain ⟨b, hb, e⟩ := List.mem_filterMap.mp hp
 cases q : h.get? b with
 | none => rw [q] at e; cases e
 | some o =>
   rw [q] at e
   have e' : (b, o) = p := Option.some.inj e
   subst e'
   exact ⟨hb, q⟩
theorem Inv.pinned {pins : List (Addr × Obj)} {σ : St} {H : Hp} {s : Shared} {fp : List Addr} (I : Inv X pins σ H s) (hf : ∀ b ∈ fp, FpOk X pins H b) (ho : ∀ b ∈ fp, ∃ o, s.heap.get? b = some o ∧ ∀ v, o.data ≠ .cell v) : Inv X (pins ++ pinsAt fp s.heap) σ H s :=
 I.pins_of fun p hp => (List.mem_append.mp hp).elim (fun z => I.pin p (List.mem_append_right _ z)) fun z => by
   obtain ⟨hb, e⟩ := of_pinsAt z
   obtain ⟨f0, f1, f2, _⟩ := hf p.1 hb
   obtain ⟨o, e', d⟩ := ho p.1 hb
   rw [e] at e'; cases e'
   exact ⟨e, f0, f1, f2, d⟩
theorem Inv.unpinned {pins pl : List (Addr × Obj)} {σ : St} {H : Hp} {s : Shared} (I : Inv X (pins ++ pl) σ H s) : Inv X pins σ H s := I.pins_of fun p hp => I.pin p (List.mem_append_right _ (List.mem_append_left _ hp))
theorem ps_for {iter : Expr} {body : List Stmt} {wi : TI} {g : TG} {tb : TS} {pos : Pos} (hp : PassesOwn (model X.prog X.w) X.A X.env X.xe) (hc : X.calm = true) (hi : PI X tg iter wi) (hg : PG X tg g) (hb : PSs X body tb)
   (hs : ∀ x, foldedSetIterable iter X.env x = pure x := by intro _; rfl) : PS X (.For tg iter body [] pos) (tFor wi g tb) := by
 intro pins s σ H D I h
 refine wpAny_For (thn (hi pins s σ H _ I h) fun v s1 h1 => thn h1 fun itv s2 h2 => ?_) hs
 obtain ⟨it, fp, tn, J, H2, e, I2, T, st2, f2, W, ⟨m0, w0⟩, turn⟩ := h2
 subst e
 have stat : ∀ {H' : Hp}, (∀ b ∈ fp, H' b = none) → ∀ b ∈ fp, FpOk X pins H' b := fun hn b hb => ⟨hn b hb, (f2 b hb).2⟩
 refine codeAny_forLoop_any (fun n s' => ∃ i σ' H', Inv X pins σ' H' s' ∧ tn i s'.heap ∧ (∀ b ∈ fp, H' b = none) ∧ W i n σ' H') ?_ m0 ⟨0, σ, H2, I2, st2, fun b hb => (f2 b hb).1, w0⟩
 rintro n s3 ⟨i, σ3, H3, I3, st3, fr3, w3⟩
 rcases turn i n σ3 H3 w3 with ⟨stop, qn⟩ | ⟨go, N, hN, step⟩
 · refine wpAny_passesOwn hp (thn (T.done X rfl rfl rfl hc i pins s3 σ3 H3 X.xe I3 (stat fr3) st3 stop) fun r s4 ⟨hr, I4⟩ => ?_)
   subst hr
   exact wpAny_execs_nil ⟨σ3, H3, I4, qn⟩
 · refine wpAny_passesOwn hp (thn (T.item X rfl rfl rfl hc i pins s3 σ3 H3 X.xe I3 (stat fr3) st3 go) fun r s4 ⟨u, hr, h4⟩ => ?_)
   subst hr
   refine wpAny_passesOwn hp (thn h4 fun _ s5 ⟨x, H5, I5, r5, y5, st5, fr5⟩ => ?_)
   have I5' := I5.pinned (stat fr5) (T.obj _ _ st5)
   refine wpAny_passesOwn hp (thn (hg _ s5 σ3 H5 x u _ I5' r5 (step x H5 y5)) fun _ s6 ⟨σ6, H6, I6, q6⟩ => ?_)
   refine wpAny_passesOwn hp (thn (hb _ s6 σ6 H6 _ I6 q6) fun f s7 q7 => ?_)
   have again : ∀ {σ7 : St} {H7 : Hp}, Inv X (pins ++ pinsAt fp s5.heap) σ7 H7 s7 → N σ7 H7 → ∃ m, m < n ∧ ∃ i σ' H', Inv X pins σ' H' s7 ∧ tn i s7.heap ∧ (∀ b ∈ fp, H' b = none) ∧ W i m σ' H' := fun {σ7 H7} I7 n7 => by
     obtain ⟨m', hm, w7⟩ := hN σ7 H7 n7
     refine ⟨m', hm, i + 1, σ7, H7, I7.unpinned, T.keep _ _ _ st5 fun b hb o e => (I7.pin (b, o) (List.mem_append_right _ (List.mem_append_right _ (mem_pinsAt hb e)))).1, fun b hb => ?_, w7⟩
     obtain ⟨o, e, d⟩ := T.obj _ _ st5 b hb
     exact (I7.pin (b, o) (List.mem_append_right _ (List.mem_append_right _ (mem_pinsAt hb e)))).2.1
   cases f with
   | next => obtain ⟨σ7, H7, I7, n7⟩ := q7; exact again I7 n7
   | cont => obtain ⟨σ7, H7, I7, n7⟩ := q7; exact again I7 n7
   | brk => obtain ⟨σ7, H7, I7, q7⟩ := q7; exact ⟨σ7, H7, I7.unpinned, q7⟩
   | ret v => obtain ⟨x7, σ7, H7, I7, r7, q7⟩ := q7; exact ⟨x7, σ7, H7, I7.unpinned, r7, q7⟩
end
theorem for_list {K : PySem.W.Frag} {a : Addr} {xs : List V} {g : TG} {tb : TS} {D : Ends} {σ : St} {H : Hp} (Pv : Nat → St → Hp → Prop) (h0 : Pv 0 σ H) (hl : ∀ i σ H, i ≤ xs.length → Pv i σ H → SqL K H a xs)
   (hs : ∀ i x σ H, xs[i]? = some x → Pv i σ H → g x σ H fun σ2 H2 => tb { D with nx := Pv (i + 1), ct := Pv (i + 1), bk := D.nx } σ2 H2) (hd : ∀ σ H, Pv xs.length σ H → D.nx σ H) :
   ∃ W : Nat → Nat → St → Hp → Prop, (∃ m, W 0 m σ H) ∧ ∀ i m σ H, W i m σ H →
     ((Itl K a).stop i H ∧ D.nx σ H) ∨ ((Itl K a).go i H ∧ ∃ N : St → Hp → Prop, (∀ σ' H', N σ' H' → ∃ m', m' < m ∧ W (i + 1) m' σ' H') ∧ ∀ x H', (Itl K a).yld i H x H' → g x σ H' fun σ2 H2 => tb { D with nx := N, ct := N, bk := D.nx } σ2 H2) := by
 refine ⟨fun i m σ H => m = xs.length - i ∧ i ≤ xs.length ∧ Pv i σ H, ⟨xs.length, by simp, Nat.zero_le _, h0⟩, ?_⟩
 rintro i m σ H ⟨rfl, hi, p⟩
 have q := hl i σ H hi p
 by_cases hlt : i < xs.length
 · refine .inr ⟨⟨xs, xs[i], q, by simp [hlt]⟩, Pv (i + 1), fun σ' H' p' => ⟨xs.length - (i + 1), by omega, rfl, hlt, p'⟩, fun x H' y => ?_⟩
   obtain ⟨e, y⟩ := y
   subst e
   exact hs i x σ _ (y xs q) p
 · have e : i = xs.length := by omega
   subst e
   exact .inl ⟨⟨xs, q, Nat.le_refl _⟩, hd σ H p⟩
theorem for_tup {K : PySem.W.Frag} {a : Addr} {xs : List V} {g : TG} {tb : TS} {D : Ends} {σ : St} {H : Hp} (Pv : Nat → St → Hp → Prop) (h0 : Pv 0 σ H) (hl : ∀ i σ H, i ≤ xs.length → Pv i σ H → SqT K H a xs)
   (hs : ∀ i x σ H, xs[i]? = some x → Pv i σ H → g x σ H fun σ2 H2 => tb { D with nx := Pv (i + 1), ct := Pv (i + 1), bk := D.nx } σ2 H2) (hd : ∀ σ H, Pv xs.length σ H → D.nx σ H) :
   ∃ W : Nat → Nat → St → Hp → Prop, (∃ m, W 0 m σ H) ∧ ∀ i m σ H, W i m σ H →
     ((Itt K a).stop i H ∧ D.nx σ H) ∨ ((Itt K a).go i H ∧ ∃ N : St → Hp → Prop, (∀ σ' H', N σ' H' → ∃ m', m' < m ∧ W (i + 1) m' σ' H') ∧ ∀ x H', (Itt K a).yld i H x H' → g x σ H' fun σ2 H2 => tb { D with nx := N, ct := N, bk := D.nx } σ2 H2) := by
 refine ⟨fun i m σ H => m = xs.length - i ∧ i ≤ xs.length ∧ Pv i σ H, ⟨xs.length, by simp, Nat.zero_le _, h0⟩, ?_⟩
 rintro i m σ H ⟨rfl, hi, p⟩
 have q := hl i σ H hi p
 by_cases hlt : i < xs.length
 · refine .inr ⟨⟨xs, xs[i], q, by simp [hlt]⟩, Pv (i + 1), fun σ' H' p' => ⟨xs.length - (i + 1), by omega, rfl, hlt, p'⟩, fun x H' y => ?_⟩
   obtain ⟨e, y⟩ := y
   subst e
   exact hs i x σ _ (y xs q) p
 · have e : i = xs.length := by omega
   subst e
   exact .inl ⟨⟨xs, q, Nat.le_refl _⟩, hd σ H p⟩
theorem for_range {lo : Int} {n : Nat} {g : TG} {tb : TS} {D : Ends} {σ : St} {H : Hp} (Pv : Nat → St → Hp → Prop) (h0 : Pv 0 σ H)
   (hs : ∀ i σ H, i < n → Pv i σ H → g (.int (lo + i)) σ H fun σ2 H2 => tb { D with nx := Pv (i + 1), ct := Pv (i + 1), bk := D.nx } σ2 H2) (hd : ∀ σ H, Pv n σ H → D.nx σ H) :
   ∃ W : Nat → Nat → St → Hp → Prop, (∃ m, W 0 m σ H) ∧ ∀ i m σ H, W i m σ H →
     ((Itr lo n).stop i H ∧ D.nx σ H) ∨ ((Itr lo n).go i H ∧ ∃ N : St → Hp → Prop, (∀ σ' H', N σ' H' → ∃ m', m' < m ∧ W (i + 1) m' σ' H') ∧ ∀ x H', (Itr lo n).yld i H x H' → g x σ H' fun σ2 H2 => tb { D with nx := N, ct := N, bk := D.nx } σ2 H2) := by
 refine ⟨fun i m σ H => m = n - i ∧ i ≤ n ∧ Pv i σ H, ⟨n, by simp, Nat.zero_le _, h0⟩, ?_⟩
 rintro i m σ H ⟨rfl, hi, p⟩
 by_cases hlt : i < n
 · refine .inr ⟨hlt, Pv (i + 1), fun σ' H' p' => ⟨n - (i + 1), by omega, rfl, hlt, p'⟩, fun x H' y => ?_⟩
   obtain ⟨e, y⟩ := y
   subst e y
   exact hs i σ _ hlt p
 · have e : i = n := by omega
   subst e
   exact .inl ⟨Nat.le_refl _, hd σ H p⟩
theorem while_by {c : TT} {tb : TS} {D : Ends} {σ : St} {H : Hp} (Pv : St → Hp → Prop) (μ : St → Hp → Nat) (h0 : Pv σ H)
   (hs : ∀ σ H, Pv σ H → c σ H fun b H1 => if b = true then tb { D with nx := fun σ' H' => Pv σ' H' ∧ μ σ' H' < μ σ H, ct := fun σ' H' => Pv σ' H' ∧ μ σ' H' < μ σ H, bk := D.nx } σ H1 else D.nx σ H1)
   (mono : ∀ σ H Q Q', (∀ b H1, Q b H1 → Q' b H1) → c σ H Q → c σ H Q') : tWhile c tb D σ H := by
 refine ⟨fun m σ H => m = μ σ H ∧ Pv σ H, ⟨_, rfl, h0⟩, ?_⟩
 rintro m σ H ⟨rfl, p⟩
 refine mono σ H _ _ (fun b H1 q => ?_) (hs σ H p)
 cases b with
 | true => exact ⟨_, fun σ' H' ⟨p', l⟩ => ⟨_, l, rfl, p'⟩, q⟩
 | false => exact q
end L2
namespace L2
open PySem PySem.Spec PyProof.Rows
noncomputable abbrev R2 := V → V → Hp → VK → Prop
noncomputable def OpR (X : Cx) (f : Value → Value → Sem Value) (r : R2) : Prop :=
 ∀ (pins : List (Addr × Obj)) (s : Shared) (σ : St) (H : Hp) (x y : V) (v u : Value) (Q : VK), Inv X pins σ H s → RelV x v → RelV y u → r x y H Q →
   wpAny (model X.prog X.w) X.A (f v u) (EP X pins σ Q) X.xe s
noncomputable def UnR (X : Cx) (f : Value → Sem Value) (r : V → Hp → VK → Prop) : Prop :=
 ∀ (pins : List (Addr × Obj)) (s : Shared) (σ : St) (H : Hp) (x : V) (v : Value) (Q : VK), Inv X pins σ H s → RelV x v → r x H Q →
   wpAny (model X.prog X.w) X.A (f v) (EP X pins σ Q) X.xe s
noncomputable def CallR (X : Cx) (f : Value) (r : List V → Hp → VK → Prop) : Prop :=
 ∀ (pins : List (Addr × Obj)) (s : Shared) (σ : St) (H : Hp) (xs : List V) (us : List Value) (Q : VK), Inv X pins σ H s → Vals xs us → r xs H Q →
   wpAny (model X.prog X.w) X.A (call f us) (EP X pins σ Q) X.xe s
noncomputable def TruR (X : Cx) (r : V → Hp → (Bool → Hp → Prop) → Prop) : Prop :=
 ∀ (pins : List (Addr × Obj)) (s : Shared) (σ : St) (H : Hp) (x : V) (v : Value) (Q : Bool → Hp → Prop), Inv X pins σ H s → RelV x v → r x H Q →
   wpAny (model X.prog X.w) X.A (truthy v) (TP X pins σ Q) X.xe s
noncomputable def tOp (r : R2) (ta tb : TE) : TE := fun σ H Q => ta σ H fun x H1 => tb σ H1 fun y H2 => r x y H2 Q
noncomputable def tUn (r : V → Hp → VK → Prop) (ta : TE) : TE := fun σ H Q => ta σ H fun x H1 => r x H1 Q
noncomputable def rI (C : Int → Int → Prop) (g : Int → Int → V) : R2 := fun x y H Q => ∃ i j, x = .int i ∧ y = .int j ∧ C i j ∧ Q (g i j) H
noncomputable def rI0 (g : Int → Int → V) : R2 := fun x y H Q => ∃ i j, x = .int i ∧ y = .int j ∧ Q (g i j) H
noncomputable def rU (g : Int → V) : V → Hp → VK → Prop := fun x H Q => ∃ i, x = .int i ∧ Q (g i) H
section
variable {X : Cx} {a b c : Expr} {ta tb tc : TE} {pos : Pos}
theorem binT (ha : PE X a ta) (hb : PE X b tb) {pins : List (Addr × Obj)} {s : Shared} {σ : St} {H : Hp} {R : V → V → Hp → Prop} (I : Inv X pins σ H s)
   (h : ta σ H fun x H1 => tb σ H1 fun y H2 => R x y H2) {Q : Value → Shared → Prop} {f : Value → Value → Sem Value}
   (hf : ∀ v u s2 x y H2, Inv X pins σ H2 s2 → RelV x v → RelV y u → R x y H2 → wpAny (model X.prog X.w) X.A (f v u) Q X.xe s2) :
   wpAny (model X.prog X.w) X.A (eval a X.env) (fun v s₁ => wpAny (model X.prog X.w) X.A (eval b X.env) (fun u s₂ => wpAny (model X.prog X.w) X.A (f v u) Q X.xe s₂) X.xe s₁) X.xe s := by
 refine thn (ha pins s σ H _ I h) fun v s1 ⟨x, H1, I1, r1, q1⟩ => ?_
 refine thn (hb pins s1 σ H1 _ I1 q1) fun u s2 ⟨y, H2, I2, r2, q2⟩ => ?_
 exact hf v u s2 x y H2 I2 r1 r2 q2
theorem pe_op {op : Operator} {r : R2} (ho : OpR X (binaryOp op) r) (ha : PE X a ta) (hb : PE X b tb) : PE X (.BinOp a op b pos) (tOp r ta tb) := by
 intro pins s σ H Q I h
 exact wpAny_BinOp (binT ha hb I h fun v u s2 x y H2 I2 rx ry q => ho pins s2 σ H2 x y v u Q I2 rx ry q)
theorem pe_un {op : UnaryOp} {r : V → Hp → VK → Prop} (ho : UnR X (unaryOp op) r) (ha : PE X a ta) : PE X (.UnaryOp op a pos) (tUn r ta) := by
 intro pins s σ H Q I h
 exact UnaryOp_ (thn (ha pins s σ H _ I h) fun v s1 ⟨x, H1, I1, r1, q1⟩ => ho pins s1 σ H1 x v Q I1 r1 q1)
theorem opI {f : Value → Value → Sem Value} {C : Int → Int → Prop} {g : Int → Int → Int}
   (rule : ∀ (i j : Int) (t u : Tok) (s : Shared) (Q : Value → Shared → Prop) (E : Value → Shared → Prop), C i j → Q (.int (g i j) s.toks) { s with toks := s.toks + 1 } → wpAny (model X.prog X.w) X.A (f (.int i t) (.int j u)) Q E s) :
   OpR X f (rI C fun i j => .int (g i j)) := by
 intro pins s σ H x y v u Q I rx ry h
 obtain ⟨i, j, rfl, rfl, hc, q⟩ := h
 obtain ⟨t, rfl⟩ := rx
 obtain ⟨t', rfl⟩ := ry
 exact rule i j t t' s _ _ hc ⟨.int (g i j), H, I.tok _, ⟨_, rfl⟩, q⟩
theorem opI0 {f : Value → Value → Sem Value} {g : Int → Int → Int}
   (rule : ∀ (i j : Int) (t u : Tok) (s : Shared) (Q : Value → Shared → Prop) (E : Value → Shared → Prop), Q (.int (g i j) s.toks) { s with toks := s.toks + 1 } → wpAny (model X.prog X.w) X.A (f (.int i t) (.int j u)) Q E s) :
   OpR X f (rI0 fun i j => .int (g i j)) := by
 intro pins s σ H x y v u Q I rx ry h
 obtain ⟨i, j, rfl, rfl, q⟩ := h
 obtain ⟨t, rfl⟩ := rx
 obtain ⟨t', rfl⟩ := ry
 exact rule i j t t' s _ _ ⟨.int (g i j), H, I.tok _, ⟨_, rfl⟩, q⟩
theorem opB0 {f : Value → Value → Sem Value} {g : Int → Int → Bool}
   (rule : ∀ (i j : Int) (t u : Tok) (s : Shared) (Q : Value → Shared → Prop) (E : Value → Shared → Prop), Q (.bool (g i j)) s → wpAny (model X.prog X.w) X.A (f (.int i t) (.int j u)) Q E s) :
   OpR X f (rI0 fun i j => .bl (g i j)) := by
 intro pins s σ H x y v u Q I rx ry h
 obtain ⟨i, j, rfl, rfl, q⟩ := h
 obtain ⟨t, rfl⟩ := rx
 obtain ⟨t', rfl⟩ := ry
 exact rule i j t t' s _ _ ⟨.bl (g i j), H, I, rfl, q⟩
noncomputable def CDiv (i j : Int) : Prop := 0 < j ∧ j < 1073741824
noncomputable def CPow (i j : Int) : Prop := 0 ≤ j ∧ j ≤ 1000000 ∧ i.natAbs < 2 ^ 64
noncomputable def CMul (i j : Int) : Prop := (-(2 ^ 64) < i ∧ i < 2 ^ 64) ∨ (-(2 ^ 64) < j ∧ j < 2 ^ 64)
theorem CMul.ok {i j : Int} (h : CMul i j) : IntMulOk i j := by
 rcases h with ⟨h1, h2⟩ | ⟨h1, h2⟩
 · exact .of_left (intBits_le_64 h1 h2)
 · exact .of_right (intBits_le_64 h1 h2)
theorem two_pow_nn (k : Nat) : (0 : Int) ≤ 2 ^ k := by
 rw [two_pow_cast]
 exact Int.natCast_nonneg _
theorem op_add : OpR X (binaryOp .Add) (rI0 fun i j => .int (i + j)) := opI0 fun _ _ _ _ _ _ _ q => add_int q
theorem op_sub : OpR X (binaryOp .Sub) (rI0 fun i j => .int (i - j)) := opI0 fun _ _ _ _ _ _ _ q => sub_int q
theorem op_mul : OpR X (binaryOp .Mult) (rI CMul fun i j => .int (i * j)) := opI fun _ _ _ _ _ _ _ hc q => mul_int q hc.ok
theorem op_fdiv : OpR X (binaryOp .FloorDiv) (rI CDiv fun i j => .int (i / j)) := opI fun i j _ _ _ _ _ hc q => by
 have h1 : (0 : Int) < j := hc.1
 have h2 : j < 1073741824 := hc.2
 exact floordiv_int (by omega) (by rw [Int.fdiv_eq_ediv_of_nonneg i (by omega)]; exact q) (.inl (PyProof.noPylong_small (by omega)))
theorem op_mod : OpR X (binaryOp .Mod) (rI (fun _ j => 0 < j) fun i j => .int (i % j)) := opI fun i j _ _ _ _ _ hc q => by
 have h1 : (0 : Int) < j := hc
 exact mod_int' (by omega) (by rw [Int.fmod_eq_emod_of_nonneg i (by omega)]; exact q)
theorem op_shl : OpR X (binaryOp .LShift) (rI CPow fun i j => .int (i * 2 ^ j.toNat)) := opI fun _ _ _ _ _ _ _ hc q => lshift_int_small hc.1 hc.2.1 hc.2.2 q
theorem op_shr : OpR X (binaryOp .RShift) (rI (fun _ j => 0 ≤ j) fun i j => .int (i / 2 ^ j.toNat)) := opI fun i j _ _ _ _ _ hc q =>
 rshift_int hc (by rw [Int.fdiv_eq_ediv_of_nonneg i (two_pow_nn _)]; exact q)
theorem op_and : OpR X (binaryOp .BitAnd) (rI0 fun i j => .int (Builtin.bitAnd i j)) := opI0 fun _ _ _ _ _ _ _ q => and_int q
theorem unI {f : Value → Sem Value} {g : Int → Int}
   (rule : ∀ (i : Int) (t : Tok) (s : Shared) (Q : Value → Shared → Prop) (E : Value → Shared → Prop), Q (.int (g i) s.toks) { s with toks := s.toks + 1 } → wpAny (model X.prog X.w) X.A (f (.int i t)) Q E s) :
   UnR X f (rU fun i => .int (g i)) := by
 intro pins s σ H x v Q I rx h
 obtain ⟨i, rfl, q⟩ := h
 obtain ⟨t, rfl⟩ := rx
 exact rule i t s _ _ ⟨.int (g i), H, I.tok _, ⟨_, rfl⟩, q⟩
theorem un_neg : UnR X (unaryOp .USub) (rU fun i => .int (-i)) := unI fun _ _ _ _ _ q => neg_int q
end
noncomputable def scal : V → V → Bool
 | .non, .non => true | .non, .int _ => true | .int _, .non => true | .non, .bl _ => true | .bl _, .non => true | .non, .str _ => true | .str _, .non => true
 | .int _, .int _ => true | .bl _, .bl _ => true | .str _, .str _ => true | .byt _, .byt _ => true
 | .int _, .str _ => true | .str _, .int _ => true | .bl _, .str _ => true | .str _, .bl _ => true
 | _, _ => false
noncomputable def rEq : R2 := fun x y H Q => scal x y = true ∧ Q (.bl (decide (x = y))) H
noncomputable def rNe : R2 := fun x y H Q => scal x y = true ∧ Q (.bl (!decide (x = y))) H
theorem dec_int {i j : Int} : decide (V.int i = V.int j) = (i == j) := by
 rw [Bool.eq_iff_iff]
 simp
theorem dec_bl {i j : Bool} : decide (V.bl i = V.bl j) = (i == j) := by
 rw [Bool.eq_iff_iff]
 simp
theorem dec_str {i j : Str} : decide (V.str i = V.str j) = (i == j) := by
 rw [Bool.eq_iff_iff]
 simp
theorem dec_byt {i j : Array UInt8} : decide (V.byt i = V.byt j) = (i.toList == j.toList) := by
 rw [Bool.eq_iff_iff]
 cases i
 cases j
 simp
section
variable {X : Cx} {a b c : Expr} {ta tb tc : TE} {pos : Pos}
theorem fin_bl {pins : List (Addr × Obj)} {σ : St} {H : Hp} {s : Shared} {Q : VK} {k k' : Bool} (I : Inv X pins σ H s) (q : Q (.bl k) H) (e : k = k') : EP X pins σ Q (.bool k') s := by
 subst e
 exact ⟨.bl k, H, I, rfl, q⟩
theorem op_eq : OpR X (compareOp .Eq) rEq := by
 intro pins s σ H x y v u Q I rx ry h
 obtain ⟨hs, q⟩ := h
 cases x with
 | non =>
   cases rx
   cases y with
   | non => cases ry; exact PySem.EqNone.eq_none_none (fin_bl I q (by simp))
   | bl j => cases ry; exact PySem.EqNone.eq_none_bool (fin_bl I q (by simp))
   | int j => obtain ⟨t', rfl⟩ := ry; exact PySem.EqNone.eq_none_int (fin_bl I q (by simp))
   | str j => obtain ⟨t', rfl⟩ := ry; exact PySem.EqNone.eq_none_str (fin_bl I q (by simp))
   | _ => exact absurd (show false = true from hs) Bool.false_ne_true
 | bl i =>
   cases rx
   cases y with
   | non => cases ry; exact PySem.EqNone.eq_bool_none (fin_bl I q (by simp))
   | bl j => cases ry; exact eq_bool (fin_bl I q dec_bl)
   | str j => obtain ⟨t', rfl⟩ := ry; exact PySem.EqMixed.eq_bool_str (fin_bl I q (by simp))
   | _ => exact absurd (show false = true from hs) Bool.false_ne_true
 | int i =>
   obtain ⟨t, rfl⟩ := rx
   cases y with
   | non => cases ry; exact PySem.EqNone.eq_int_none (fin_bl I q (by simp))
   | int j => obtain ⟨t', rfl⟩ := ry; exact eq_int (fin_bl I q dec_int)
   | str j => obtain ⟨t', rfl⟩ := ry; exact PySem.EqMixed.eq_int_str (fin_bl I q (by simp))
   | _ => exact absurd (show false = true from hs) Bool.false_ne_true
 | str i =>
   obtain ⟨t, rfl⟩ := rx
   cases y with
   | non => cases ry; exact PySem.EqNone.eq_str_none (fin_bl I q (by simp))
   | bl j => cases ry; exact PySem.EqMixed.eq_str_bool (fin_bl I q (by simp))
   | int j => obtain ⟨t', rfl⟩ := ry; exact PySem.EqMixed.eq_str_int (fin_bl I q (by simp))
   | str j => obtain ⟨t', rfl⟩ := ry; exact eq_str (fin_bl I q dec_str)
   | _ => exact absurd (show false = true from hs) Bool.false_ne_true
 | byt i =>
   obtain ⟨t, rfl⟩ := rx
   cases y with
   | byt j => obtain ⟨t', rfl⟩ := ry; exact PySem.W.eq_bytes (fin_bl I q dec_byt)
   | _ => exact absurd (show false = true from hs) Bool.false_ne_true
 | _ => cases y <;> exact absurd (show false = true from hs) Bool.false_ne_true
theorem op_ne : OpR X (compareOp .NotEq) rNe := by
 intro pins s σ H x y v u Q I rx ry h
 obtain ⟨hs, q⟩ := h
 cases x with
 | non =>
   cases rx
   cases y with
   | non => cases ry; exact PySem.EqNone.ne_none_none (fin_bl I q (by simp))
   | bl j => cases ry; exact PySem.EqNone.ne_none_bool (fin_bl I q (by simp))
   | int j => obtain ⟨t', rfl⟩ := ry; exact PySem.EqNone.ne_none_int (fin_bl I q (by simp))
   | str j => obtain ⟨t', rfl⟩ := ry; exact PySem.EqNone.ne_none_str (fin_bl I q (by simp))
   | _ => exact absurd (show false = true from hs) Bool.false_ne_true
 | bl i =>
   cases rx
   cases y with
   | non => cases ry; exact PySem.EqNone.ne_bool_none (fin_bl I q (by simp))
   | bl j => cases ry; exact ne_bool (fin_bl I q (congrArg not dec_bl))
   | str j => obtain ⟨t', rfl⟩ := ry; exact PySem.EqMixed.ne_bool_str (fin_bl I q (by simp))
   | _ => exact absurd (show false = true from hs) Bool.false_ne_true
 | int i =>
   obtain ⟨t, rfl⟩ := rx
   cases y with
   | non => cases ry; exact PySem.EqNone.ne_int_none (fin_bl I q (by simp))
   | int j => obtain ⟨t', rfl⟩ := ry; exact ne_int (fin_bl I q (congrArg not dec_int))
   | str j => obtain ⟨t', rfl⟩ := ry; exact PySem.EqMixed.ne_int_str (fin_bl I q (by simp))
   | _ => exact absurd (show false = true from hs) Bool.false_ne_true
 | str i =>
   obtain ⟨t, rfl⟩ := rx
   cases y with
   | non => cases ry; exact PySem.EqNone.ne_str_none (fin_bl I q (by simp))
   | bl j => cases ry; exact PySem.EqMixed.ne_str_bool (fin_bl I q (by simp))
   | int j => obtain ⟨t', rfl⟩ := ry; exact PySem.EqMixed.ne_str_int (fin_bl I q (by simp))
   | str j => obtain ⟨t', rfl⟩ := ry; exact ne_str (fin_bl I q (congrArg not dec_str))
   | _ => exact absurd (show false = true from hs) Bool.false_ne_true
 | byt i =>
   obtain ⟨t, rfl⟩ := rx
   cases y with
   | byt j => obtain ⟨t', rfl⟩ := ry; exact PySem.W.ne_bytes (fin_bl I q (congrArg not dec_byt))
   | _ => exact absurd (show false = true from hs) Bool.false_ne_true
 | _ => cases y <;> exact absurd (show false = true from hs) Bool.false_ne_true
theorem op_lt : OpR X (compareOp .Lt) (rI0 fun i j => .bl (decide (i < j))) := opB0 fun _ _ _ _ _ _ _ q => lt_int q
theorem op_gt : OpR X (compareOp .Gt) (rI0 fun i j => .bl (decide (j < i))) := opB0 fun _ _ _ _ _ _ _ q => gt_int q
theorem nomark (b : Expr) {op : CmpOp} (h : op ≠ .In := by decide) (h2 : op ≠ .NotIn := by decide) : behindInMarks op b = false := by
 have e1 : (op == CmpOp.In) = false := by cases op <;> first | rfl | exact absurd rfl h
 have e2 : (op == CmpOp.NotIn) = false := by cases op <;> first | rfl | exact absurd rfl h2
 cases b <;> simp [behindInMarks, e1, e2]
theorem pe_cmpR {op : CmpOp} {r : R2} (ho : OpR X (compareOp op) r) (ha : PE X a ta) (hb : PE X b tb) (hm : behindInMarks op b = false) : PE X (.Compare a [op] [b] pos) (tOp r ta tb) := by
 intro pins s σ H Q I h
 exact wpAny_Compare1 (binT ha hb I h fun v u s2 x y H2 I2 rx ry q => ho pins s2 σ H2 x y v u Q I2 rx ry q) hm
noncomputable def tTest (t : TE) : TT := fun σ H Q => t σ H fun x H' => ∃ k, x = .bl k ∧ Q k H'
theorem pt_cmpR {op : CmpOp} {r : R2} (ho : OpR X (compareOp op) r) (ha : PE X a ta) (hb : PE X b tb) (hm : behindInMarks op b = false) : PT X (.Compare a [op] [b] pos) (tTest (tOp r ta tb)) := by
 intro pins s σ H Q I h
 refine wpAny_isTrue_Compare1 (thn (ha pins s σ H _ I h) fun v s1 ⟨x, H1, I1, r1, q1⟩ => thn (hb pins s1 σ H1 _ I1 q1) fun u s2 ⟨y, H2, I2, r2, q2⟩ =>
   thn (ho pins s2 σ H2 x y v u _ I2 r1 r2 q2) fun c s3 ⟨z, H3, I3, r3, k, e, q3⟩ => ?_) hm
 subst e
 cases r3
 exact wpAny_truthy_bool ⟨H3, I3, q3⟩
noncomputable def TruV (K : PySem.W.Frag) (x : V) (H : Hp) (k : Bool) : Prop :=
 match x with
 | .non => k = false
 | .bl b => k = b
 | .int i => k = (i != 0)
 | .str y => y.length ≤ sizeLine ∧ k = ((y.length : Int) != 0)
 | .byt y => y.size ≤ sizeLine ∧ k = ((y.size : Int) != 0)
 | .ref p => (∃ xs, SqL K H p xs ∧ k = !xs.isEmpty) ∨ (∃ xs, SqT K H p xs ∧ k = !xs.isEmpty) ∨ ∃ kvs, H p = some (.dK kvs) ∧ k = !kvs.isEmpty
 | _ => False
theorem isEmpty_kv {κ : Type} {kvs : List (κ × V)} {vs : List (κ × Value)} (r : KV kvs vs) : (!vs.isEmpty) = !kvs.isEmpty := by
 cases r <;> rfl
theorem isEmpty_of {xs : List V} {its : List Value} (r : Vals xs its) : (!its.toArray.isEmpty) = !xs.isEmpty := by
 cases r <;> simp
theorem line63 : (sizeLine : Nat) < 2 ^ 63 := by rw [sizeLine_eq]; decide
theorem tru_ok : TruR X (fun x H Q => ∃ k, TruV X.K x H k ∧ Q k H) := by
 intro pins s σ H x v Q I rx h
 obtain ⟨k, e, q⟩ := h
 have hl := line63
 have hs : sizeLine = 16777216 := sizeLine_eq
 cases x with
 | non =>
   cases rx
   have e' : k = false := e
   subst e'
   exact truthy_none ⟨H, I, q⟩
 | bl b =>
   cases rx
   have e' : k = b := e
   subst e'
   exact wpAny_truthy_bool ⟨H, I, q⟩
 | int i =>
   obtain ⟨t, rfl⟩ := rx
   have e' : k = (i != 0) := e
   subst e'
   exact PySem.P.truthy_int ⟨H, I, q⟩
 | str y =>
   obtain ⟨t, rfl⟩ := rx
   obtain ⟨hy, e'⟩ : y.length ≤ sizeLine ∧ k = ((y.length : Int) != 0) := e
   subst e'
   exact PySem.P.truthy_str (by omega) ⟨H, I.tok _, q⟩
 | byt y =>
   obtain ⟨t, rfl⟩ := rx
   obtain ⟨hy, e'⟩ : y.size ≤ sizeLine ∧ k = ((y.size : Int) != 0) := e
   subst e'
   exact PySem.W.truthy_bytes (by omega) ⟨H, I.tok _, q⟩
 | ref p =>
   cases rx
   have e' : (∃ xs, SqL X.K H p xs ∧ k = !xs.isEmpty) ∨ (∃ xs, SqT X.K H p xs ∧ k = !xs.isEmpty) ∨ ∃ kvs, H p = some (.dK kvs) ∧ k = !kvs.isEmpty := e
   rcases e' with ⟨xs, hx, e'⟩ | ⟨xs, hx, e'⟩ | ⟨kvs, hx, e'⟩
   · subst e'
     obtain ⟨its, r, pl, hz⟩ := I.list hx
     have hlen := r.length
     exact wpAny_truthy_list pl.isList (by simp only [List.size_toArray]; omega) ⟨H, I.tok _, by rw [isEmpty_of r]; exact q⟩
   · subst e'
     obtain ⟨its, r, pl, hz⟩ := I.tuple hx
     have hlen := r.length
     exact truthy_tuple pl (by simp only [List.size_toArray]; omega) ⟨H, I.tok _, by rw [isEmpty_of r]; exact q⟩
   · subst e'
     obtain ⟨hz, hS, vs, r, m⟩ : kvs.length ≤ sizeLine ∧ (p == sysModules) = false ∧ ∃ vs, KV kvs vs ∧ s.heap.DictOf (mixKind X.prog X.w) p vs := I.hok p _ hx
     have hlen : kvs.length = vs.length := Paired.length r
     exact wpAny_truthy_dict hS m (by omega) ⟨H, I.tok _, by rw [isEmpty_kv r]; exact q⟩
 | _ => exact (show False from e).elim
theorem pt_truth (ha : PE X a ta) (he : ∀ whole, isTrue a X.env whole = (do let v ← whole; standAt a.pos; holding [v] (truthy v))) :
   PT X a (fun σ H Q => ta σ H fun x H' => ∃ k, TruV X.K x H' k ∧ Q k H') := by
 intro pins s σ H Q I h
 exact isTrue_plain (thn (ha pins s σ H _ I h) fun v s1 ⟨x, H1, I1, r1, q1⟩ => tru_ok pins s1 σ H1 x v Q I1 r1 q1) (he _)
theorem op_add_str : OpR X (binaryOp .Add) (fun x y H Q => ∃ i j, x = .str i ∧ y = .str j ∧ i.length + j.length ≤ sizeLine ∧ Q (.str (i ++ j)) H) := by
 intro pins s σ H x y v u Q I rx ry h
 obtain ⟨i, j, rfl, rfl, hz, q⟩ := h
 obtain ⟨t, rfl⟩ := rx
 obtain ⟨t', rfl⟩ := ry
 exact add_str (fun t' tk => ⟨.str (i ++ j), H, I.tok _, ⟨_, rfl⟩, q⟩) hz
theorem vals1 {x : V} {us : List Value} (r : Vals [x] us) : ∃ u, us = [u] ∧ RelV x u := by
 cases r with
 | cons r1 r2 => cases r2; exact ⟨_, rfl, r1⟩
theorem vals2 {x y : V} {us : List Value} (r : Vals [x, y] us) : ∃ u w', us = [u, w'] ∧ RelV x u ∧ RelV y w' := by
 cases r with
 | cons r1 r2 =>
   cases r2 with
   | cons r3 r4 => cases r4; exact ⟨_, _, rfl, r1, r3⟩
theorem call_max2 (hc : X.calm = true) : CallR X (.builtin "max") (fun xs H Q => ∃ i j, xs = [.int i, .int j] ∧ Q (.int (if j > i then j else i)) H) := by
 intro pins s σ H xs us Q I r h
 obtain ⟨i, j, rfl, q⟩ := h
 obtain ⟨u, w', rfl, ⟨t, rfl⟩, ⟨t', rfl⟩⟩ := vals2 r
 refine max_two_ints (I.ok.hd hc) fun h' tk k => ⟨_, H, I.kept k, ?_, q⟩
 by_cases hj : j > i
 · rw [if_pos hj, if_pos hj]; exact ⟨_, rfl⟩
 · rw [if_neg hj, if_neg hj]; exact ⟨_, rfl⟩
theorem call_min2 (hc : X.calm = true) : CallR X (.builtin "min") (fun xs H Q => ∃ i j, xs = [.int i, .int j] ∧ Q (.int (if j < i then j else i)) H) := by
 intro pins s σ H xs us Q I r h
 obtain ⟨i, j, rfl, q⟩ := h
 obtain ⟨u, w', rfl, ⟨t, rfl⟩, ⟨t', rfl⟩⟩ := vals2 r
 refine min_two_ints (I.ok.hd hc) fun h' tk k => ⟨_, H, I.kept k, ?_, q⟩
 by_cases hj : j < i
 · rw [if_pos hj, if_pos hj]; exact ⟨_, rfl⟩
 · rw [if_neg hj, if_neg hj]; exact ⟨_, rfl⟩
theorem call_str_int : CallR X (.type "str") (fun xs H Q => ∃ i, xs = [.int i] ∧ i.natAbs.log2 < 1920 ∧ Q (.str (toString i)) H) := by
 intro pins s σ H xs us Q I r h
 obtain ⟨i, rfl, hz, q⟩ := h
 obtain ⟨u, rfl, t, rfl⟩ := vals1 r
 exact PySem.P.str_of_int hz ⟨.str _, H, I.tok _, ⟨_, rfl⟩, q⟩
end
end L2
namespace L2
open PySem PySem.Spec PyProof.Rows
structure ObjM (h : Heap) (x dx C : Addr) (mA : Str → Option Value) : Prop where
 obj : h.get? x = some (PySem.W.instObj C dx)
 ns : h.Ns1 dx mA
 ne : dx ≠ x
theorem lookIn_ns {h : Heap} {dx : Addr} {mA : Str → Option Value} (n : h.Ns1 dx mA) : ∃ od, h.get? dx = some od ∧ ∀ name, PySem.W.lookIn name od = some (mA name) := by
 obtain ⟨o, es, ep, ho, hd, hk, _, hm⟩ := n
 refine ⟨o, ho, fun name => ?_⟩
 have e := hm name
 unfold nsFind findBy at e
 rw [← Array.find?_toList] at e
 unfold PySem.W.lookIn
 rw [hd]
 dsimp only
 split
 · rename_i y q
   rw [q] at e
   exact congrArg some e
 · rename_i q
   rw [q] at e
   have a : es.toList.any (·.refKey) = false := by
     rw [List.any_eq_false]
     intro y hy
     obtain ⟨z, t, hkey⟩ := hk y (Array.mem_toList_iff.mp hy)
     simp [DictEntry.refKey, hkey]
   have a' : ¬ es.toList.any (·.refKey) = true := by rw [a]; exact Bool.false_ne_true
   rw [if_neg a']
   exact congrArg some e
theorem ObjM.look {h : Heap} {x dx C : Addr} {mA : Str → Option Value} (I : ObjM h x dx C mA) : ∃ od, PySem.W.InstAt h x (PySem.W.instObj C dx) C (some od) ∧ ∀ name, PySem.W.lookIn name od = some (mA name) :=
 let ⟨od, ho, hl⟩ := lookIn_ns I.ns
 ⟨od, ⟨I.obj, rfl, rfl, ho⟩, hl⟩
section
variable {prog : Program} {w : World} {A : Around} {E : Value → Shared → Prop} {s : Shared} {K : PySem.W.Frag} {x dx C f : Addr} {mA : Str → Option Value} {name : Str} {v : Value}
end
theorem RelO.some_of {v : V} {o : Option Value} (r : RelO (some v) o) : ∃ u, o = some u ∧ RelV v u := by
 cases o with
 | none => exact (show False from r).elim
 | some u => exact ⟨u, rfl, r⟩
section
variable {P : Program} {w : World} {H H' : Hp} {h h' : Heap} {a C dx : Addr} {fs fs' : List (Str × V)}
theorem ins_get (hok : HOk P w H h) (e : H a = some (.ins C dx fs)) : ∃ mA, ObjM h a dx C mA ∧ (∀ f, RelO (fs.lookup f) (mA f)) ∧ PySem.Within mA (fs.map (·.1)) ∧ fs.length ≤ 1000 ∧ H dx = some (.own a) := by
 obtain ⟨d, z, ne, ob, mA, n, r, q⟩ := (show ObjOk P w H h a (.ins C dx fs) from hok a _ e)
 exact ⟨mA, ⟨ob, n, ne⟩, r, q, z, d⟩
end
structure Cls (K : PySem.W.Frag) (C : Addr) : Prop where
 pg : PySem.W.plainGet K C Str.empty = true
 hd : PySem.W.hasDictIn K C = true
 po : PySem.W.plainOver K C = true
 sa : PySem.W.findIn K (.ref C) "__setattr__" = some (some (.builtin "object.__setattr__"))
theorem Cls.get {K : PySem.W.Frag} {C : Addr} (c : Cls K C) (f : Str) : PySem.W.plainGet K C f = true := c.pg
section
variable {X : Cx} {pins : List (Addr × Obj)} {σ : St} {H : Hp} {s : Shared} {a C dx : Addr} {fs : List (Str × V)} {f : Str} {v : V} {A : Around} {E : Value → Shared → Prop}
end
section
variable {X : Cx} {o e value : Expr} {f : Str} {pos pos' tpos : Pos} {ta tv : TE}
end
section
variable {X : Cx} {pins : List (Addr × Obj)} {σ : St} {H : Hp} {s : Shared} {A : Around} {E : Value → Shared → Prop} {Q : Value → Shared → Prop} {c : Value} {b : Bool}
inductive TyOf (K : PySem.W.Frag) (H : Hp) : V → Value → Prop where
 | non : TyOf K H .non (.type "NoneType")
 | bl (x : Bool) : TyOf K H (.bl x) (.type "bool")
 | int (i : Int) : TyOf K H (.int i) (.type "int")
 | str (x : Str) : TyOf K H (.str x) (.type "str")
 | flt (x : UInt64) : TyOf K H (.flt x) (.type "float")
 | lst {a : Addr} {xs : List V} (e : H a = some (.lst xs)) : TyOf K H (.ref a) (.type "list")
 | frz {a : Addr} {o : Obj} {xs : List V} (e : H a = some (.frz o (.lst xs))) : TyOf K H (.ref a) (.type "list")
 | tup {a : Addr} {xs : List V} (e : H a = some (.tup xs)) : TyOf K H (.ref a) (.type "tuple")
 | dK {a : Addr} {kvs : List (Key × V)} (e : H a = some (.dK kvs)) : TyOf K H (.ref a) (.type "dict")
 | dT {a : Addr} {kvs : List (List Key × V)} (e : H a = some (.dT kvs)) : TyOf K H (.ref a) (.type "dict")
 | ins {a C dx : Addr} {fs : List (Str × V)} (e : H a = some (.ins C dx fs)) (cl : Cls K C) (ha : PySem.W.findIn K (.ref C) "__class__" = some (some (.builtin "object.__class__")))
     (hn : PySem.W.specialIn K (.builtin "object.__class__") "__get__" = some (some (.builtin "getset_descriptor.__get__"))) (htk : PySem.W.takesIn K (.builtin "object.__class__") = some true)
     (hm : PySem.W.mroIn K C (.type "object") = some true) : TyOf K H (.ref a) (.ref C)
theorem isinst_ok {x : V} {u t : Value} (I : Inv X pins σ H s) (rx : RelV x u) (ty : TyOf X.K H x t) (e : PySem.W.kitOne X.K t c = some b) (h : ∀ tk, Q (.bool b) { s with toks := tk }) :
   wpAny (model X.prog X.w) A (call (.builtin "isinstance") [u, c]) Q E s := by
 cases ty with
 | non => cases (show u = Value.none from rx); exact PySem.W.kia_one PySem.W.kitx_none I.kIn True.intro e (fun z => nomatch z) h
 | bl y => cases (show u = Value.bool y from rx); exact PySem.W.kia_one PySem.W.kitx_bool I.kIn True.intro e (fun z => nomatch z) h
 | int i => obtain ⟨t, q⟩ := (show ∃ t, u = Value.int i t from rx); cases q; exact PySem.W.kia_one PySem.W.kitx_int I.kIn True.intro e (fun z => nomatch z) h
 | str y => obtain ⟨t, q⟩ := (show ∃ t, u = Value.str y t from rx); cases q; exact PySem.W.kia_one PySem.W.kitx_str I.kIn True.intro e (fun z => nomatch z) h
 | flt y => obtain ⟨t, q⟩ := (show ∃ t, u = Value.float y t from rx); cases q; exact PySem.W.kia_one PySem.W.kitx_float I.kIn True.intro e (fun z => nomatch z) h
 | @lst a xs ea =>
   cases (show u = Value.ref a from rx)
   obtain ⟨_, _, n, _, h1⟩ := (show ObjOk X.prog X.w H s.heap a (.lst xs) from I.hok a _ ea)
   exact PySem.W.kia_one PySem.W.kitx_list I.kIn ⟨_, h1, rfl⟩ e (fun z => nomatch z) h
 | @frz a ob xs ea =>
   cases (show u = Value.ref a from rx)
   obtain ⟨_, _, _, n, _, h1⟩ := (show ObjOk X.prog X.w H s.heap a (.frz ob (.lst xs)) from I.hok a _ ea)
   exact PySem.W.kia_one PySem.W.kitx_list I.kIn ⟨_, h1, rfl⟩ e (fun z => nomatch z) h
 | @tup a xs ea =>
   cases (show u = Value.ref a from rx)
   obtain ⟨_, _, _, p⟩ := (show ObjOk X.prog X.w H s.heap a (.tup xs) from I.hok a _ ea)
   obtain ⟨o, h1, h2, _⟩ := p
   exact PySem.W.kia_one PySem.W.kitx_tuple I.kIn ⟨o, h1, h2⟩ e (fun z => nomatch z) h
 | @dK a kvs ea =>
   cases (show u = Value.ref a from rx)
   obtain ⟨_, _, vs, _, p⟩ := (show ObjOk X.prog X.w H s.heap a (.dK kvs) from I.hok a _ ea)
   obtain ⟨o, es, ep, h1, h2, _⟩ := p
   exact PySem.W.kia_one PySem.W.kitx_dict I.kIn ⟨o, h1, h2.1⟩ e (fun z => nomatch z) h
 | @dT a kvs ea =>
   cases (show u = Value.ref a from rx)
   obtain ⟨_, _, xs, _, o, es, ep, h1, h2, _⟩ := (show ObjOk X.prog X.w H s.heap a (.dT kvs) from I.hok a _ ea)
   exact PySem.W.kia_one PySem.W.kitx_dict I.kIn ⟨o, h1, h2.1⟩ e (fun z => nomatch z) h
 | @ins a C dx fs ea cl ha hn htk hm =>
   cases (show u = Value.ref a from rx)
   obtain ⟨mA, O, _⟩ := ins_get I.hok ea
   obtain ⟨od, J, _⟩ := O.look
   exact PySem.W.kia_one (PySem.W.kitx_own (cl.get _) cl.hd ha hn htk hm) I.kIn J e (fun z => nomatch z) h
end
end L2
namespace L2
open PySem PySem.Spec PyProof.Rows
structure Room (k : Nat) (A : Around) : Prop where
 hd : A.handled = none
 dp : A.depth + 3 * k + 5 < recursionLimit
 un : A.units + 16 * k + 200 < cLine
theorem Room.mono {j k : Nat} {A : Around} (r : Room k A) (h : j ≤ k) : Room j A := ⟨r.hd, by have := r.dp; omega, by have := r.un; omega⟩
theorem Room.deeper {k : Nat} {A : Around} (r : Room (k + 1) A) (env : Env) : Room k (A.deeper env) :=
 ⟨r.hd, by have := r.dp; show A.depth + 1 + 3 * k + 5 < _; omega, by have := r.un; show A.units + 3 + 16 * k + 200 < _; omega⟩
theorem Room.depth {k : Nat} {A : Around} (r : Room k A) : A.depth < recursionLimit := by have := r.dp; omega
theorem Room.units {k : Nat} {A : Around} (r : Room k A) : A.units + 64 < cLine := by have := r.un; omega
noncomputable def tNil : TA := fun _ H Q => Q [] H
noncomputable def tCons (ta : TE) (tr : TA) : TA := fun σ H Q => ta σ H fun x H1 => tr σ H1 fun xs H2 => Q (x :: xs) H2
section
variable {X : Cx} {e : Expr} {es : List Expr} {te : TE} {t : TA} {pos : Pos}
theorem pa_nil : PA X [] tNil := fun _ _ _ _ H Q I h => Calls.spliced_nil ⟨[], H, I, .nil, h⟩
theorem pa_cons (ha : PE X e te) (hr : PA X es t) (hs : starEach (e :: es) X.env = (false, eval e X.env) :: starEach es X.env := by rfl) : PA X (e :: es) (tCons te t) := by
 intro pos pins s σ H Q I h
 rw [hs]
 show wpAny _ _ (spliced ((false, eval e X.env) :: backTo pos (starEach es X.env))) _ _ s
 refine Calls.spliced_cons (thn (ha pins s σ H _ I h) fun u s1 ⟨x, H1, I1, r1, q1⟩ => ?_)
 exact thn (hr pos pins s1 σ H1 _ I1 q1) fun us s2 ⟨xs, H2, I2, r2, q2⟩ => ⟨x :: xs, H2, I2, .cons r1 r2, q2⟩
noncomputable def tTup (t : TA) : TE := fun σ H Q => t σ H fun xs H1 => xs.length ≤ sizeLine ∧ ∀ p, H1 p = none → Q (.ref p) (upd H1 p (.tup xs))
noncomputable def tLst (t : TA) : TE := fun σ H Q => t σ H fun xs H1 => xs.length ≤ sizeLine ∧ ∀ p, H1 p = none → Q (.ref p) (upd H1 p (.lst xs))
theorem pe_tup {x1} (h : PA X es t) : PE X (.Tuple es x1 pos) (tTup t) := by
 intro pins s σ H Q I hq
 refine wpAny_Tuple_spliced (thn (h pos pins s σ H _ I hq) fun us s1 ⟨xs, H1, I1, r, z, q⟩ => ⟨by rw [← r.length]; exact z, ?_⟩)
 have hf : H1 s1.heap.objs.size = none := I1.hok.fresh (Nat.le_refl _)
 refine ⟨.ref s1.heap.objs.size, upd H1 s1.heap.objs.size (.tup xs), I1.laid (t' := s1.toks) (fun b u e => Heap.get?_push_of_some _ e) (Nat.le_refl _) ?_, rfl, q _ hf⟩
 exact ⟨z, us, r, ⟨_, Heap.get?_push_size _ rfl, rfl, _, rfl⟩⟩
theorem pe_lst (h : PA X es t) : PE X (.List es pos) (tLst t) := by
 intro pins s σ H Q I hq
 refine wpAny_List_spliced (thn (h pos pins s σ H _ I hq) fun us s1 ⟨xs, H1, I1, r, z, q⟩ => ⟨by rw [← r.length]; exact z, ?_⟩)
 have hf : H1 s1.heap.objs.size = none := I1.hok.fresh (Nat.le_refl _)
 refine ⟨.ref s1.heap.objs.size, upd H1 s1.heap.objs.size (.lst xs), I1.laid (t' := s1.toks) (fun b u e => Heap.get?_push_of_some _ e) (Nat.le_refl _) ?_, rfl, q _ hf⟩
 exact ⟨z, us, 0, r, Heap.get?_push_size _ rfl⟩
end
noncomputable abbrev Sp := List V → Hp → VK → XK → Prop
noncomputable abbrev CXT := List Env → Hp → Shared → XK → Value → Shared → Prop
structure Env0 (P : Program) (w : World) (K : PySem.W.Frag) (mg : Str → Option Value) (base : Heap) (A : Around) (outer : List Env) (s : Shared) (H : Hp) : Prop where
 frames : A.frames = some outer
 mod : Mod K mg base
 bs : ∀ b o, base.get? b = some o → s.heap.get? b = some o ∧ H b = none
 bsz : base.objs.size ≤ s.heap.objs.size
 funs : s.heap.FunFrames base outer
 frf : ∀ b ∈ frs outer, H b = none
 hok : HOk P w H s.heap
 bare : AllBare s.gens
noncomputable def CE (outer : List Env) (P : Program) (w : World) (H : Hp) (s : Shared) (Q : VK) (u : Value) (s' : Shared) : Prop :=
 ∃ v H', s'.os = s.os ∧ AllBare s'.gens ∧ Un (frs outer) [] H H' s.heap s'.heap ∧ HOk P w H' s'.heap ∧ RelV v u ∧ Q v H'
noncomputable def CR (CX : CXT) (outer : List Env) (P : Program) (w : World) (H : Hp) (s : Shared) (Q : VK) (E : XK) (r : Result) (s' : Shared) : Prop :=
 match r with
 | .ok (.ret u) => CE outer P w H s Q u s'
 | .ok _ => False
 | .error e => CX outer H s E e s'
structure FnOk (P : Program) (w : World) (K : PySem.W.Frag) (mg : Str → Option Value) (base : Heap) (CX : CXT) (k : Nat) (f : Addr) (fd : FuncData) (ps : List Str) (sp : Sp) : Prop where
 len : ∀ vs H Q E, sp vs H Q E → vs.length = ps.length
 run : ∀ (A : Around) (outer : List Env) (s : Shared) (H : Hp) (args : Args) (us : List Value) (vs : List V) (Q : VK) (E : XK), Room k A → Env0 P w K mg base A outer s H → BindsTo s fd args (ps.zip us) → Vals vs us → sp vs H Q E →
   codeAny (model P w) A (.call (.ref f) args) (CR CX outer P w H s Q E) s
section
variable {X : Cx} {pins : List (Addr × Obj)} {σ : St} {H : Hp} {s s' : Shared}
theorem Inv.env0 (I : Inv X pins σ H s) : Env0 X.prog X.w X.K X.mg X.base X.A X.stack s H :=
 ⟨I.ok.frames, I.ok.mod, I.bs, Nat.le_trans I.ok.bsz I.sz, I.stack, I.stkFree, I.hok, I.bare⟩
theorem Inv.after {Q : VK} {u : Value} (I : Inv X pins σ H s) (h : CE X.stack X.prog X.w H s Q u s') : EP X pins σ Q u s' := by
 obtain ⟨v, H', os, bare, un, hok, r, q⟩ := h
 obtain ⟨hh, g, d, t, os'⟩ := s'
 obtain rfl : os' = s.os := os
 exact ⟨v, H', I.call (h' := hh) (g' := g) (d' := d) (t' := t) (ch := []) un hok bare (fun b z => absurd z (by simp)), r, q⟩
end
noncomputable def tCall (sp : Sp) (dvs : List V) (E : XK) (t : TA) : TE := fun σ H Q => t σ H fun vs H1 => sp (vs ++ dvs) H1 Q E
noncomputable def Binds (K : PySem.W.Frag) (fd : FuncData) (ps : List Str) (ds : List Value) : Prop :=
 ∀ (s : Shared) (us : List Value), K.In s.heap → (us ++ ds).length = ps.length → BindsTo s fd ⟨us, []⟩ (ps.zip (us ++ ds))
theorem Binds.all {K : PySem.W.Frag} {fd : FuncData} {ps : List Str} (h : ∀ us : List Value, us.length = ps.length → bindArgs fd ⟨us, []⟩ = pure (ps.zip us)) : Binds K fd ps [] := fun s us _ hl => by
 rw [List.append_nil] at hl ⊢
 exact .of_eq (h us hl)
noncomputable def Passes (CX : CXT) (X : Cx) (E : XK) : Prop := ∀ (pins : List (Addr × Obj)) (σ : St) (H : Hp) (s : Shared) (e : Value) (s' : Shared), Inv X pins σ H s → CX X.stack H s E e s' → X.xe e s'
section
variable {X : Cx} {CX : CXT} {k : Nat} {f C : Addr} {fd : FuncData} {ps : List Str} {sp : Sp} {dvs : List V} {ds : List Value} {E : XK} {x m : Str} {p pos apos : Pos} {e o : Expr} {es : List Expr} {ta : TE} {t : TA}
theorem run_fn {pins : List (Addr × Obj)} {σ : St} {H : Hp} {s : Shared} {Q : VK} {us : List Value} {vs : List V} (F : FnOk X.prog X.w X.K X.mg X.base CX k f fd ps sp) (hr : Room k X.A) (hb : Binds X.K fd ps ds) (hd : Vals dvs ds) (hx : Passes CX X E)
   (I : Inv X pins σ H s) (r : Vals vs us) (h : sp (vs ++ dvs) H Q E) : wpAny (model X.prog X.w) X.A (call (.ref f) us) (EP X pins σ Q) X.xe s := by
 have r2 : Vals (vs ++ dvs) (us ++ ds) := r.append hd
 have hl : (us ++ ds).length = ps.length := by rw [← r2.length]; exact F.len _ _ _ _ h
 refine wpAny_call (codeAny_mono (F.run X.A X.stack s H ⟨us, []⟩ (us ++ ds) (vs ++ dvs) Q E hr I.env0 (hb s us I.kIn hl) r2 h) fun r s' hq => ?_)
 cases r with
 | error e => exact hx pins σ H s e s' I hq
 | ok fl =>
   cases fl with
   | ret u => exact I.after hq
   | next => exact False.elim hq
   | brk => exact False.elim hq
   | cont => exact False.elim hq
theorem pe_call (F : FnOk X.prog X.w X.K X.mg X.base CX k f fd ps sp) (hr : Room k X.A) (hg : Gl X x) (hm : X.mg x = some (.ref f)) (hk : PySem.W.keepIn X.K (.ref f) = true) (hb : Binds X.K fd ps ds) (hd : Vals dvs ds) (hx : Passes CX X E)
   (ha : PA X (e :: es) t) (hdb : (x == ("__debug__" : Str)) = false := by decide) (he : starEach (e :: es) X.env = (false, eval e X.env) :: starEach es X.env := by rfl) (hpl : (backTo pos (starEach es X.env)).any (·.1) = false := by rfl) :
   PE X (.Call (.Name x p) (e :: es) [] pos) (tCall sp dvs E t) := by
 intro pins s σ H Q I h
 refine wpAny_Call_Name_kw (ld_glob I hg hm ?_ hdb)
 refine PySem.W.callWith_K (h₀ := X.base) I.ok.mod.kin hk (thn (ha pos pins s σ H _ I h) fun us s1 ⟨vs, H1, I1, r, q⟩ => ⟨I1.kIn, ?_⟩) he hpl
 exact run_fn F hr hb hd hx I1 r q
end
section
variable {X : Cx} {CX : CXT} {k : Nat} {f C : Addr} {fd : FuncData} {ps ks : List Str} {sp : Sp} {E : XK} {x m : Str} {p pos apos kpos : Pos} {e o : Expr} {es : List Expr} {kws : List Keyword} {te ta : TE} {t tk : TA} {nm : Option Str}
variable {g : List Value → List Value → List Value} {gV : List V → List V → List V}
end
structure FnScope (N P : List Str) (sc : Scope) : Prop where
 kind : sc.kind = .function
 co : sc.isCoroutine = false
 gen : sc.isGenerator = false
 nd : N.Nodup
 pre : N.take P.length = P
 par : ∀ x ∈ P, sc.names.lookup x = some .local ∨ sc.names.lookup x = some .cell
 nofree : ∀ y ∈ sc.names, y.2 ≠ .free
theorem bindL_out {kindOf : Str → Option NameKind} {x : Str} : ∀ {binds : List (Str × Value)} {m : Str → Option Value}, (∀ v, (x, v) ∉ binds) → bindL kindOf binds m x = m x
 | [], _, _ => rfl
 | (n, v) :: r, m, h => by
   unfold bindL
   rw [bindL_out fun w hw => h w (List.mem_cons_of_mem _ hw)]
   split
   · have : x ≠ n := by rintro rfl; exact h v List.mem_cons_self
     simp [this]
   · rfl
theorem bindC_out {kindOf : Str → Option NameKind} {x : Str} : ∀ {binds : List (Str × Value)} {m : Str → Option Value}, (∀ v, (x, v) ∉ binds) → bindC kindOf binds m x = m x
 | [], _, _ => rfl
 | (n, v) :: r, m, h => by
   unfold bindC
   rw [bindC_out fun w hw => h w (List.mem_cons_of_mem _ hw)]
   split
   · rfl
   · have : x ≠ n := by rintro rfl; exact h v List.mem_cons_self
     simp [this]
theorem bindL_get {kindOf : Str → Option NameKind} {x : Str} {v : Value} : ∀ {P : List Str} {vs : List Value} {i : Nat} {m : Str → Option Value}, P.Nodup → P[i]? = some x → vs[i]? = some v → kindOf x = some .local →
   bindL kindOf (P.zip vs) m x = some v
 | [], _, _, _, _, h, _, _ => by simp at h
 | _ :: _, [], _, _, _, _, h, _ => by simp at h
 | p :: P, w :: vs, 0, m, nd, h1, h2, hk => by
   simp at h1 h2; subst h1; subst h2
   show bindL kindOf ((p, w) :: P.zip vs) m p = _
   unfold bindL
   rw [bindL_out fun v hv => (List.nodup_cons.mp nd).1 (List.of_mem_zip hv).1, if_pos hk]
   simp
 | p :: P, w :: vs, i + 1, m, nd, h1, h2, hk => by
   show bindL kindOf ((p, w) :: P.zip vs) m x = _
   unfold bindL
   exact bindL_get (i := i) (List.nodup_cons.mp nd).2 (by simpa using h1) (by simpa using h2) hk
theorem bindC_get {kindOf : Str → Option NameKind} {x : Str} {v : Value} : ∀ {P : List Str} {vs : List Value} {i : Nat} {m : Str → Option Value}, P.Nodup → P[i]? = some x → vs[i]? = some v → kindOf x ≠ some .local →
   bindC kindOf (P.zip vs) m x = some v
 | [], _, _, _, _, h, _, _ => by simp at h
 | _ :: _, [], _, _, _, _, h, _ => by simp at h
 | p :: P, w :: vs, 0, m, nd, h1, h2, hk => by
   simp at h1 h2; subst h1; subst h2
   show bindC kindOf ((p, w) :: P.zip vs) m p = _
   unfold bindC
   rw [bindC_out fun v hv => (List.nodup_cons.mp nd).1 (List.of_mem_zip hv).1, if_neg hk]
   simp
 | p :: P, w :: vs, i + 1, m, nd, h1, h2, hk => by
   show bindC kindOf ((p, w) :: P.zip vs) m x = _
   unfold bindC
   exact bindC_get (i := i) (List.nodup_cons.mp nd).2 (by simpa using h1) (by simpa using h2) hk
noncomputable def start (N : List Str) (vs : List V) : St := vs.map some ++ List.replicate (N.length - vs.length) none
noncomputable def cxOf (CX : CXT) (P : Program) (w : World) (K : PySem.W.Frag) (mg : Str → Option Value) (base : Heap) (N : List Str) (qual : Str) (scope : Scope) (f : Addr) (cd : Value) (A : Around) (outer : List Env) (s : Shared) (H : Hp) (E : XK) : Cx where
 prog := P
 w := w
 K := K
 mg := mg
 base := base
 A := A.deeper (envOfC qual scope s.heap.objs.size f cd)
 N := N
 s₀ := s
 H₀ := H
 env := envOfC qual scope s.heap.objs.size f cd
 outer := outer
 stack := envOfC qual scope s.heap.objs.size f cd :: outer
 ex := []
 calm := true
 fn := fun _ => true
 pn := []
 xe := fun e s' => wpAny (model P w) (A.deeper (envOfC qual scope s.heap.objs.size f cd)) (leaving (envOfC qual scope s.heap.objs.size f cd) e) (fun _ s'' => CX outer H s E e s'') (fun e' s'' => CX outer H s E e' s'') s'
theorem cell_has {sc : Scope} {n : Nat} {x : Str} (h : sc.names.lookup x = some .cell) : ∃ c, (cellsFrom n sc.names []).lookup x = some c := by
 have q := PySem.W.cellsFrom_some sc.names n [] (.inl h)
 exact Option.isSome_iff_exists.mp q
theorem inv_start {CX : CXT} {P : Program} {w : World} {K : PySem.W.Frag} {mg : Str → Option Value} {base : Heap} {N ps : List Str} {qual : Str} {scope : Scope} {f : Addr} {cd : Value} {A : Around} {outer : List Env} {s s1 : Shared} {H : Hp} {E : XK} {us : List Value} {vs : List V}
   (S : FnScope N ps scope) (hd : A.handled = none) (e0 : Env0 P w K mg base A outer s H) (hl : vs.length = ps.length) (r : Vals vs us)
   (x : InCallC s s.heap.objs.size (bindL (envOfC qual scope s.heap.objs.size f cd).kindOf (ps.zip us) fun _ => none) (cellsFrom (s.heap.objs.size + 1) scope.names []) (bindC (envOfC qual scope s.heap.objs.size f cd).kindOf (ps.zip us) fun _ => none) s1) :
   Inv (cxOf CX P w K mg base N qual scope f cd A outer s H E) [] (start N vs) H s1 := by
 have hpl : ps.length ≤ N.length := by have := congrArg List.length S.pre; rw [List.length_take] at this; omega
 obtain ⟨h1, tk, rfl, hk⟩ := x.done
 have noA : ∀ b : Addr, b ∉ (cxOf CX P w K mg base N qual scope f cd A outer s H E).ex := fun b z => absurd (show b ∈ ([] : List Addr) from z) (by simp)
 refine ⟨⟨e0.mod, S.kind, rfl, rfl, Nat.le_refl _, fun y z c h1 h2 => ?_, fun y hy => ?_, fun y c _ h => ?_, fun _ => hd, Around.frames_deeper e0.frames, .inr ⟨rfl, rfl⟩, fun b z => absurd z (noA b), e0.bs, e0.bsz, fun b _ _ => noA b, fun b z => absurd z (noA b), e0.funs, e0.frf⟩,
   rfl, e0.bare, Un.kept hk, ⟨_, x.toInCall.ns, fun i y v h1 h2 h3 => ?_⟩, fun y c h => ⟨_, x.cell y c h⟩, e0.hok.fresh (Nat.le_refl _), fun y c h => ?_, fun p hp => absurd (show p ∈ ([] : List (Addr × Obj)) from hp) (by simp), e0.hok.kept hk, ?_⟩
 · exact name_of_addr x.apart (PySem.mem_of_lookup h1) (PySem.mem_of_lookup h2)
 · have hy : scope.names.lookup y = some .cell ∨ scope.names.lookup y = some .free := hy
   rcases hy with hy | hy
   · exact cell_has hy
   · exact absurd rfl (S.nofree _ (PySem.mem_of_lookup hy))
 · exact Nat.le_of_lt (x.above y c (PySem.mem_of_lookup h))
 · have hi : i < vs.length := by
     unfold start at h2
     by_cases hi : i < vs.length
     · exact hi
     · rw [List.getElem?_append_right (by simpa using hi)] at h2
       rw [List.getElem?_replicate] at h2
       split at h2 <;> cases h2
   have ha : vs[i]? = some v := by
     unfold start at h2
     rw [List.getElem?_append_left (by simpa using hi), List.getElem?_map] at h2
     cases e : vs[i]? with
     | none => rw [e] at h2; cases h2
     | some a => rw [e] at h2; cases h2; rfl
   obtain ⟨u, hu, rv⟩ := r.get ha
   have hp : ps[i]? = some y := by
     rw [← S.pre, List.getElem?_take_of_lt (by omega)]; exact h1
   have ndP : ps.Nodup := by rw [← S.pre]; exact S.nd.sublist (List.take_sublist _ _)
   refine ⟨u, rv, ?_⟩
   rcases S.par y (List.mem_of_getElem? hp) with k | k
   · exact .inl ⟨k, bindL_get ndP hp hu k⟩
   · obtain ⟨c, e⟩ := cell_has (n := s.heap.objs.size + 1) k
     refine .inr ⟨.inl k, c, e, ?_⟩
     have q := x.cell y c e
     rw [bindC_get ndP hp hu (by show scope.names.lookup y ≠ _; rw [k]; decide)] at q
     exact q
 · exact e0.hok.fresh (Nat.le_of_lt (x.above y c (PySem.mem_of_lookup h)))
 · unfold start
   show _ = N.length
   rw [List.length_append, List.length_map, List.length_replicate]
   omega
theorem fn_of {CX : CXT} {P : Program} {w : World} {K : PySem.W.Frag} {mg : Str → Option Value} {base : Heap} {k : Nat} {f : Addr} {name qual : Str} {params : Arguments} {body : List Stmt} {scope : Scope} {dV kV doc pm cdv ct oc : Value} {an od : Option Addr}
   {osl : Array (Option Value)} {N ps : List Str} {sp : Sp} (lk : K.lookup f = some ⟨oc, od, .func (PySem.W.fnOf name qual params body scope dV kV doc pm an cdv ct), osl⟩) (hcd : PySem.W.codeIn K cdv qual = true) (S : FnScope N ps scope)
   (len : ∀ vs H Q E, sp vs H Q E → vs.length = ps.length)
   (hbody : ∀ (A : Around) (outer : List Env) (s : Shared) (H : Hp) (vs : List V) (Q : VK) (E : XK), Room k (A.deeper (envOfC qual scope s.heap.objs.size f cdv)) → sp vs H Q E →
     ∃ t, PSs (cxOf CX P w K mg base N qual scope f cdv A outer s H E) body t ∧ t { nx := fun _ H' => Q .non H', rt := Q } (start N vs) H) :
   FnOk P w K mg base CX (k + 1) f (PySem.W.fnOf name qual params body scope dV kV doc pm an cdv ct) ps sp := by
 refine ⟨len, fun A outer s H args us vs Q E hr e0 hb r hsp => ?_⟩
 have hl := len _ _ _ _ hsp
 have KX : K.In s.heap := e0.mod.kin.keeps fun b o e => (e0.bs b o e).1
 have lim : s.heap.NoLimit := e0.mod.nolimit.keeps fun b o e => (e0.bs b o e).1
 have hkind : ∀ y ∈ ps.zip us, scope.names.lookup y.1 = some .local ∨ (scope.names.lookup y.1 = some .cell ∧ ((cellsFrom (s.heap.objs.size + 1) scope.names []).lookup y.1).isSome = true) := fun ⟨n, v⟩ hy => by
   rcases S.par n (List.of_mem_zip hy).1 with q | q
   · exact .inl q
   · exact .inr ⟨q, PySem.W.cellsFrom_some _ _ _ (.inl q)⟩
 refine codeAny_call_function hr.depth (KX _ _ lk) rfl S.co S.gen rfl (PySem.W.codeRec_of KX hcd) (hb _ _ _ _ ?_)
 refine wpAny_newFunctionEnv_cells S.kind hkind fun env he s1 x => ?_
 subst he
 refine ⟨lim.keeps x.toInCall.keep, codeAny_func ?_⟩
 obtain ⟨t, ht, hq⟩ := hbody A outer s H vs Q E (hr.deeper _) hsp
 have I : Inv (cxOf CX P w K mg base N qual scope f cdv A outer s H E) [] (start N vs) H s1 := inv_start S hr.hd e0 hl r x
 refine wpAny_mono (ht [] s1 (start N vs) H _ I hq) (fun fl s' hs => ?_) fun e s' hs => hs
 have fin : ∀ {σ' : St} {H' : Hp} {v : V} {u : Value}, Inv (cxOf CX P w K mg base N qual scope f cdv A outer s H E) [] σ' H' s' → RelV v u → Q v H' → CE outer P w H s Q u s' :=
   fun {σ' H' v u} J rv q => ⟨v, H', J.os, J.bare, J.base, J.hok, rv, q⟩
 cases fl with
 | ret u =>
   obtain ⟨v, σ', H', J, rv, q⟩ := hs
   exact fin J rv q
 | next =>
   obtain ⟨σ', H', J, q⟩ := hs
   exact fin (v := V.non) (u := Value.none) J rfl q
 | brk =>
   obtain ⟨_, _, _, q⟩ := hs
   exact False.elim q
 | cont =>
   obtain ⟨_, _, _, q⟩ := hs
   exact False.elim q
end L2
namespace L2
open PySem PySem.Spec PyProof.Rows
section
variable {X : Cx} {x : Str} {p pos : Pos} {e : Expr} {es : List Expr} {t : TA} {id T : String} {r : List V → Hp → VK → Prop}
noncomputable def tCB (r : List V → Hp → VK → Prop) (t : TA) : TE := fun σ H Q => t σ H fun vs H1 => r vs H1 Q
theorem pe_callB (hc : CallR X (.builtin id) r) (hg : Gl X x) (hm : X.mg x = none) (hv : bootBuiltins x = some (.builtin id)) (ha : PA X (e :: es) t) (hn : x ≠ "__name__" := by decide) (hdb : (x == ("__debug__" : Str)) = false := by decide)
   (he : starEach (e :: es) X.env = (false, eval e X.env) :: starEach es X.env := by rfl) (hpl : (backTo pos (starEach es X.env)).any (·.1) = false := by rfl) : PE X (.Call (.Name x p) (e :: es) [] pos) (tCB r t) := by
 intro pins s σ H Q I h
 refine wpAny_Call_Name_kw (ld_blt I hg hm hv ?_ hn hdb)
 exact PyProof.Rows.callWith_builtin1 (thn (ha pos pins s σ H _ I h) fun us s1 ⟨vs, H1, I1, r1, q1⟩ => hc pins s1 σ H1 vs us Q I1 r1 q1) he hpl
theorem pe_callTy (hc : CallR X (.type T) r) (hg : Gl X x) (hm : X.mg x = none) (hv : bootBuiltins x = some (.type T)) (ha : PA X (e :: es) t) (hn : x ≠ "__name__" := by decide) (hdb : (x == ("__debug__" : Str)) = false := by decide)
   (he : starEach (e :: es) X.env = (false, eval e X.env) :: starEach es X.env := by rfl) (hpl : (backTo pos (starEach es X.env)).any (·.1) = false := by rfl) : PE X (.Call (.Name x p) (e :: es) [] pos) (tCB r t) := by
 intro pins s σ H Q I h
 refine wpAny_Call_Name_kw (ld_blt I hg hm hv ?_ hn hdb)
 exact PyProof.Rows.callWith_type1 (thn (ha pos pins s σ H _ I h) fun us s1 ⟨vs, H1, I1, r1, q1⟩ => hc pins s1 σ H1 vs us Q I1 r1 q1) he hpl
end
end L2
namespace HT
open PySem PyProof.Rows
noncomputable def lexLt : List Int → List Int → Bool
 | [], [] => false
 | [], _ :: _ => true
 | _ :: _, [] => false
 | x :: xs, y :: ys => if x = y then lexLt xs ys else decide (x < y)
theorem lexLt_cons (x y : Int) (xs ys : List Int) : lexLt (x :: xs) (y :: ys) = if x = y then lexLt xs ys else decide (x < y) := rfl
theorem lexLt_nil_nil : lexLt [] [] = false := rfl
theorem lexLt_nil_cons (y : Int) (ys : List Int) : lexLt [] (y :: ys) = true := rfl
theorem lexLt_cons_nil (x : Int) (xs : List Int) : lexLt (x :: xs) [] = false := rfl
theorem eqAt_int (A : Around) (s : Shared) (a : Int) (t : Tok) (c : Int) (u : Tok) : ∃ e, SeqAt.EqAt A s (.int a t) (.int c u) e ∧ (e = true ↔ a = c) :=
 ⟨(a == c), SeqAt.EqAt.int_int a t c u, by simp⟩
theorem rcLt_int (A : Around) (s : Shared) (a : Int) (t : Tok) (c : Int) (u : Tok) (prog : Program) (w : World) (E : Value → Shared → Prop) (Q : Value → Shared → Prop) (h : Q (.bool (decide (a < c))) s) :
   wpAny (model prog w) A (richCompare .Lt (.int a t) (.int c u)) Q E s :=
 (PyProof.Rows.lt_int h : wpAny (model prog w) A (compareOp .Lt (.int a t) (.int c u)) Q E s)
section
open PySem.SeqAt
open PySem.AutoSeq1 (wpAny_loadPart')
open PySem.MeetsSeq PySem.MeetsSeq2 PySem.MeetsSeq3
theorem tuple_lt_ints (l b : Addr) (items items2 : Array Value) (n n2 : Nat) (dd dd2 : Option Addr) (sl sl2 : Array (Option Value)) (ns ms : List Int) (hi : IntsAre items.toList ns) (hj : IntsAre items2.toList ms) :
   Meets (Builtin.«tuple.__lt__» ⟨[.ref l, .ref b], []⟩)
     (fun _ R s => s.heap.get? l = some { cls := .type "tuple", dict := dd, data := .seq items n, slots := sl } ∧ s.heap.get? b = some { cls := .type "tuple", dict := dd2, data := .seq items2 n2, slots := sl2 } ∧
       R (.ok (.ret (.bool (lexLt ns ms)))) s) :=
 .of_wp fun prog w A R s h => by
   obtain ⟨hp, g, d, tk, os⟩ := s; obtain ⟨hl, hb, h⟩ := h
   have f2 := AutoSeq1.sub_tuple_tuple
   have z1 : items.size = ns.length := by rw [← hi.length]; simp
   have z2 : items2.size = ms.length := by rw [← hj.length]; simp
   wp_walk using wpAny_loadPart' hl, wpAny_loadPart' hb, wpAny_forIn_list _ (fun rest b s' => b.1 = none ∧ s' = ⟨hp, g, d, tk, os⟩ ∧ ∃ (vs ws : List Value) (ns' ms' : List Int), rest = vs.zip ws ∧
     IntsAre vs ns' ∧ IntsAre ws ms' ∧ ns'.length + items2.size = ms'.length + items.size ∧ R (.ok (.ret (.bool (lexLt ns' ms')))) ⟨hp, g, d, tk, os⟩) _
   case turn =>
     rintro ⟨y, x⟩ rest b s' ⟨hb', rfl, vs, ws, ns', ms', hz, hvi, hwi, hlen, hR⟩
     cases hvi with
     | nil => rw [List.zip_nil_left] at hz; cases hz
     | cons a t hvi' =>
       cases hwi with
       | nil => rw [List.zip_nil_right] at hz; cases hz
       | cons c u hwi' =>
         rw [List.zip_cons_cons] at hz
         injection hz with hyx hrest
         injection hyx with hy hx
         subst hy hx
         rw [lexLt_cons] at hR
         simp only [List.length_cons] at hlen
         obtain ⟨e, he, hiff⟩ := eqAt_int A.in1 ⟨hp, g, d, tk, os⟩ a t c u
         refine wpAny_bind (he prog w _ _ ?_)
         cases e with
         | true =>
           rw [if_pos (hiff.mp rfl)] at hR
           wp_walk
           exact ⟨rfl, rfl, _, _, _, _, hrest, hvi', hwi', by omega, hR⟩
         | false =>
           rw [if_neg (fun q => absurd (hiff.mpr q) Bool.false_ne_true)] at hR
           have hri := rcLt_int A.in1 ⟨hp, g, d, tk, os⟩ a t c u prog w
           wp_walk using hri
           exact ⟨_, rfl, by simpa using hR⟩
   case fin =>
     rintro ⟨b1, b2⟩ s' ⟨hb', rfl, vs, ws, ns', ms', hz, hvi, hwi, hlen, hR⟩
     simp only at hb'
     subst hb'
     have hv : lexLt ns' ms' = decide (items.size < items2.size) := by
       cases hvi with
       | nil =>
         cases hwi with
         | nil =>
           simp only [List.length_nil] at hlen
           rw [lexLt_nil_nil]
           exact (decide_eq_false (by omega)).symm
         | cons c u hw =>
           simp only [List.length_nil, List.length_cons] at hlen
           rw [lexLt_nil_cons]
           exact (decide_eq_true (by omega)).symm
       | cons a t hv =>
         cases hwi with
         | nil =>
           simp only [List.length_nil, List.length_cons] at hlen
           rw [lexLt_cons_nil]
           exact (decide_eq_false (by omega)).symm
         | cons c u hw =>
           rw [List.zip_cons_cons] at hz
           cases hz
     rw [hv] at hR
     wp_walk
     exact ⟨_, rfl, by simpa [Builtin.Tuple.tupleCompareSizes] using hR⟩
   case h =>
     exact ⟨rfl, rfl, items.toList, items2.toList, ns, ms, rfl, hi, hj, by omega, h⟩
end
section
variable {prog : Program} {w : World} {A : Around} {E : Value → Shared → Prop} {s : Shared}
theorem lt_tupInts {l b : Addr} {items items2 : Array Value} {ns ms : List Int} {Q : Value → Shared → Prop} (hl : IsTup s.heap l items) (hb : IsTup s.heap b items2) (hi : IntsAre items.toList ns) (hj : IntsAre items2.toList ms)
   (hu : A.units < cLine) (h : Q (.bool (lexLt ns ms)) s) : wpAny (model prog w) A (compareOp .Lt (.ref l) (.ref b)) Q E s := by
 obtain ⟨⟨cls, dd, data, sl⟩, ho, hc, n, hd⟩ := id hl
 obtain ⟨⟨cls2, dd2, data2, sl2⟩, ho2, hc2, n2, hd2⟩ := id hb
 simp only at hc hd hc2 hd2
 subst hc hd hc2 hd2
 exact richCompare_meets_room (op := .Lt) ⟨_, ho, rfl⟩ ⟨_, ho2, rfl⟩ PySem.F.slot_tuple_lt PySem.F.entry_tuple_lt (PySem.F.args_tuple_lt_2 _ _) (tuple_lt_ints l b items items2 n n2 dd dd2 sl sl2 ns ms hi hj)
   ⟨ho, ho2, show Value.bool (lexLt ns ms) ≠ Value.notImplemented ∧ Q (.bool (lexLt ns ms)) s from ⟨(fun x => nomatch x), h⟩⟩ hu
theorem cat_tup {t b : Addr} {vs ws : List Value} {Q : Value → Shared → Prop} (ht : IsTup s.heap t vs.toArray) (hb : IsTup s.heap b ws.toArray) (hv : vs ≠ [])
   (h1 : ws = [] → Q (.ref t) s) (h2 : ws ≠ [] → Q (.ref s.heap.objs.size) { s with heap := s.heap.push { cls := .type "tuple", data := .seq (vs ++ ws).toArray } })
   (hsz : vs.length + ws.length ≤ sizeLine) : wpAny (model prog w) A (binaryOp .Add (.ref t) (.ref b)) Q E s := by
 obtain ⟨⟨cls, dd, data, sl⟩, ho, hc, n, hd⟩ := id ht
 obtain ⟨⟨cls2, dd2, data2, sl2⟩, ho2, hc2, n2, hd2⟩ := id hb
 simp only at hc hd hc2 hd2
 subst hc hd hc2 hd2
 have e : vs.toArray ++ ws.toArray = (vs ++ ws).toArray := by simp
 by_cases hw : ws = []
 · exact concat_meets ⟨_, ho, rfl⟩ ⟨_, ho2, rfl⟩ noFill_tuple_add seq_tuple_add PySem.F.slot_tuple_add PySem.F.entry_tuple_add (PySem.F.args_tuple_add_2 _ _)
     (tuple_addW1 t b vs.toArray ws.toArray n n2 dd dd2 sl sl2 (by simpa using hv) (by simp [hw])) ⟨ho, ho2, h1 hw⟩
 · refine concat_meets ⟨_, ho, rfl⟩ ⟨_, ho2, rfl⟩ noFill_tuple_add seq_tuple_add PySem.F.slot_tuple_add PySem.F.entry_tuple_add (PySem.F.args_tuple_add_2 _ _)
     (tuple_addW2 t b vs.toArray ws.toArray n n2 dd dd2 sl sl2 (by simpa using hv) (by simpa using hw) (by rw [List.size_toArray, List.size_toArray]; exact hsz)) ⟨ho, ho2, ?_⟩
   rw [e]
   exact h2 hw
noncomputable def sIx (n d : Nat) : Option Int → Nat
 | none => d
 | some v => if v < 0 then (v + (n : Int)).toNat else min v.toNat n
theorem sIx_none (n d : Nat) : sIx n d none = d := rfl
theorem sIx_nat (n d k : Nat) : sIx n d (some (k : Int)) = min k n := by
 show (if (k : Int) < 0 then ((k : Int) + (n : Int)).toNat else min (k : Int).toNat n) = min k n
 rw [if_neg (by omega), Int.toNat_natCast]
theorem sIx_le (n d : Nat) (hd : d ≤ n) (o : Option Int) : sIx n d o ≤ n := by
 cases o with
 | none => exact hd
 | some v =>
   show (if v < 0 then (v + (n : Int)).toNat else min v.toNat n) ≤ n
   by_cases hv : v < 0
   · rw [if_pos hv]; omega
   · rw [if_neg hv]; exact Nat.min_le_right _ _
theorem clip_eq (v : Int) (n d : Nat) : (if v < 0 then max (v + (n : Int)) 0 else min v (n : Int)) = ((sIx n d (some v) : Nat) : Int) := by
 show (if v < 0 then max (v + (n : Int)) 0 else min v (n : Int)) = (((if v < 0 then (v + (n : Int)).toNat else min v.toNat n) : Nat) : Int)
 by_cases hv : v < 0
 · simp only [if_pos hv]; omega
 · simp only [if_neg hv]; omega
theorem adjust_gen (lo hi : Option Int) (n : Nat) : Builtin.Slice.sliceAdjust lo hi 1 (n : Int) = (((sIx n 0 lo : Nat) : Int), ((sIx n n hi : Nat) : Int)) := by
 have h1 : ¬ ((1 : Int) < 0) := by omega
 unfold Builtin.Slice.sliceAdjust
 simp only [h1, if_false]
 refine Prod.ext ?_ ?_
 · cases lo with
   | none => rfl
   | some v => exact clip_eq v n 0
 · cases hi with
   | none => rfl
   | some v => exact clip_eq v n n
theorem places_gen (i j : Nat) : Builtin.Slice.slicePlaces (i : Int) (j : Int) 1 = j - i := by
 unfold Builtin.Slice.slicePlaces
 have h1 : (1 : Int) > 0 := by omega
 simp only [h1, if_true, Int.ediv_one]
 split <;> omega
theorem slicePart_ {v : Value} {o : Option Int} {Q : Option Int → Shared → Prop} (p : IsPart v o) (h : Q o s) : wpAny (model prog w) A (Builtin.Slice.slicePartIndex v) Q E s := by
 cases p with
 | none => exact slicePart_none h
 | int i t => exact slicePart_int h
theorem sliceApplied_gen {sl : Addr} {vl vu : Value} {lo hi : Option Int} {n : Nat} {Q : Int × Int × Nat → Shared → Prop} (hs : s.heap.IsSliceOf sl vl vu .none) (pl : IsPart vl lo) (pu : IsPart vu hi)
   (h : Q (((sIx n 0 lo : Nat) : Int), 1, sIx n n hi - sIx n 0 lo) s) : wpAny (model prog w) A (Builtin.Slice.sliceApplied (.ref sl) (pure (n : Int))) Q E s := by
 obtain ⟨os, hos, hcs, hds⟩ := id hs
 unfold Builtin.Slice.sliceApplied Builtin.Slice.sliceFields
 refine wpAny_bind (wpAny_bind (wpAny_field hos hds (x := vl) rfl (wpAny_bind (wpAny_field hos hds (x := vu) rfl (wpAny_bind (wpAny_field hos hds (x := .none) rfl (wpAny_pure ?_)))))))
 refine wpAny_bind (slicePart_none ?_)
 show wpAny _ _ (if ((1 : Int) == 0) = true then _ else _) _ _ s
 rw [if_neg (by decide)]
 refine wpAny_bind (slicePart_ pl (wpAny_bind (slicePart_ pu (wpAny_bind (wpAny_pure ?_)))))
 show wpAny _ _ (match Builtin.Slice.sliceAdjust lo hi 1 (n : Int) with | (lo, hi) => pure (lo, (1 : Int), Builtin.Slice.slicePlaces lo hi 1)) _ _ s
 rw [adjust_gen lo hi n]
 show wpAny _ _ (pure (((sIx n 0 lo : Nat) : Int), (1 : Int), Builtin.Slice.slicePlaces ((sIx n 0 lo : Nat) : Int) ((sIx n n hi : Nat) : Int) 1)) _ _ s
 rw [places_gen]
 exact wpAny_pure h
theorem pick_gen (xs : Array Value) (i k : Nat) : ((List.range k).filterMap fun (m : Nat) => xs[((i : Int) + (m : Int) * 1).toNat]?).toArray = ((xs.toList.drop i).take k).toArray := by
 have e : (fun (m : Nat) => xs[((i : Int) + (m : Int) * 1).toNat]?) = fun m => xs[i + m]? := by
   funext m
   have : ((i : Int) + (m : Int) * 1).toNat = i + m := by omega
   rw [this]
 rw [e]
 have := pick_run xs i k
 rw [List.filterMap_map] at this
 have e2 : ((fun x => xs[x]?) ∘ fun x => i + x) = fun m => xs[i + m]? := rfl
 rw [e2] at this
 rw [this]
theorem getItem_tuple_cut {t sl : Addr} {items : Array Value} {vl vu : Value} {lo hi : Option Int} {Q : Value → Shared → Prop} (ht : IsTup s.heap t items) (hs : s.heap.IsSliceOf sl vl vu .none) (pl : IsPart vl lo) (pu : IsPart vu hi)
   (hw : ¬ (sIx items.size 0 lo = 0 ∧ sIx items.size items.size hi = items.size))
   (h : Q (.ref s.heap.objs.size) { s with heap := s.heap.push { cls := .type "tuple", data := .seq ((items.toList.drop (sIx items.size 0 lo)).take (sIx items.size items.size hi - sIx items.size 0 lo)).toArray } })
   (hsz : items.size ≤ sizeLine) : wpAny (model prog w) A (getItem (.ref t) (.ref sl)) Q E s := by
 have htake : sizeOk (.seq ((items.toList.drop (sIx items.size 0 lo)).take (sIx items.size items.size hi - sIx items.size 0 lo)).toArray) := by
   show ((items.toList.drop (sIx items.size 0 lo)).take (sIx items.size items.size hi - sIx items.size 0 lo)).toArray.size ≤ sizeLine
   rw [List.size_toArray, List.length_take, List.length_drop, Array.length_toList]
   omega
 have hj : sIx items.size items.size hi ≤ items.size := sIx_le _ _ (Nat.le_refl _) hi
 obtain ⟨os, hos, hcs, hds⟩ := id hs
 have hTs : s.TypeIs (.ref sl) "slice" := ⟨os, hos, hcs⟩
 unfold getItem
 try with_reducible refine wpAny_holding ?_
 first | refine wpAny_bind (wpAny_pure ?_) | skip
 refine wpAny_bind (wpAny_sequenceKey ht.typeIs (by decide) ?_)
 refine wpAny_bind (wpAny_callSpecial?_slot (name := Str.ofString "__getitem__") ht.typeIs PyProof.Rows.slot_tuple_getitem
   (wpAny_call_entry PyProof.Rows.slot_tuple_getitem ht.typeIs entry_tuple_getitem ?_ (args_tuple_getitem _ _)))
 show wpAny _ _ (Builtin.Tuple.tupleItemsOf (.ref t) >>= _) _ _ s
 refine wpAny_bind (tupleItemsOf_ ht ?_)
 refine wpAny_bind (wpAny_typeOf hTs ?_)
 rw [if_pos (by decide)]
 refine wpAny_bind (sliceApplied_gen hs pl pu ?_)
 have hno : ¬ ((((sIx items.size 0 lo : Nat) : Int) == 0 && (1 : Int) == 1 && (sIx items.size items.size hi - sIx items.size 0 lo) == items.size) = true) := by
   intro q
   rw [Bool.and_eq_true, Bool.and_eq_true] at q
   have q1 : ((sIx items.size 0 lo : Nat) : Int) = 0 := eq_of_beq q.1.1
   have q2 : sIx items.size items.size hi - sIx items.size 0 lo = items.size := eq_of_beq q.2
   exact hw ⟨by omega, by omega⟩
 show wpAny _ _ (if (((sIx items.size 0 lo : Nat) : Int) == 0 && (1 : Int) == 1 && (sIx items.size items.size hi - sIx items.size 0 lo) == items.size) = true then _ else _) _ _ s
 rw [if_neg hno, pick_gen]
 first
   | exact wpAny_bind (m := Builtin.Tuple.tupleExact _) (wpAny_newObj_type (wpAny_pure ⟨_, rfl, wpAny_pure h⟩) htake)
   | exact wpAny_bind (m := Builtin.Tuple.tupleExact _) (wpAny_newObj_type (wpAny_bind (wpAny_pure (wpAny_pure ⟨_, rfl, wpAny_pure h⟩))) htake)
   | exact wpAny_bind (wpAny_bind (m := Builtin.Tuple.tupleExact _) (wpAny_newObj_type (wpAny_pure (wpAny_pure ⟨_, rfl, wpAny_pure h⟩)) htake))
   | exact wpAny_bind (wpAny_bind (m := Builtin.Tuple.tupleExact _) (wpAny_newObj_type (wpAny_pure ⟨_, rfl, wpAny_pure h⟩) htake))
end
end HT
namespace L2
open PySem PySem.Spec PyProof.Rows
noncomputable abbrev TO := St → Hp → (Option Int → Hp → Prop) → Prop
noncomputable def PO (X : Cx) (e : Option Expr) (t : TO) : Prop :=
 ∀ (pins : List (Addr × Obj)) (s : Shared) (σ : St) (H : Hp) (Q : Option Int → Hp → Prop), Inv X pins σ H s → t σ H Q →
   wpAny (model X.prog X.w) X.A (evalPart e X.env) (fun u s' => ∃ o H', Inv X pins σ H' s' ∧ IsPart u o ∧ Q o H') X.xe s
noncomputable def tNoPart : TO := fun _ H Q => Q none H
noncomputable def tPart (t : TE) : TO := fun σ H Q => t σ H fun x H1 => ∃ i, x = .int i ∧ Q (some i) H1
theorem intsAre_of {ns : List Int} : ∀ {us : List Value}, Vals (ns.map V.int) us → IntsAre us ns := by
 induction ns with
 | nil => intro us r; rw [List.map_nil] at r; cases r; exact .nil
 | cons n ns ih =>
   intro us r
   rw [List.map_cons] at r
   cases r with
   | cons r1 r2 =>
     obtain ⟨t, e⟩ := r1
     subst e
     exact .cons n t (ih r2)
section
variable {X : Cx} {e : Expr} {te : TE} {lo hi : Option Expr} {tl th : TO} {pos p2 : Pos}
theorem po_none : PO X none tNoPart := by
 intro pins s σ H Q I h
 rw [evalPart_none]
 exact wpAny_pure ⟨none, H, I, .none, h⟩
theorem po_some (h : PE X e te) : PO X (some e) (tPart te) := by
 intro pins s σ H Q I hw
 rw [evalPart_some]
 refine thn (h pins s σ H _ I hw) fun u s1 ⟨x, H1, I1, r1, q1⟩ => ?_
 obtain ⟨i, rfl, q⟩ := q1
 obtain ⟨t, rfl⟩ := r1
 exact ⟨some i, H1, I1, .int i t, q⟩
noncomputable def SlR (X : Cx) (r : V → Option Int → Option Int → Hp → VK → Prop) : Prop :=
 ∀ (pins : List (Addr × Obj)) (s : Shared) (σ : St) (H : Hp) (x : V) (v vl vu : Value) (lo hi : Option Int) (sl : Addr) (Q : VK), Inv X pins σ H s → RelV x v → s.heap.IsSliceOf sl vl vu .none → IsPart vl lo → IsPart vu hi → r x lo hi H Q →
   ∃ T id, typeLookup (.type T) "__getitem__" = pure (some (.builtin id)) ∧ s.TypeIs v T ∧ wpAny (model X.prog X.w) X.A (getItem v (.ref sl)) (EP X pins σ Q) X.xe s
noncomputable def tSl (r : V → Option Int → Option Int → Hp → VK → Prop) (te : TE) (tl th : TO) : TE := fun σ H Q => te σ H fun x H1 => tl σ H1 fun l H2 => th σ H2 fun u H3 => r x l u H3 Q
theorem pe_slice {r : V → Option Int → Option Int → Hp → VK → Prop} (hr : SlR X r) (he : PE X e te) (hl : PO X lo tl) (hu : PO X hi th) : PE X (.Subscript e (.Slice lo hi none p2) pos) (tSl r te tl th) := by
 intro pins s σ H Q I h
 refine Subscript_ (thn (he pins s σ H _ I h) fun v s1 ⟨x, H1, I1, r1, q1⟩ => ?_)
 refine wpAny_Slice (thn (hl pins s1 σ H1 _ I1 q1) fun vl s2 ⟨l, H2, I2, pl, q2⟩ => thn (hu pins s2 σ H2 _ I2 q2) fun vu s3 ⟨u, H3, I3, pu, q3⟩ => ?_)
 rw [evalPart_none]
 refine wpAny_pure ?_
 have I4 : Inv X pins σ H3 { s3 with heap := s3.heap.push { cls := .type "slice", data := .fields #[vl, vu, .none] } } := I3.kept (t' := s3.toks) fun b ob q => Heap.get?_push_of_some _ q
 obtain ⟨T, id, hT, ht, hg⟩ := hr pins { s3 with heap := s3.heap.push { cls := .type "slice", data := .fields #[vl, vu, .none] } } σ H3 x v vl vu l u s3.heap.objs.size Q I4 r1 (Heap.IsSliceOf.new ..) pl pu q3
 show wpAny (model X.prog X.w) X.A (subscriptTail e (.Slice lo hi none p2) v (.ref s3.heap.objs.size)) (EP X pins σ Q) X.xe { s3 with heap := s3.heap.push { cls := .type "slice", data := .fields #[vl, vu, .none] } }
 exact tail_any (ops := [.ref s3.heap.objs.size, v]) ht hT hg (by with_unfolding_all rfl)
noncomputable def cutV (xs : List V) (lo hi : Option Int) : List V := (xs.drop (HT.sIx xs.length 0 lo)).take (HT.sIx xs.length xs.length hi - HT.sIx xs.length 0 lo)
theorem cutV_length (xs : List V) (lo hi : Option Int) : (cutV xs lo hi).length ≤ xs.length := by
 unfold cutV
 rw [List.length_take, List.length_drop]
 omega
noncomputable def rSlT (K : PySem.W.Frag) : V → Option Int → Option Int → Hp → VK → Prop := fun x lo hi H Q => ∃ a xs, x = .ref a ∧ SqT K H a xs ∧
 ¬ (HT.sIx xs.length 0 lo = 0 ∧ HT.sIx xs.length xs.length hi = xs.length) ∧ ∀ p, H p = none → Q (.ref p) (upd H p (.tup (cutV xs lo hi)))
theorem sl_tup : SlR X (rSlT X.K) := by
 intro pins s σ H x v vl vu lo hi sl Q I rx hs pl pu h
 obtain ⟨a, xs, rfl, hx, hw, q⟩ := h
 cases rx
 obtain ⟨its, r, ht, hz⟩ := I.tuple hx
 have hlen : its.toArray.size = xs.length := by rw [List.size_toArray]; exact r.length.symm
 refine ⟨"tuple", _, PyProof.Rows.slot_tuple_getitem.lookup, ht.typeIs, ?_⟩
 refine HT.getItem_tuple_cut ht hs pl pu (by rw [hlen]; exact hw) ?_ (by rw [hlen]; exact hz)
 rw [hlen]
 refine ⟨.ref s.heap.objs.size, _, I.laid (t' := s.toks) (o := .tup (cutV xs lo hi)) (fun b ob q => Heap.get?_push_of_some _ q) (Nat.le_refl _) ?_, rfl, q _ (I.hok.fresh (Nat.le_refl _))⟩
 exact ⟨Nat.le_trans (cutV_length xs lo hi) hz, _, (r.drop (HT.sIx xs.length 0 lo)).take (HT.sIx xs.length xs.length hi - HT.sIx xs.length 0 lo), IsTup.new _ _⟩
noncomputable def rCatT (K : PySem.W.Frag) : R2 := fun x y H Q => ∃ a b xs ys, x = .ref a ∧ y = .ref b ∧ SqT K H a xs ∧ SqT K H b ys ∧ xs ≠ [] ∧ xs.length + ys.length ≤ sizeLine ∧
 (ys = [] → Q (.ref a) H) ∧ (ys ≠ [] → ∀ p, H p = none → Q (.ref p) (upd H p (.tup (xs ++ ys))))
theorem Vals.nil_iff {xs : List V} {us : List Value} (r : Vals xs us) : us = [] ↔ xs = [] := by
 cases r with
 | nil => simp
 | cons _ _ => simp
theorem op_catT : OpR X (binaryOp .Add) (rCatT X.K) := by
 intro pins s σ H x y v u Q I rx ry h
 obtain ⟨a, b, xs, ys, rfl, rfl, ha, hb, hx, hz, q1, q2⟩ := h
 cases rx
 cases ry
 obtain ⟨its, r1, p1, _⟩ := I.tuple ha
 obtain ⟨its2, r2, p2, _⟩ := I.tuple hb
 refine HT.cat_tup p1 p2 (fun z => hx (r1.nil_iff.mp z)) (fun z => ⟨.ref a, H, I, rfl, q1 (r2.nil_iff.mp z)⟩) (fun z => ?_) (by rw [← r1.length, ← r2.length]; exact hz)
 refine ⟨.ref s.heap.objs.size, _, I.laid (t' := s.toks) (o := .tup (xs ++ ys)) (fun b ob q => Heap.get?_push_of_some _ q) (Nat.le_refl _) ?_, rfl, q2 (fun w => z (r2.nil_iff.mpr w)) _ (I.hok.fresh (Nat.le_refl _))⟩
 exact ⟨by rw [List.length_append]; exact hz, _, r1.append r2, IsTup.new _ _⟩
end
end L2
namespace L2
open PySem PySem.Spec PyProof.Rows
noncomputable def ixN (n : Nat) (i : Int) : Option Nat := if 0 ≤ i then (if i < n then some i.toNat else none) else if -(n : Int) ≤ i then some (i + n).toNat else none
noncomputable def atI {α : Type} (xs : List α) (i : Int) : Option α := (ixN xs.length i).bind fun j => xs[j]?
theorem ixN_seq {n : Nat} {i : Int} {j : Nat} (h : ixN n i = some j) : seqIndex? i n = some j ∧ j < n ∧ -(n : Int) ≤ i ∧ i < n := by
 unfold ixN at h
 by_cases h0 : 0 ≤ i
 · rw [if_pos h0] at h
   by_cases h1 : i < n
   · rw [if_pos h1] at h
     have e : i.toNat = j := Option.some.inj h
     exact ⟨by rw [seqIndex_of h0 h1, e], by omega, by omega, h1⟩
   · rw [if_neg h1] at h; cases h
 · rw [if_neg h0] at h
   by_cases h1 : -(n : Int) ≤ i
   · rw [if_pos h1] at h
     have e : (i + n).toNat = j := Option.some.inj h
     exact ⟨by rw [seqIndex_neg (by omega) h1, e], by omega, h1, by omega⟩
   · rw [if_neg h1] at h; cases h
theorem atI_get {α : Type} {xs : List α} {i : Int} {v : α} (h : atI xs i = some v) : ∃ j, seqIndex? i xs.length = some j ∧ xs[j]? = some v ∧ j < xs.length ∧ -(xs.length : Int) ≤ i ∧ i < xs.length := by
 unfold atI at h
 cases e : ixN xs.length i with
 | none => rw [e] at h; cases h
 | some j =>
   rw [e] at h
   obtain ⟨h1, h2, h3, h4⟩ := ixN_seq e
   exact ⟨j, h1, h, h2, h3, h4⟩
theorem atI_nat {α : Type} {xs : List α} {j : Nat} {v : α} (h : xs[j]? = some v) : atI xs (j : Int) = some v := by
 have hj : j < xs.length := (List.getElem?_eq_some_iff.mp h).1
 have e : ixN xs.length (j : Int) = some j := by
   unfold ixN
   rw [if_pos (by omega), if_pos (by omega)]; simp
 unfold atI; rw [e]; exact h
theorem atI_last {α : Type} (xs : List α) (v : α) : atI (xs ++ [v]) (-1) = some v := by
 have hl : (xs ++ [v]).length = xs.length + 1 := by simp
 have e : ixN (xs ++ [v]).length (-1) = some xs.length := by
   unfold ixN
   rw [hl, if_neg (by decide), if_pos (by omega)]
   congr 1
   omega
 unfold atI
 rw [e]
 show (xs ++ [v])[xs.length]? = some v
 simp
noncomputable def PlainIx (b : Expr) : Prop := ∀ o i, subscripted b false o i = operate [o, i] (getItem o i)
noncomputable def IxR (X : Cx) (r : R2) : Prop :=
 ∀ (value slice : Expr) (pins : List (Addr × Obj)) (s : Shared) (σ : St) (H : Hp) (x y : V) (v u : Value) (Q : VK), Inv X pins σ H s → RelV x v → RelV y u → r x y H Q →
   subscripted slice false v u = operate [v, u] (getItem v u) → wpAny (model X.prog X.w) X.A (subscriptTail value slice v u) (EP X pins σ Q) X.xe s
noncomputable def MtR (X : Cx) (id : String) (r : V → List V → Hp → VK → Prop) : Prop :=
 ∀ (pins : List (Addr × Obj)) (s : Shared) (σ : St) (H : Hp) (x : V) (xs : List V) (v : Value) (us : List Value) (Q : VK), Inv X pins σ H s → RelV x v → Vals xs us → r x xs H Q →
   wpAny (model X.prog X.w) X.A (call (.builtin id) (v :: us)) (EP X pins σ Q) X.xe s
section
variable {X : Cx} {a b : Expr} {ta tb : TE} {pos : Pos}
theorem pe_ix {r : R2} (hr : IxR X r) (ha : PE X a ta) (hb : PE X b tb) (hs : PlainIx b) : PE X (.Subscript a b pos) (tOp r ta tb) := by
 intro pins s σ H Q I h
 exact Subscript_ (binT ha hb I h fun v u s2 x y H2 I2 rx ry q => hr a b pins s2 σ H2 x y v u Q I2 rx ry q (hs _ _))
noncomputable def rIxL (K : PySem.W.Frag) : R2 := fun x y H Q => ∃ p xs i v, x = .ref p ∧ y = .int i ∧ SqL K H p xs ∧ atI xs i = some v ∧ Q v H
noncomputable def rIxT (K : PySem.W.Frag) : R2 := fun x y H Q => ∃ p xs i v, x = .ref p ∧ y = .int i ∧ SqT K H p xs ∧ atI xs i = some v ∧ Q v H
noncomputable def rIxS : R2 := fun x y H Q => ∃ z i c, x = .str z ∧ y = .int i ∧ z.length ≤ sizeLine ∧ atI z.cps.toList i = some c ∧ Q (.str ⟨#[c]⟩) H
theorem ix_list : IxR X (rIxL X.K) := by
 intro value slice pins s σ H x y v u Q I rx ry h hs
 obtain ⟨p, xs, i, z, rfl, rfl, hq, he, q⟩ := h
 cases rx
 obtain ⟨t, rfl⟩ := ry
 obtain ⟨its, r, pl, hz⟩ := I.list hq
 obtain ⟨j, h1, h2, h3, h4, h5⟩ := atI_get he
 obtain ⟨w, ew, rw'⟩ := r.get h2
 have hl := r.length
 have hn := line63
 have fin : EP X pins σ Q w s := ⟨z, H, I, rw', q⟩
 by_cases h0 : 0 ≤ i
 · have hj : i.toNat = j := by
     rw [seqIndex_of h0 h5] at h1
     exact Option.some.inj h1
   exact item_listR pl.isList h0 (by omega) (by rw [hj]; simpa using ew) fin hs
 · have hj : (i + (its.toArray.size : Int)).toNat = j := by
     rw [seqIndex_neg (by omega) h4] at h1
     rw [List.size_toArray, ← hl]
     exact Option.some.inj h1
   exact subscriptTail_builtinR (x := w) pl.isList.typeIs slot_list_getitem.lookup
     (wpAny_getItem_list_neg (Q := fun r s' => r = w ∧ EP X pins σ Q r s') pl.isList (by omega) (by rw [List.size_toArray] <;> omega) (by omega) (by rw [hj]; simpa using ew) ⟨rfl, fin⟩) hs
theorem ix_tup : IxR X (rIxT X.K) := by
 intro value slice pins s σ H x y v u Q I rx ry h hs
 obtain ⟨p, xs, i, z, rfl, rfl, hq, he, q⟩ := h
 cases rx
 obtain ⟨t, rfl⟩ := ry
 obtain ⟨its, r, pl, hz⟩ := I.tuple hq
 obtain ⟨j, h1, h2, h3, h4, h5⟩ := atI_get he
 obtain ⟨w, ew, rw'⟩ := r.get h2
 have hl := r.length
 have hn := line63
 have fin : EP X pins σ Q w s := ⟨z, H, I, rw', q⟩
 exact subscriptTail_builtinR (x := w) pl.typeIs slot_tuple_getitem.lookup
   (getItem_tuple (j := j) (Q := fun r s' => r = w ∧ EP X pins σ Q r s') pl (by omega) (by omega) (by rw [List.size_toArray, ← hl]; exact h1) (by simpa using ew) ⟨rfl, fin⟩) hs
theorem ix_str : IxR X rIxS := by
 intro value slice pins s σ H x y v u Q I rx ry h hs
 obtain ⟨z, i, c, rfl, rfl, hz, he, q⟩ := h
 obtain ⟨t, rfl⟩ := rx
 obtain ⟨t', rfl⟩ := ry
 obtain ⟨j, h1, h2, h3, h4, h5⟩ := atI_get he
 have hl : z.cps.toList.length = z.length := by simp [Str.length]
 rw [hl] at h1 h4 h5
 have hn := line63
 exact tail_any (typeIs_str s z t) slot_str_getitem.lookup (getItem_str (c := c) (by
   have e1 : decide (i < -(2 ^ 63 : Int)) = false := decide_eq_false (by omega)
   have e2 : decide (i ≥ 2 ^ 63) = false := decide_eq_false (by omega)
   rw [e1, e2, Bool.or_false]) (by rw [h1]; simpa using h2) ⟨.str ⟨#[c]⟩, H, I.tok _, ⟨_, rfl⟩, q⟩) hs
theorem slice_bounds (lo hi : Option Int) (n : Nat) : (sliceBounds lo hi none n).1 = ((HT.sIx n 0 lo : Nat) : Int) ∧ (sliceBounds lo hi none n).2.1 = ((HT.sIx n n hi : Nat) : Int) ∧ (sliceBounds lo hi none n).2.2 = 1 := by
 refine ⟨?_, ?_, rfl⟩
 · cases lo with
   | none => simp [sliceBounds, HT.sIx]
   | some i =>
     simp only [sliceBounds, HT.sIx, Option.getD_none, show (1 : Int) > 0 by decide, if_true]
     by_cases h : i < 0
     · simp only [h, if_true] <;> omega
     · simp only [h, if_false] <;> omega
 · cases hi with
   | none => simp [sliceBounds, HT.sIx]
   | some i =>
     simp only [sliceBounds, HT.sIx, Option.getD_none, show (1 : Int) > 0 by decide, if_true]
     by_cases h : i < 0
     · simp only [h, if_true] <;> omega
     · simp only [h, if_false] <;> omega
theorem slicePick_cut (its : List Value) (lo hi : Option Int) : slicePick its.toArray lo hi none = ((its.drop (HT.sIx its.length 0 lo)).take (HT.sIx its.length its.length hi - HT.sIx its.length 0 lo)).toArray := by
 obtain ⟨h1, h2, h3⟩ := slice_bounds lo hi its.toArray.size
 unfold slicePick
 rw [h1, h2, h3]
 simp only [sliceRange_one, pick_run, List.size_toArray] <;> rfl
noncomputable def rSlL (K : PySem.W.Frag) : V → Option Int → Option Int → Hp → VK → Prop := fun x lo hi H Q => ∃ a xs, x = .ref a ∧ SqL K H a xs ∧ ∀ p, H p = none → Q (.ref p) (upd H p (.lst (cutV xs lo hi)))
theorem sl_list : SlR X (rSlL X.K) := by
 intro pins s σ H x v vl vu lo hi sl Q I rx hs pl pu h
 obtain ⟨a, xs, rfl, hx, q⟩ := h
 cases rx
 obtain ⟨its, r, ht, hz⟩ := I.list hx
 have hlen := r.length
 refine ⟨"list", _, slot_list_getitem.lookup, ht.isList.typeIs, ?_⟩
 refine wpAny_getItem_list_slice ht.isList hs pl pu .none (by simp) ?_ (by rw [List.size_toArray] <;> omega)
 rw [slicePick_cut, ← hlen]
 refine ⟨.ref s.heap.objs.size, _, I.laid (t' := s.toks) (o := .lst (cutV xs lo hi)) (fun b ob q => Heap.get?_push_of_some _ q) (Nat.le_refl _) ?_, rfl, q _ (I.hok.fresh (Nat.le_refl _))⟩
 exact ⟨Nat.le_trans (cutV_length xs lo hi) hz, _, 0, (r.drop (HT.sIx xs.length 0 lo)).take (HT.sIx xs.length xs.length hi - HT.sIx xs.length 0 lo), Heap.get?_push_size _ rfl⟩
noncomputable def flatV : V → Bool
 | .non => true
 | .bl _ => true
 | .int _ => true
 | .str _ => true
 | _ => false
noncomputable def eqV : V → V → Bool
 | .non, .non => true
 | .bl a, .bl b => a == b
 | .bl a, .int b => (if a then 1 else 0) == b
 | .int a, .bl b => a == (if b then 1 else 0)
 | .int a, .int b => a == b
 | .str a, .str b => a == b
 | _, _ => false
theorem eqAt_V {A : Around} {s : Shared} {y x : V} {u v : Value} (ry : RelV y u) (rx : RelV x v) (fy : flatV y = true) (fx : flatV x = true) : SeqAt.EqAt A s u v (eqV y x) := by
 cases y with
 | non =>
   cases ry
   cases x with
   | non => cases rx; exact SeqAt.EqAt.same _
   | bl b => cases rx; exact SeqAt.EqAt.none_bool b
   | int b => obtain ⟨t, rfl⟩ := rx; exact SeqAt.EqAt.none_int b t
   | str b => obtain ⟨t, rfl⟩ := rx; exact SeqAt.EqAt.none_str b t
   | _ => exact absurd (show false = true from fx) Bool.false_ne_true
 | bl a =>
   cases ry
   cases x with
   | non => cases rx; exact SeqAt.EqAt.bool_none a
   | bl b => cases rx; exact SeqAt.EqAt.bool_bool a b
   | int b => obtain ⟨t, rfl⟩ := rx; exact SeqAt.EqAt.bool_int a b t
   | str b => obtain ⟨t, rfl⟩ := rx; exact SeqAt.EqAt.bool_str a b t
   | _ => exact absurd (show false = true from fx) Bool.false_ne_true
 | int a =>
   obtain ⟨t', rfl⟩ := ry
   cases x with
   | non => cases rx; exact SeqAt.EqAt.int_none a t'
   | bl b => cases rx; exact SeqAt.EqAt.int_bool a t' b
   | int b => obtain ⟨t, rfl⟩ := rx; exact SeqAt.EqAt.int_int a t' b t
   | str b => obtain ⟨t, rfl⟩ := rx; exact SeqAt.EqAt.int_str a t' b t
   | _ => exact absurd (show false = true from fx) Bool.false_ne_true
 | str a =>
   obtain ⟨t', rfl⟩ := ry
   cases x with
   | non => cases rx; exact SeqAt.EqAt.str_none a t'
   | bl b => cases rx; exact SeqAt.EqAt.str_bool a t' b
   | int b => obtain ⟨t, rfl⟩ := rx; exact SeqAt.EqAt.str_int a t' b t
   | str b => obtain ⟨t, rfl⟩ := rx; exact SeqAt.EqAt.str_str a t' b t
   | _ => exact absurd (show false = true from fx) Bool.false_ne_true
 | _ => exact absurd (show false = true from fy) Bool.false_ne_true
noncomputable def eqU (x : V) (u : Value) : Bool := match u with
 | .none => eqV .non x
 | .bool b => eqV (.bl b) x
 | .int i _ => eqV (.int i) x
 | .str z _ => eqV (.str z) x
 | _ => false
theorem eqU_of {x y : V} {u : Value} (r : RelV y u) (f : flatV y = true) : eqU x u = eqV y x := by
 cases y with
 | non => cases r; rfl
 | bl b => cases r; rfl
 | int i => obtain ⟨t, rfl⟩ := r; rfl
 | str z => obtain ⟨t, rfl⟩ := r; rfl
 | _ => exact absurd (show false = true from f) Bool.false_ne_true
theorem any_eqU {x : V} : ∀ {xs : List V} {us : List Value}, Vals xs us → xs.all flatV = true → us.any (eqU x) = xs.any fun y => eqV y x
 | _, _, .nil, _ => rfl
 | y :: xs, u :: us, .cons r t, f => by
   rw [List.all_cons, Bool.and_eq_true] at f
   rw [List.any_cons, List.any_cons, eqU_of r f.1, any_eqU t f.2]
theorem mem_eqAt {A : Around} {s : Shared} {x : V} {v : Value} (rx : RelV x v) (fx : flatV x = true) : ∀ {xs : List V} {us : List Value}, Vals xs us → xs.all flatV = true → ∀ u ∈ us, SeqAt.EqAt A s u v (eqU x u)
 | _, _, .nil, _ => fun u hu => by cases hu
 | y :: xs, u :: us, .cons r t, f => fun u' hu => by
   rw [List.all_cons, Bool.and_eq_true] at f
   rcases List.mem_cons.mp hu with rfl | hu
   · rw [eqU_of r f.1]; exact eqAt_V r rx f.1 fx
   · exact mem_eqAt rx fx t f.2 u' hu
noncomputable def inV (x : V) (xs : List V) : Bool := xs.any fun y => eqV y x
noncomputable def rIn (K : PySem.W.Frag) (neg : Bool) : R2 := fun x y H Q => ∃ p xs, y = .ref p ∧ (SqL K H p xs ∨ SqT K H p xs) ∧ flatV x = true ∧ xs.all flatV = true ∧ Q (.bl (if neg then !inV x xs else inV x xs)) H
theorem op_in_seq : OpR X (compareOp .In) (rIn X.K false) := by
 intro pins s σ H x y v u Q I rx ry h
 obtain ⟨p, xs, rfl, hq, fx, fs, q⟩ := h
 cases ry
 rcases hq with hq | hq
 · obtain ⟨its, r, pl, hz⟩ := I.list hq
   refine SeqAt.in_listAt (eqU x) pl.isList (fun w hw => mem_eqAt rx fx r fs w (by simpa using hw)) ⟨.bl _, H, I, rfl, ?_⟩
   rw [show its.toArray.any (eqU x) = its.any (eqU x) by simp, any_eqU r fs]
   exact q
 · obtain ⟨its, r, pl, hz⟩ := I.tuple hq
   refine SeqAt.in_tupleAt (eqU x) pl (fun w hw => mem_eqAt rx fx r fs w (by simpa using hw)) ⟨.bl _, H, I, rfl, ?_⟩
   rw [show its.toArray.any (eqU x) = its.any (eqU x) by simp, any_eqU r fs]
   exact q
theorem op_notIn_seq : OpR X (compareOp .NotIn) (rIn X.K true) := by
 intro pins s σ H x y v u Q I rx ry h
 obtain ⟨p, xs, rfl, hq, fx, fs, q⟩ := h
 cases ry
 rcases hq with hq | hq
 · obtain ⟨its, r, pl, hz⟩ := I.list hq
   refine SeqAt.notIn_listAt (eqU x) pl.isList (fun w hw => mem_eqAt rx fx r fs w (by simpa using hw)) ⟨.bl _, H, I, rfl, ?_⟩
   rw [show its.toArray.any (eqU x) = its.any (eqU x) by simp, any_eqU r fs]
   exact q
 · obtain ⟨its, r, pl, hz⟩ := I.tuple hq
   refine SeqAt.notIn_tupleAt (eqU x) pl (fun w hw => mem_eqAt rx fx r fs w (by simpa using hw)) ⟨.bl _, H, I, rfl, ?_⟩
   rw [show its.toArray.any (eqU x) = its.any (eqU x) by simp, any_eqU r fs]
   exact q
theorem call_len_seq : CallR X (.builtin "len") (fun xs H Q => ∃ p ys, xs = [.ref p] ∧ (SqL X.K H p ys ∨ SqT X.K H p ys) ∧ Q (.int ys.length) H) := by
 intro pins s σ H xs us Q I r h
 obtain ⟨p, ys, rfl, hq, q⟩ := h
 obtain ⟨u, rfl, rx⟩ := vals1 r
 cases rx
 have hn := line63
 rcases hq with hq | hq
 · obtain ⟨its, r', pl, hz⟩ := I.list hq
   have hlen := r'.length
   exact Calls.call_len_list pl.isList (by simp only [List.size_toArray] <;> omega) ⟨.int ys.length, H, I.tok _, ⟨s.toks + 1, by rw [List.size_toArray, hlen]⟩, q⟩
 · obtain ⟨its, r', pl, hz⟩ := I.tuple hq
   have hlen := r'.length
   exact len_tuple pl (by simp only [List.size_toArray] <;> omega) ⟨.int ys.length, H, I.tok _, ⟨s.toks + 1, by rw [List.size_toArray, hlen]⟩, q⟩
theorem call_list_of : CallR X (.type "list") (fun xs H Q => ∃ p ys, xs = [.ref p] ∧ (SqL X.K H p ys ∨ SqT X.K H p ys) ∧ ∀ l, H l = none → Q (.ref l) (upd H l (.lst ys))) := by
 intro pins s σ H xs us Q I r h
 obtain ⟨p, ys, rfl, hq, q⟩ := h
 obtain ⟨u, rfl, rx⟩ := vals1 r
 cases rx
 have fin : ∀ (its : List Value), Vals ys its → ys.length ≤ sizeLine → ∀ (h' : Heap) (c' : Nat), (∀ b o', s.heap.get? b = some o' → h'.get? b = some o') →
     h'.get? s.heap.objs.size = some { cls := .type "list", dict := none, data := .seq its.toArray c', slots := #[] } → EP X pins σ Q (.ref s.heap.objs.size) { s with heap := h' } := fun its r' hz h' c' kp e =>
   ⟨.ref s.heap.objs.size, _, I.laid (t' := s.toks) kp (Nat.le_refl _) (show ObjOk X.prog X.w _ h' _ (.lst ys) from ⟨hz, its, c', r', e⟩), rfl, q _ (I.hok.fresh (Nat.le_refl _))⟩
 rcases hq with hq | hq
 · obtain ⟨its, r', pl, hz⟩ := I.list hq
   have hlen := r'.length
   obtain ⟨o, ho, hc, n, hd⟩ := pl.isList
   exact call_list_seq p (.inl rfl) ho hc hd (fun h' c' kp e => fin its r' hz h' c' kp e) (by simp only [List.size_toArray] <;> omega)
 · obtain ⟨its, r', pl, hz⟩ := I.tuple hq
   have hlen := r'.length
   obtain ⟨o, ho, hc, n, hd⟩ := pl
   exact call_list_seq p (.inr rfl) ho hc hd (fun h' c' kp e => fin its r' hz h' c' kp e) (by simp only [List.size_toArray] <;> omega)
theorem call_tuple_of : CallR X (.type "tuple") (fun xs H Q => ∃ p ys, xs = [.ref p] ∧ ((SqL X.K H p ys ∧ ∀ l, H l = none → Q (.ref l) (upd H l (.tup ys))) ∨ (SqT X.K H p ys ∧ Q (.ref p) H))) := by
 intro pins s σ H xs us Q I r h
 obtain ⟨p, ys, rfl, h⟩ := h
 obtain ⟨u, rfl, rx⟩ := vals1 r
 cases rx
 rcases h with ⟨hq, q⟩ | ⟨hq, q⟩
 · obtain ⟨its, r', pl, hz⟩ := I.list hq
   have hlen := r'.length
   refine call_tuple_list pl.isList (fun h' kp => ?_) (by simp only [List.size_toArray] <;> omega)
   have I1 : Inv X pins σ H { s with heap := h' } := I.kept (t' := s.toks) kp
   have I2 : Inv X pins σ (upd H h'.objs.size (.tup ys)) { s with heap := h'.push { cls := .type "tuple", data := .seq its.toArray } } :=
     I1.laid (t' := s.toks) (fun b o e => Heap.get?_push_of_some _ e) (Nat.le_refl _) (show ObjOk X.prog X.w _ _ _ (.tup ys) from ⟨hz, its, r', IsTup.new _ _⟩)
   exact ⟨.ref h'.objs.size, _, I2, rfl, q _ (I1.hok.fresh (Nat.le_refl _))⟩
 · obtain ⟨its, r', pl, hz⟩ := I.tuple hq
   exact call_tuple_same pl ⟨.ref p, H, I, rfl, q⟩
noncomputable def tyV (K : PySem.W.Frag) (T : String) (x : V) (H : Hp) : Prop := match x with
 | .str _ => T = "str"
 | .int _ => T = "int"
 | .ref p => (T = "list" ∧ ∃ xs, SqL K H p xs) ∨ (T = "tuple" ∧ ∃ o, K.lookup p = some o ∧ o.cls = .type "tuple" ∧ o.dict = none) ∨
     (T = "dict" ∧ ((∃ kvs, H p = some (.dK kvs)) ∨ ∃ kvs, H p = some (.dT kvs))) ∨ (T = "set" ∧ ∃ S n, H p = some (.set S n))
 | _ => False
theorem tyV_is {pins : List (Addr × Obj)} {σ : St} {H : Hp} {s : Shared} {T : String} {x : V} {v : Value} (I : Inv X pins σ H s) (r : RelV x v) (ty : tyV X.K T x H) :
   s.TypeIs v T ∧ ∀ a, v = .ref a → ∃ ob, s.heap.get? a = some ob ∧ ob.dict = none := by
 cases x with
 | str z =>
   obtain ⟨t, rfl⟩ := r
   cases (show T = "str" from ty)
   exact ⟨typeIs_str s z t, fun _ e => nomatch e⟩
 | int i =>
   obtain ⟨t, rfl⟩ := r
   cases (show T = "int" from ty)
   exact ⟨typeIs_int s i t, fun _ e => nomatch e⟩
 | ref p =>
   cases r
   rcases ty with ⟨rfl, xs, hq⟩ | ⟨rfl, o, hk, hc, hd⟩ | ⟨rfl, hk⟩ | ⟨rfl, S, n, hk⟩
   · obtain ⟨its, _, pl, _⟩ := I.list hq
     refine ⟨pl.isList.typeIs, fun a e => ?_⟩
     cases e
     obtain ⟨o, n, e, c, hd, _⟩ := pl
     exact ⟨o, e, hd⟩
   · refine ⟨⟨o, I.kIn p o hk, hc⟩, fun a e => ?_⟩
     cases e
     exact ⟨o, I.kIn _ o hk, hd⟩
   · have z : ∃ o, s.heap.get? p = some o ∧ o.ExactDict := by
       rcases hk with ⟨kvs, hk⟩ | ⟨kvs, hk⟩
       · obtain ⟨_, _, _, _, o, _, _, e, ex, _⟩ := I.hok p _ hk
         exact ⟨o, e, ex⟩
       · obtain ⟨_, _, _, _, o, _, _, e, ex, _⟩ := I.hok p _ hk
         exact ⟨o, e, ex⟩
     obtain ⟨o, e, ex⟩ := z
     refine ⟨⟨o, e, ex.1⟩, fun a e2 => ?_⟩
     cases e2
     exact ⟨o, e, ex.2.1⟩
   · obtain ⟨o, _, _, _, e, ex, _⟩ := I.hok p _ hk
     refine ⟨⟨o, e, ex.1⟩, fun a e2 => ?_⟩
     cases e2
     exact ⟨o, e, ex.2.1⟩
 | _ => exact False.elim ty
noncomputable def tBM0 (K : PySem.W.Frag) (T : String) (r : V → List V → Hp → VK → Prop) (to : TE) : TE := fun σ H Q => to σ H fun x H1 => tyV K T x H1 ∧ r x [] H1 Q
noncomputable def tBM (K : PySem.W.Frag) (T : String) (r : V → List V → Hp → VK → Prop) (to : TE) (t : TA) : TE := fun σ H Q => to σ H fun x H1 => tyV K T x H1 ∧ t σ H1 fun xs H2 => r x xs H2 Q
variable {o e : Expr} {es : List Expr} {to : TE} {t : TA} {name : Str} {apos cpos : Pos} {T id : String} {r : V → List V → Hp → VK → Prop}
theorem pe_bm0 (pa : PlainAttrs T) (slot : Slot T name id) (hty : typeOf (.builtin id) = pure (.type "method_descriptor")) (hm : MtR X id r) (ho : PE X o to)
   (hbase : attributeBase o name X.env (eval o X.env) = eval o X.env := by rfl) (hline : (apos.endLine == cpos.line) = true := by rfl) : PE X (.Call (.Attribute o name apos) [] [] cpos) (tBM0 X.K T r to) := by
 intro pins s σ H Q I h
 refine wpAny_Call_method0_late hbase hline (thn (ho pins s σ H _ I h) fun v s1 ⟨x, H1, I1, r1, ty, q1⟩ => ?_)
 obtain ⟨h1, h2⟩ := tyV_is I1 r1 ty
 exact ⟨T, id, pa, slot, hty, h1, h2, Calls.callWith_builtin rfl (PySem.evalArgs_none (hm pins s1 σ H1 x [] v [] Q I1 r1 .nil q1))⟩
theorem pe_bm (pa : PlainAttrs T) (slot : Slot T name id) (hty : typeOf (.builtin id) = pure (.type "method_descriptor")) (hm : MtR X id r) (ho : PE X o to) (ha : PA X (e :: es) t)
   (hbase : attributeBase o name X.env (eval o X.env) = eval o X.env := by rfl)
   (hfew : ((backTo cpos (starEach (e :: es) X.env)).all (fun x => !x.1) && (backToKw cpos (keywordEach [] X.env)).all (fun x => x.1.isSome)
     && decide ((e :: es).length + ([] : List Keyword).length + (if ([] : List Keyword).isEmpty then 0 else 1) < 30)) = true := by rfl)
   (hline : (apos.endLine == cpos.line) = true := by rfl) (hs : starEach (e :: es) X.env = (false, eval e X.env) :: starEach es X.env := by rfl) (hplain : (backTo cpos (starEach es X.env)).any (·.1) = false := by rfl) :
   PE X (.Call (.Attribute o name apos) (e :: es) [] cpos) (tBM X.K T r to t) := by
 intro pins s σ H Q I h
 refine wpAny_Call_method_late hbase hfew hline rfl (thn (ho pins s σ H _ I h) fun v s1 ⟨x, H1, I1, r1, ty, q1⟩ => ?_)
 obtain ⟨h1, h2⟩ := tyV_is I1 r1 ty
 refine ⟨T, id, pa, slot, hty, h1, h2, ?_⟩
 have hA := ha cpos pins s1 σ H1 _ I1 q1
 rw [hs] at hA ⊢
 refine Calls.callWith_builtin (by show (false || (backTo cpos (starEach es X.env)).any (·.1)) = false; rw [hplain] <;> rfl) (Calls.evalArgs_plain ?_)
 exact thn hA fun us s2 ⟨vs, H2, I2, r2, q2⟩ => hm pins s2 σ H2 x vs v us Q I2 r1 r2 q2
end
end L2
namespace L2
open PySem PySem.Spec PyProof.Rows
noncomputable def MtM (X : Cx) (id : String) (r : V → List V → Hp → VK → Prop) : Prop :=
 ∀ (pins : List (Addr × Obj)) (s : Shared) (σ : St) (H : Hp) (x : V) (xs : List V) (v : Value) (us : List Value) (Q : VK), Inv X pins σ H s → RelV x v → Vals xs us → r x xs H Q →
   wpAny (model X.prog X.w) X.A (call (.builtin id) (v :: us)) (EP X pins σ Q) X.xe s
theorem Vals.one : ∀ {x : V} {us : List Value}, Vals [x] us → ∃ u, us = [u] ∧ RelV x u
 | _, _, .cons r .nil => ⟨_, rfl, r⟩
theorem Vals.zero : ∀ {us : List Value}, Vals [] us → us = []
 | _, .nil => rfl
theorem Vals.dropLast {xs : List V} {us : List Value} (h : Vals xs us) : Vals xs.dropLast us.dropLast := by
 induction h with
 | nil => exact .nil
 | cons r t ih =>
   cases t with
   | nil => exact .nil
   | cons q t' => exact .cons r ih
theorem Vals.reverse {xs : List V} {us : List Value} (h : Vals xs us) : Vals xs.reverse us.reverse := by
 induction h with
 | nil => exact .nil
 | cons r t ih => rw [List.reverse_cons, List.reverse_cons]; exact Vals.append ih (.cons r .nil)
theorem erase_last {α : Type} (l : List α) : l.eraseIdx (l.length - 1) = l.dropLast := by
 induction l with
 | nil => rfl
 | cons a r ih =>
   cases r with
   | nil => rfl
   | cons b r =>
     have e : (a :: b :: r).length - 1 = ((b :: r).length - 1) + 1 := by
       have h1 : (a :: b :: r).length = r.length + 2 := rfl
       have h2 : (b :: r).length = r.length + 1 := rfl
       omega
     rw [e, List.eraseIdx_cons_succ, ih]
     all_goals rfl
section
variable {X : Cx} {pins : List (Addr × Obj)} {σ : St} {H : Hp} {s : Shared} {l b : Addr} {xs ys zs : List V}
theorem Inv.lset {its its' : List Value} {n : Nat} {f : Array Value → Array Value} {t' : Nat} (I : Inv X pins σ H s) (hH : H l = some (.lst xs))
   (e : s.heap.get? l = some { cls := .type "list", data := .seq its.toArray n }) (hf : f its.toArray = its'.toArray) (hv : Vals ys its') (hz : ys.length ≤ sizeLine) :
   Inv X pins σ (upd H l (.lst ys)) { s with heap := s.heap.update l (Obj.mapSeq f), toks := t' } := by
 have q := PySem.IsL.update e f
 rw [hf] at q
 refine I.write (x := l) (e := l) (by rw [hH]; exact trivial) (.inl rfl) (fun b' u hb hu => (Heap.get?_update_other s.heap (Obj.mapSeq f) (Ne.symm hb)).trans hu) ⟨_, q⟩ ?_
 exact ⟨hz, its', _, hv, q⟩
theorem Inv.lstM (I : Inv X pins σ H s) (hH : H l = some (.lst xs)) : xs.length ≤ sizeLine ∧ ∃ (its : List Value) (n : Nat), Vals xs its ∧ xs.length = its.length ∧ s.heap.get? l = some { cls := .type "list", data := .seq its.toArray n } := by
 obtain ⟨z, its, n, r, e⟩ := I.hok l _ hH
 exact ⟨z, its, n, r, r.length, e⟩
theorem notLongL {n : Nat} (h : n ≤ sizeLine) : Builtin.List.listTooLong n = false := by
 unfold Builtin.List.listTooLong
 exact decide_eq_false (by omega)
end
section
variable {X : Cx}
noncomputable def rAppend : V → List V → Hp → VK → Prop := fun x vs H Q => ∃ l xs y, x = .ref l ∧ vs = [y] ∧ H l = some (.lst xs) ∧ xs.length < sizeLine ∧ Q .non (upd H l (.lst (xs ++ [y])))
theorem mt_append : MtM X "list.append" rAppend := by
 intro pins s σ H x vs v us Q I rx rv h
 obtain ⟨l, xs, y, rfl, rfl, hH, hz, q⟩ := h
 cases rx
 obtain ⟨u, rfl, ru⟩ := rv.one
 obtain ⟨z, its, n, r, hl, e⟩ := I.lstM hH
 refine call_meets F.slot_list_append ⟨_, e, rfl⟩ F.entry_list_append (F.args_list_append_2 _ _) (PySem.list_append l its.toArray n u (by rw [List.size_toArray]; omega)) ⟨e, ?_⟩
 refine ⟨.non, _, I.lset (its' := its ++ [u]) hH e (by simp) (r.append (.cons ru .nil)) ?_, rfl, q⟩
 rw [List.length_append, List.length_singleton]
 omega
noncomputable def rExtend : V → List V → Hp → VK → Prop := fun x vs H Q => ∃ l b xs zs, x = .ref l ∧ vs = [.ref b] ∧ H l = some (.lst xs) ∧ H b = some (.lst zs) ∧ xs.length + zs.length ≤ sizeLine ∧ Q .non (upd H l (.lst (xs ++ zs)))
theorem mt_extend : MtM X "list.extend" rExtend := by
 intro pins s σ H x vs v us Q I rx rv h
 obtain ⟨l, b, xs, zs, rfl, rfl, hH, hB, hz, q⟩ := h
 cases rx
 obtain ⟨u, rfl, ru⟩ := rv.one
 cases ru
 obtain ⟨z, its, n, r, hl, e⟩ := I.lstM hH
 obtain ⟨z2, its2, n2, r2, hl2, e2⟩ := I.lstM hB
 have hsz : its.toArray.size + its2.toArray.size ≤ sizeLine := by rw [List.size_toArray, List.size_toArray]; omega
 have hlong : ¬ (!its.toArray.isEmpty && Builtin.List.listTooLong (its.toArray.size + its2.toArray.size)) = true := by
   rw [notLongL hsz, Bool.and_false]
   exact Bool.false_ne_true
 refine call_meets F.slot_list_extend ⟨_, e, rfl⟩ F.entry_list_extend (F.args_list_extend_2 _ _)
   (AutoSeq1.list_extend_list_list_0 l its.toArray n b its2.toArray n2 hlong (by rw [List.size_toArray]; omega) (by omega)) ⟨e, e2, ?_⟩
 refine ⟨.non, _, I.lset (its' := its ++ its2) hH e (by simp) (r.append r2) ?_, rfl, q⟩
 rw [List.length_append]
 omega
noncomputable def rPop : V → List V → Hp → VK → Prop := fun x vs H Q => ∃ l xs y, x = .ref l ∧ vs = [] ∧ H l = some (.lst xs) ∧ xs[xs.length - 1]? = some y ∧ Q y (upd H l (.lst xs.dropLast))
theorem mt_pop : MtM X "list.pop" rPop := by
 intro pins s σ H x vs v us Q I rx rv h
 obtain ⟨l, xs, y, rfl, rfl, hH, hy, q⟩ := h
 cases rx
 have hus := rv.zero
 subst hus
 obtain ⟨z, its, n, r, hl, e⟩ := I.lstM hH
 obtain ⟨u, hu, ru⟩ := r.get hy
 have hy' : its.toArray[its.toArray.size - 1]? = some u := by
   show its.toArray[its.length - 1]? = some u
   rw [← Array.getElem?_toList, ← hl]
   exact hu
 refine call_meets F.slot_list_pop ⟨_, e, rfl⟩ F.entry_list_pop (F.args_list_pop_1 _) (MeetsSeq.list_pop_last l its.toArray n u hy' (by rw [List.size_toArray]; omega)) ⟨e, ?_⟩
 refine ⟨y, _, I.lset (its' := its.dropLast) hH e ?_ r.dropLast ?_, ru, q⟩
 · show its.toArray.eraseIdxIfInBounds (its.toArray.size - 1) = its.dropLast.toArray
   rw [List.size_toArray, List.eraseIdxIfInBounds_toArray, erase_last]
 · rw [List.length_dropLast]
   omega
noncomputable def rReverse : V → List V → Hp → VK → Prop := fun x vs H Q => ∃ l xs, x = .ref l ∧ vs = [] ∧ H l = some (.lst xs) ∧ Q .non (upd H l (.lst xs.reverse))
theorem mt_reverse : MtM X "list.reverse" rReverse := by
 intro pins s σ H x vs v us Q I rx rv h
 obtain ⟨l, xs, rfl, rfl, hH, q⟩ := h
 cases rx
 have hus := rv.zero
 subst hus
 obtain ⟨z, its, n, r, hl, e⟩ := I.lstM hH
 refine call_meets F.slot_list_reverse ⟨_, e, rfl⟩ F.entry_list_reverse (F.args_list_reverse_1 _) (AutoSeq1.list_reverse_list_0 l its.toArray n (by rw [List.size_toArray]; omega)) ⟨e, ?_⟩
 refine ⟨.non, _, I.lset (its' := its.reverse) hH e (by simp) r.reverse ?_, rfl, q⟩
 rw [List.length_reverse]
 omega
end
section
variable {prog : Program} {w : World} {A : Around} {E : Value → Shared → Prop} {s : Shared}
set_option maxRecDepth 100000 in
end
section
variable {X : Cx}
end
end L2
namespace Att
open PySem PySem.W PySem.Calls PyProof.Rows
theorem ints_of_wellAll {P : Params} {h : Heap} : ∀ (ns : List Int) (vs : List Value), WellAll P h vs (ns.map WData.int) → IntsAre vs ns := by
 intro ns
 induction ns with
 | nil =>
   intro vs w
   rw [List.map_nil] at w
   cases w
   exact .nil
 | cons n ns ih =>
   intro vs w
   rw [List.map_cons] at w
   cases w with
   | cons a b =>
     cases a
     exact .cons _ _ (ih _ b)
theorem script_of {l : OpenLaw} {n : Nat} (hn : l.most = some n) {P : Params} {h : Heap} {args : List WData} {vals : List Value}
   (hpre : l.row.toRowW.claim.pre args = true) (hwl : WellAll P h vals args) :
   ∃ a vs ns, vals = [Value.ref a] ∧ args = [WData.list (ns.map WData.int)] ∧ h.get? a = some { cls := .type "list", data := .seq vs.toArray } ∧ IntsAre vs ns ∧ ns.length ≤ n := by
 have hsh : WShape.hasAll [] args [.list .int] = true := (pre_splitW hpre).1
 have hc : l.pre.holds [] { args := args } = true := (pre_splitW hpre).2
 obtain ⟨d, r, rfl, h1, h2⟩ := hasAllW_cons hsh
 obtain rfl := hasAllW_nil h2
 obtain ⟨xs, rfl, h3⟩ := hasW_list h1
 obtain ⟨ns, rfl⟩ := items_int h3
 have hlen : ns.length ≤ n := by
   unfold OpenLaw.pre at hc
   have h4 : (WTm.not (.lt (.lit (.int (n : Int))) (.len (.arg 0)))).holds [] { args := [.list (ns.map .int)] } = true := by
     have h4 := (holds_andW hc).1
     rw [hn] at h4
     exact h4
   have h5 := condW_of h4 (w_not (w_lt w_lit (w_len_list (w_arg rfl))))
   rw [List.length_map] at h5
   refine Nat.le_of_not_lt fun q => ?_
   have q' : (n : Int) < ((ns.length : Nat) : Int) := by omega
   first
     | (rw [decide_eq_true q'] at h5; exact absurd h5 (by decide))
     | (simp at h5; omega)
 cases hwl with
 | cons w1 w2 =>
   cases w2
   cases w1 with
   | list ho hall => exact ⟨_, _, ns, rfl, rfl, ho, ints_of_wellAll ns _ hall, hlen⟩
theorem post_true (l : OpenLaw) (args : List WData) : l.row.toRowW.claim.post args (.bool true) args = true :=
 postW_of (r := l.row.toRowW) (X := (true == true))
   (show WShape.has [] (.bool true) .bool = true by first | rfl | decide | simp [WShape.has, WShape.arms, WShape.armsAll])
   (show (WTm.eq .res (.lit (.bool true))).value [] { args := args, res := some (.bool true), after := args } = some (.bool (true == true)) from w_eq_bool (w_res rfl) w_lit) rfl
theorem attach_call {l : OpenLaw} {n : Nat} {q : Program} {loose : List Str} {XP : (Str → Option Value) → Heap → Prop} {YP : World → Heap → Prop} {d : DefRec}
   (hn : l.most = some n) (hdf : d.params.defaults = [])
   (call : ∀ (w : World) (s₀ s₁ : Shared) (mg mb : Str → Option Value) (fa : Addr) (o : Obj) (pm cd doc : Value) (a : Addr) (vs : List Value) (ns : List Int),
     Ground q loose [] XP w s₀ mg mb s₁.heap → YP w s₁.heap →
     s₁.heap.get? fa = some o → o.data = .func (docDef d.name d.params d.body d.scope pm cd doc) → s₁.heap.CodeRec cd d.name → mg d.name = some (.ref fa) →
     s₁.heap.get? a = some { cls := .type "list", data := .seq vs.toArray } → IntsAre vs ns → ns.length ≤ n → s₁.gens = #[] →
     codeAny (model l.prog w) callerA (.call (.ref fa) ⟨[.ref a], []⟩) (fun r s' => r = .ok (.ret (.bool true)) ∧ OldK s₁.heap s'.heap ∧ s'.os = s₁.os ∧ AllBare s'.gens) s₁) :
   WalkO q loose XP YP l.row.toRowW d [] (fun f vs => PySem.call f vs) := by
 intro w s₀ s₁ mg mb G Y fa o pm cd doc dV kV ho hd hcd hD hmg hg args vals as hpre hlay hrd hwl hlo
 obtain rfl : dV = .none := Dflts.none hD hdf
 obtain rfl : kV = .none := Dflts.noKw hD
 obtain ⟨a, vs, ns, rfl, rfl, hobj, hints, hlen⟩ := script_of hn hpre hwl
 refine enter_call (codeAny_mono (call w s₀ s₁ mg mb fa o pm cd doc a vs ns G Y ho (fd_plain hd) hcd hmg hobj hints hlen hg) fun r s' hq => ?_)
 obtain ⟨rfl, h2, h3, h4⟩ := hq
 exact ⟨.inl ⟨.bool true, .bool true, [], rfl, fun _ => rfl, .bool true, post_true l _, fun _ => ⟨List.Pairwise.nil, fun _ hm => (nomatch hm)⟩⟩, h2, h3, h4⟩
section
variable {prog : Program} {w : World} {A : Around} {E : Value → Shared → Prop} {s : Shared} {K : Frag}
end
end Att
namespace L2
open PySem PySem.Spec PyProof.Rows
theorem vals_ints : ∀ {vs : List Value} {ns : List Int}, IntsAre vs ns → Vals (ns.map V.int) vs
 | _, _, .nil => .nil
 | _, _, .cons n t h => .cons ⟨t, rfl⟩ (vals_ints h)
noncomputable def Only (H : Hp) : Prop := ∀ b, H b = none ∨ ∃ o xs, H b = some (.frz o (.lst xs))
theorem law_call {P : Program} {w : World} {K : PySem.W.Frag} {mg mb : Str → Option Value} {CX : CXT} {k : Nat} {fa a : Addr} {fd : FuncData} {x : Str} {sp : Sp} {s₁ : Shared} {vs : List Value} {ns : List Int}
   (KX : K.In s₁.heap) (hns : s₁.heap.Ns mainGlobals mg) (hb : s₁.heap.Ns builtinsNs mb) (hbb : ∀ x : Str, x ≠ "__name__" → mb x = bootBuiltins x) (hlim : s₁.heap.NoLimit) (hg : s₁.gens = #[])
   (ha : s₁.heap.get? a = some { cls := .type "list", data := .seq vs.toArray }) (hi : IntsAre vs ns) (hl : ns.length ≤ sizeLine) (hr : Room k callerA)
   (F : ∀ base : Heap, K.In base → base.Ns mainGlobals mg → FnOk P w K mg base CX k fa fd [x] sp) (hbind : ∀ (s : Shared) (u : Value), BindsTo s fd ⟨[u], []⟩ [(x, u)])
   (hsp : ∀ H : Hp, Only H → SqL K H a (ns.map V.int) → sp [.ref a] H (fun v _ => v = .bl true) fun _ _ _ => False)
   (hCX : ∀ H e s', CX [] H s₁ (fun _ _ _ => False) e s' → False) :
   codeAny (model P w) callerA (.call (.ref fa) ⟨[.ref a], []⟩) (fun r s' => r = .ok (.ret (.bool true)) ∧ OldK s₁.heap s'.heap ∧ s'.os = s₁.os ∧ AllBare s'.gens) s₁ := by
 have rv := vals_ints hi
 have lenV := hi.length
 have core : ∀ H : Hp, Only H → SqL K H a (ns.map V.int) → HOk P w H s₁.heap → (∀ b, H b ≠ none → b = a) → (H a ≠ none → K.lookup a = none) →
     codeAny (model P w) callerA (.call (.ref fa) ⟨[.ref a], []⟩) (fun r s' => r = .ok (.ret (.bool true)) ∧ OldK s₁.heap s'.heap ∧ s'.os = s₁.os ∧ AllBare s'.gens) s₁ := by
   intro H hO hS hok hA hK
   have base_of : ∀ {b : Addr} {o : Obj}, s₁.heap.get? b = some o → H b = none → (hidT s₁.heap H).get? b = some o := fun e n => hidT_get e n
   have noA : ∀ {b : Addr} {o : Obj} {es : Array DictEntry} {ep : Nat}, s₁.heap.get? b = some o → o.data = .dict es ep → H b = none := fun {b o es ep} e d => by
     cases q : H b with
     | none => rfl
     | some u =>
       have e' : b = a := hA b (by rw [q]; simp)
       subst e'
       rw [ha] at e; cases e
       have d' : Data.seq vs.toArray _ = Data.dict es ep := d
       cases d'
   have nsK : ∀ {b : Addr} {m : Str → Option Value}, s₁.heap.Ns b m → (hidT s₁.heap H).Ns b m := fun {b m} ⟨o, es, ep, e, d, r⟩ => ⟨o, es, ep, base_of e (noA e d), d, r⟩
   have hKb : K.In (hidT s₁.heap H) := fun b o e => base_of (KX b o e) (by
     cases q : H b with
     | none => rfl
     | some u =>
       have e' : b = a := hA b (by rw [q]; simp)
       subst e'
       rw [hK (by rw [q]; simp)] at e; cases e)
   have hM : Mod K mg (hidT s₁.heap H) := ⟨hKb, nsK hns, ⟨mb, nsK hb, hbb⟩, let ⟨mc, h1, h2⟩ := hlim; ⟨mc, nsK h1, h2⟩⟩
   have e0 : Env0 P w K mg (hidT s₁.heap H) callerA [] s₁ H := ⟨rfl, hM, fun b o e => of_hidT e, Nat.le_of_eq (hidT_size _ _), trivial, fun b hb => absurd (show b ∈ ([] : List Addr) from hb) (by simp), hok, .of_eq hg⟩
   refine codeAny_mono ((F _ hKb (nsK hns)).run callerA [] s₁ H ⟨[.ref a], []⟩ [.ref a] [.ref a] _ _ hr e0 (hbind s₁ (.ref a)) (.cons rfl .nil) (hsp H hO hS)) fun r s' h => ?_
   cases r with
   | error e => exact (hCX H e s' h).elim
   | ok fl =>
     cases fl with
     | next => exact False.elim h
     | brk => exact False.elim h
     | cont => exact False.elim h
     | ret u =>
       obtain ⟨v, H', os, bare, un, hok', r', q⟩ := h
       have q' : v = .bl true := q
       subst q'
       obtain rfl : u = Value.bool true := r'
       refine ⟨rfl, OldK.of_keep fun b o e => ?_, os, bare⟩
       cases q : H b with
       | none => exact un.keep b o e q (by intro z; exact absurd (show b ∈ ([] : List Addr) from z) (by simp)) (by simp)
       | some u =>
         rcases hO b with z | ⟨ob, xs, z⟩
         · rw [q] at z; cases z
         · have z2 := un.frzs b ob _ z
           obtain ⟨e1, _⟩ := hok b _ z
           obtain ⟨e2, _⟩ := hok' b _ z2
           rw [e] at e1; cases e1
           exact e2
 cases hk : K.lookup a with
 | some o =>
   have e := KX a o hk
   rw [ha] at e
   cases e
   refine core (fun _ => none) (fun _ => .inl rfl) (.inr ⟨_, vs.toArray, _, hk, rfl, rfl, rfl, by rw [List.size_toArray, lenV]; exact hl, by simpa using rv⟩) (fun b u z => by have z' : (none : Option HO) = some u := z; cases z') (fun b z => absurd rfl z) fun z => absurd rfl z
 | none =>
   refine core (fun b => if b = a then some (.frz { cls := .type "list", data := .seq vs.toArray } (.lst (ns.map V.int))) else none) (fun b => ?_) (.inl (.inr ⟨{ cls := .type "list", data := .seq vs.toArray }, if_pos rfl⟩)) (fun b u z => ?_) (fun b z => ?_) fun _ => hk
   · by_cases hb : b = a
     · exact .inr ⟨_, _, if_pos hb⟩
     · exact .inl (if_neg hb)
   · by_cases hb : b = a
     · have z' := (if_pos hb).symm.trans z
       cases z'
       subst hb
       exact ⟨ha, by rw [List.length_map]; exact hl, vs, _, rv, ha⟩
     · have z' := (if_neg hb).symm.trans z
       cases z'
   · by_cases hb : b = a
     · exact hb
     · exact absurd (if_neg hb) z
end L2
namespace L2
open PySem PySem.Spec PyProof.Rows
noncomputable abbrev KOf {K : PySem.W.Frag} {h : Heap} (_ : K.In h) : PySem.W.Frag := K
theorem walk_of {l : PySem.W.OpenLaw} {n k : Nat} {q : Program} {loose : List Str} {XP : (Str → Option Value) → Heap → Prop} {YP : World → Heap → Prop} {d : DefRec} {K : Params → PySem.W.Frag} {CX : World → CXT} {sp : World → Sp} {x : Str}
   (hn : l.most = some n) (hn2 : n ≤ sizeLine) (hdf : d.params.defaults = []) (hr : Room k callerA)
   (hY : ∀ (w : World) (h : Heap), YP w h → (K w.params).In h)
   (F : ∀ (w : World) (mg : Str → Option Value) (fa : Addr) (h : Heap), (K w.params).In h → h.Ns mainGlobals mg → mg d.name = some (.ref fa) →
     ∃ fd : FuncData, (∀ (s : Shared) (u : Value), BindsTo s fd ⟨[u], []⟩ [(x, u)]) ∧
       ∀ base : Heap, (K w.params).In base → base.Ns mainGlobals mg → FnOk l.prog w (K w.params) mg base (CX w) k fa fd [x] (sp w))
   (hsp : ∀ (w : World) (H : Hp) (a : Addr) (ns : List Int), ns.length ≤ n → Only H → SqL (K w.params) H a (ns.map V.int) → sp w [.ref a] H (fun v _ => v = .bl true) fun _ _ _ => False)
   (hCX : ∀ (w : World) (H : Hp) (s : Shared) (e : Value) (s' : Shared), CX w [] H s (fun _ _ _ => False) e s' → False) :
   PySem.W.WalkO q loose XP YP l.row.toRowW d [] (fun f vs => PySem.call f vs) := by
 refine Att.attach_call hn hdf fun w s₀ s₁ mg mb fa o pm cd doc a vs ns G Y ho hd hcd hmg hobj hints hlen hg => ?_
 have KX := hY w _ Y
 obtain ⟨fd, hb, hF⟩ := F w mg fa _ KX G.T.g hmg
 exact law_call KX G.T.g G.T.b G.T.builtins G.T.nolimit hg hobj hints (Nat.le_trans hlen hn2) hr hF hb (fun H hO hS => hsp w H a ns hlen hO hS) fun H e s' => hCX w H s₁ e s'
end L2
namespace L2
open PySem PySem.Spec PyProof.Rows
noncomputable def defArgs (s : Stmt) : Arguments := match s with
 | .FunctionDef _ a _ _ _ _ _ _ _ _ => a
 | _ => { posonlyargs := [], args := [], vararg := none, kwonlyargs := [], kw_defaults := [], kwarg := none, defaults := [] }
noncomputable def defBody (s : Stmt) : List Stmt := match s with
 | .FunctionDef _ _ b _ _ _ _ _ _ _ => b
 | _ => []
noncomputable def defScope (s : Stmt) : Scope := match s with
 | .FunctionDef _ _ _ _ _ _ sc _ _ _ => sc
 | _ => { kind := .function, names := [], isGenerator := false, isCoroutine := false }
noncomputable abbrev CX0 : CXT := fun _ _ _ _ _ _ => False
noncomputable abbrev E0 : XK := fun _ _ _ => False
theorem pass0 {X : Cx} : Passes CX0 X E0 := fun _ _ _ _ _ _ _ h => h.elim
structure Fun (K : PySem.W.Frag) (x qual : Str) (st : Stmt) (f : Addr) (fd : FuncData) : Prop where
 ex : ∃ (oc : Value) (od : Option Addr) (kV doc pm : Value) (an : Option Addr) (cdv ct : Value) (osl : Array (Option Value)),
   fd = PySem.W.fnOf x qual (defArgs st) (defBody st) (defScope st) .none kV doc pm an cdv ct ∧ K.lookup f = some ⟨oc, od, .func fd, osl⟩ ∧ PySem.W.codeIn K cdv qual = true
 kp : PySem.W.keepIn K (.ref f) = true
section
variable {P : Program} {w : World} {K : PySem.W.Frag} {mg : Str → Option Value} {base : Heap}
theorem Fun.ok {x qual : Str} {st : Stmt} {f : Addr} {fd : FuncData} {N ps : List Str} {k : Nat} {sp : Sp} (F : Fun K x qual st f fd) (S : FnScope N ps (defScope st)) (len : ∀ vs H Q E, sp vs H Q E → vs.length = ps.length)
   (hbody : ∀ (cdv : Value) (A : Around) (outer : List Env) (s : Shared) (H : Hp) (vs : List V) (Q : VK) (E : XK), Room k (A.deeper (envOfC qual (defScope st) s.heap.objs.size f cdv)) → sp vs H Q E →
     ∃ t, PSs (cxOf CX0 P w K mg base N qual (defScope st) f cdv A outer s H E).nox (defBody st) t ∧ t { nx := fun _ H' => Q .non H', rt := Q } (start N vs) H) : FnOk P w K mg base CX0 (k + 1) f fd ps sp := by
 obtain ⟨oc, od, kV, doc, pm, an, cdv, ct, osl, rfl, lk, hcd⟩ := F.ex
 refine fn_of lk hcd S len fun A outer s H vs Q E hr hsp => ?_
 obtain ⟨t, h, q⟩ := hbody cdv A outer s H vs Q E hr hsp
 exact ⟨t, h.nox, q⟩
theorem Fun.binds {x qual : Str} {st : Stmt} {f : Addr} {fd : FuncData} {ps : List Str} (F : Fun K x qual st f fd)
   (h : ∀ (kV doc pm : Value) (an : Option Addr) (cdv ct : Value) (us : List Value), us.length = ps.length → bindArgs (PySem.W.fnOf x qual (defArgs st) (defBody st) (defScope st) .none kV doc pm an cdv ct) ⟨us, []⟩ = pure (ps.zip us)) : Binds K fd ps [] := by
 obtain ⟨oc, od, kV, doc, pm, an, cdv, ct, osl, rfl, lk, hcd⟩ := F.ex
 exact .all (h kV doc pm an cdv ct)
theorem fun_mk {x qual : Str} {st : Stmt} {f : Addr} {oc : Value} {od an : Option Addr} {osl : Array (Option Value)} {kV doc pm cdv ct : Value} (l : K.lookup f = some ⟨oc, od, .func (PySem.W.fnOf x qual (defArgs st) (defBody st) (defScope st) .none kV doc pm an cdv ct), osl⟩)
   (c : PySem.W.codeIn K cdv qual = true) (k : PySem.W.keepIn K (.ref f) = true) : Fun K x qual st f (PySem.W.fnOf x qual (defArgs st) (defBody st) (defScope st) .none kV doc pm an cdv ct) := ⟨⟨oc, od, kV, doc, pm, an, cdv, ct, osl, rfl, l, c⟩, k⟩
end
theorem hu_of {A : Around} {k : Nat} (hr : Room k A) : A.units + 1 < cLine := Nat.lt_of_le_of_lt (Nat.add_le_add_left (by decide : 1 ≤ 64) _) hr.units
theorem small1000 {n : Nat} (h : n ≤ 1000) : n < sizeLine := Nat.lt_of_le_of_lt h (by decide)
section
variable {X : Cx}
theorem pv (i : Nat) {x : Str} {pos : Pos} (hN : X.N[i]? = some x := by rfl) (hv : Vis X.env.scope x := by first | exact Or.inl rfl | exact Or.inr (Or.inl rfl) | exact Or.inr (Or.inr rfl)) (hd : (x == ("__debug__" : Str)) = false := by decide)
   (hcd : (x == ("__classdict__" : Str)) = false := by decide) : PE X (.Name x pos) (tVar i) := pe_var hN hv hd hcd
end
theorem iteF {A B : Prop} (h : B) : if false = true then A else B := by
 rw [if_neg Bool.false_ne_true]
 exact h
theorem iteT {A B : Prop} (h : A) : if true = true then A else B := by
 rw [if_pos rfl]
 exact h
theorem ite2 {c A B : Prop} [Decidable c] (h1 : c → A) (h2 : ¬ c → B) : if c then A else B := by
 by_cases h : c
 · rw [if_pos h]
   exact h1 h
 · rw [if_neg h]
   exact h2 h
theorem iteNS {c A B : Prop} [Decidable c] (hc : c) (h : B) : if (!decide c) = true then A else B := by
 rw [decide_eq_true hc]
 exact iteF h
noncomputable def Same (H H' : Hp) : Prop := ∀ b o, H b = some o → H' b = some o
theorem Same.refl (H : Hp) : Same H H := fun _ _ h => h
theorem Same.trans {H H1 H2 : Hp} (a : Same H H1) (b : Same H1 H2) : Same H H2 := fun c o h => b c o (a c o h)
theorem Same.free {H H' : Hp} (e : Same H H') {l : Addr} (h : H' l = Option.none) : H l = Option.none := by
 cases q : H l with
 | none => rfl
 | some o =>
   rw [e l o q] at h
   cases h
theorem Same.seq {K : PySem.W.Frag} {H H' : Hp} {a : Addr} {xs : List V} (e : Same H H') (h : SqL K H a xs) : SqL K H' a xs := by
 rcases h with (h | ⟨o, h⟩) | h
 · exact .inl (.inl (e _ _ h))
 · exact .inl (.inr ⟨o, e _ _ h⟩)
 · exact .inr h
end L2
set_option Elab.async false
set_option linter.all false
set_option maxRecDepth 100000
set_option maxHeartbeats 16000000
namespace L2
open PySem PySem.Spec PyProof.Rows
section
variable {X : Cx} {pins : List (Addr × Obj)} {σ : List (Option V)} {H : Hp} {s : Shared} {h' : Heap}
theorem Inv.turnedL {t' : Nat} {ch : List Addr} (I : Inv X pins σ H s) (k : ∀ b o, b ∉ ch → s.heap.get? b = some o → h'.get? b = some o) (hf : ∀ b ∈ ch, FpOk X pins H b) :
   Inv X pins σ H { s with heap := h', toks := t' } := by
 have nit : ∀ b u, H b = some u → b ∉ ch := fun b u e z => by rw [(hf b z).1] at e; cases e
 refine I.step (g' := s.gens) (d' := s.drawn) (ch := ch) (fun b hb => ?_) (fun b o _ _ hc e _ => k b o hc e) (fun b o _ _ hc e _ => ⟨o.slots, k b o hc e⟩) (fun _ _ _ _ n => n)
   (fun b o hc e => ⟨o, k b o hc e⟩) (fun _ _ e => e) (fun _ _ _ e => e) (fun b ps e => ⟨#[], by rw [e]; simp⟩) (fun m hm => ?_) (fun b u e => ?_) I.bare
 · obtain ⟨_, h1, _, h2, h3, h4⟩ := hf b hb
   exact ⟨h2, h1, h3, h4⟩
 · obtain ⟨o, es, ep, ho, r⟩ := hm
   exact ⟨o, es, ep, k _ o (fun z => (hf _ z).2.1 rfl) ho, r⟩
 · refine (I.hok b u e).stay (fun c v hc q => k c v ?_ q) (fun _ q => q) fun _ _ q => q
   rcases hc with z | z
   · rw [z]; exact nit b u e
   · exact nit c _ z
theorem Inv.track {T : Addr} {o : HO} (I : Inv X pins σ H s) (hf : FpOk X pins H T) (new : ObjOk X.prog X.w (upd H T o) s.heap T o) : Inv X pins σ (upd H T o) s := by
 obtain ⟨h0, h1, h5, h2, h3, h4⟩ := hf
 have nT : ∀ b u, H b = some u → b ≠ T := fun b u e z => by rw [z, h0] at e; cases e
 refine I.step (h' := s.heap) (g' := s.gens) (d' := s.drawn) (t' := s.toks) (ch := [T]) (fun b hb => ?_) (fun b o _ _ hc e _ => e) (fun b o _ _ hc e _ => ⟨o.slots, e⟩)
   (fun b o hc _ n => by rw [upd_ne (fun z => hc (by simp [z]))]; exact n)
   (fun b o hc e => ⟨o, e⟩) (fun b xs e => by rw [upd_ne (nT _ _ e)]; exact e) (fun b ob u e => by rw [upd_ne (nT _ _ e)]; exact e) (fun b ps e => ⟨#[], by rw [upd_ne (nT _ _ e), e]; simp⟩) (fun m hm => hm) (fun b u e => ?_) I.bare
 · have e : b = T := by simpa using hb
   subst e
   exact ⟨h2, h1, h3, h4⟩
 · by_cases hb : b = T
   · subst hb; rw [upd_same] at e; cases e; exact new
   · rw [upd_ne hb] at e
     exact (I.hok b u e).stay (fun c v _ q => q) (fun c q => by rw [upd_ne (nT _ _ q)]; exact q) fun c xs q => by rw [upd_ne (nT _ _ q)]; exact q
end
section
variable {X : Cx}
theorem call_isinst : CallR X (.builtin "isinstance") (fun xs H Q => ∃ x t T b, xs = [x, .ty T] ∧ TyOf X.K H x t ∧ PySem.W.kitOne X.K t (.type T) = some b ∧ Q (.bl b) H) := by
 intro pins s σ H xs us Q I r h
 obtain ⟨x, t, T, b, rfl, ty, e, q⟩ := h
 obtain ⟨u, w', rfl, rx, ry⟩ := vals2 r
 cases (show w' = Value.type T from ry)
 exact isinst_ok I rx ty e fun tk => ⟨.bl b, H, I.tok _, rfl, q⟩
noncomputable def rCatA (K : PySem.W.Frag) : R2 := fun x y H Q => ∃ a b xs ys, x = .ref a ∧ y = .ref b ∧ SqT K H a xs ∧ SqT K H b ys ∧ xs.length + ys.length ≤ sizeLine ∧
 (xs = [] → Q (.ref b) H) ∧ (xs ≠ [] → ys = [] → Q (.ref a) H) ∧ (xs ≠ [] → ys ≠ [] → ∀ p, H p = none → Q (.ref p) (upd H p (.tup (xs ++ ys))))
theorem op_catA : OpR X (binaryOp .Add) (rCatA X.K) := by
 intro pins s σ H x y v u Q I rx ry h
 obtain ⟨a, b, xs, ys, rfl, rfl, ha, hb, hz, q0, q1, q2⟩ := h
 cases rx
 cases ry
 by_cases hx : xs = []
 · obtain ⟨its, r1, p1, _⟩ := I.tuple ha
   obtain ⟨its2, r2, p2, _⟩ := I.tuple hb
   obtain ⟨⟨cls, dd, data, sl⟩, ho, hc, n, hd⟩ := id p1
   obtain ⟨⟨cls2, dd2, data2, sl2⟩, ho2, hc2, n2, hd2⟩ := id p2
   simp only at hc hd hc2 hd2
   subst hc hd hc2 hd2
   have hv : its = [] := r1.nil_iff.mpr hx
   exact concat_meets ⟨_, ho, rfl⟩ ⟨_, ho2, rfl⟩ noFill_tuple_add seq_tuple_add PySem.F.slot_tuple_add PySem.F.entry_tuple_add (PySem.F.args_tuple_add_2 _ _)
     (tuple_addW0 a b its.toArray its2.toArray n n2 dd dd2 sl sl2 (by simp [hv])) ⟨ho, ho2, ⟨.ref b, H, I, rfl, q0 hx⟩⟩
 · exact op_catT pins s σ H (.ref a) (.ref b) (.ref a) (.ref b) Q I rfl rfl ⟨a, b, xs, ys, rfl, rfl, ha, hb, hx, hz, q1 hx, q2 hx⟩
theorem eqV_refl : ∀ {x : V}, flatV x = true → eqV x x = true
 | .non, _ => by rfl
 | .bl b, _ => by simp [eqV]
 | .int i, _ => by simp [eqV]
 | .str z, _ => by simp [eqV]
 | .byt _, h => by first | exact absurd (show false = true from h) Bool.false_ne_true | simp [eqV]
 | .flt _, h => by first | exact absurd (show false = true from h) Bool.false_ne_true | simp [eqV]
 | .ref _, h => by first | exact absurd (show false = true from h) Bool.false_ne_true | simp [eqV]
 | .ty _, h => by first | exact absurd (show false = true from h) Bool.false_ne_true | simp [eqV]
theorem same_items {A : Around} {s : Shared} {xs : List V} {its its2 : List Value} (r1 : Vals xs its) (r2 : Vals xs its2) (hf : xs.all flatV = true) :
   ∀ j (h1 : j < its.toArray.size) (h2 : j < its2.toArray.size), SeqAt.EqAt A s its.toArray[j] its2.toArray[j] true := by
 intro j h1 h2
 have hl := r1.length
 have hj : j < xs.length := by simpa [hl] using h1
 have hx : xs[j]? = some xs[j] := by simp [hj]
 obtain ⟨u, hu, ru⟩ := r1.get hx
 obtain ⟨u2, hu2, ru2⟩ := r2.get hx
 have fx : flatV xs[j] = true := List.all_eq_true.mp hf _ (List.getElem_mem hj)
 have e1 : its.toArray[j] = u := by
   have : its[j]? = some its.toArray[j] := by simp at h1; simp [h1]
   rw [hu] at this; exact (Option.some.inj this).symm
 have e2 : its2.toArray[j] = u2 := by
   have : its2[j]? = some its2.toArray[j] := by simp at h2; simp [h2]
   rw [hu2] at this; exact (Option.some.inj this).symm
 rw [e1, e2]
 have := eqAt_V (A := A) (s := s) ru ru2 fx fx
 rw [eqV_refl fx] at this
 exact this
end
end L2
namespace ET
open PySem PySem.Spec
open PySem.AutoSeq1 (wpAny_loadPart')
section
variable {prog : Program} {w : World} {A : Around} {E : Value → Shared → Prop} {s : Shared}
theorem nextOf_tuple_item {it l : Addr} {i : Nat} {items : Array Value} {x : Value} {Q : Value → Shared → Prop} (hit : s.heap.IsTupleIter it l i)
   (hl : s.heap.IsTuple l items) (hx : items[i]? = some x)
   (hQ : ∀ h', h'.IsTupleIter it l (i + 1) → Heap.SameBut it s.heap h' → Q x { s with heap := h' }) :
   wpAny (model prog w) A (Builtin.SmallTypes.nextOf (.ref it)) Q E s := by
 obtain ⟨o, ho, hc, hd⟩ := id hit
 obtain ⟨ol, hol, _, nl, hdl⟩ := hl
 unfold Builtin.SmallTypes.nextOf
 refine wpAny_bind (wpAny_callSpecial?_slot (name := Str.ofString "__next__") hit.typeIs F.slot_tuple_iterator_next
   (wpAny_call_entry F.slot_tuple_iterator_next hit.typeIs F.entry_tuple_iterator_next ?_ (F.args_tuple_iterator_next_1 _)))
 show wpAny _ _ (field (.ref it) 0 >>= _) _ _ s
 refine wpAny_bind (wpAny_field ho hd (x := .ref l) rfl ?_)
 show wpAny _ _ (if (Value.ref l == Value.none) = true then _ else _) _ _ s
 rw [if_neg (show ¬ ((Value.ref l == Value.none) = true) from Bool.false_ne_true)]
 show wpAny _ _ (field (.ref it) 1 >>= _) _ _ s
 refine wpAny_bind (wpAny_field ho hd (x := .int i 0) rfl ?_)
 show wpAny _ _ (seqItems? (.ref l) >>= _) _ _ s
 refine wpAny_bind (wpAny_seqItems hol hdl ?_)
 simp only [Int.toNat_natCast, hx]
 refine wpAny_bind (wpAny_setField ho hd (by simp) (wpAny_pure ⟨x, rfl, wpAny_pure (hQ _ ?_ (Heap.SameBut.update ..))⟩))
 exact ⟨_, Heap.get?_update_self _ ho (Obj.isFreed_of_fields (Obj.data_mapFields hd _)), (Obj.cls_mapFields ..).trans hc, by
   rw [Obj.data_mapFields hd]; simp [rawInt]⟩
theorem nextOf_tuple_end {it l : Addr} {i : Nat} {items : Array Value} {Q : Value → Shared → Prop} (hh : A.handled = none)
   (hit : s.heap.IsTupleIter it l i) (hl : s.heap.IsTuple l items) (hx : items[i]? = none)
   (hE : ∀ h' e, Heap.ExtBut it s.heap h' → (∃ o, h'.get? e = some o ∧ o.cls = .type "StopIteration") → E (.ref e) { s with heap := h' }) :
   wpAny (model prog w) A (Builtin.SmallTypes.nextOf (.ref it)) Q E s := by
 obtain ⟨o, ho, hc, hd⟩ := id hit
 obtain ⟨ol, hol, _, nl, hdl⟩ := hl
 unfold Builtin.SmallTypes.nextOf
 refine wpAny_bind (wpAny_callSpecial?_slot (name := Str.ofString "__next__") hit.typeIs F.slot_tuple_iterator_next
   (wpAny_call_entry F.slot_tuple_iterator_next hit.typeIs F.entry_tuple_iterator_next ?_ (F.args_tuple_iterator_next_1 _)))
 show wpAny _ _ (field (.ref it) 0 >>= _) _ _ s
 refine wpAny_bind (wpAny_field ho hd (x := .ref l) rfl ?_)
 show wpAny _ _ (if (Value.ref l == Value.none) = true then _ else _) _ _ s
 rw [if_neg (show ¬ ((Value.ref l == Value.none) = true) from Bool.false_ne_true)]
 show wpAny _ _ (field (.ref it) 1 >>= _) _ _ s
 refine wpAny_bind (wpAny_field ho hd (x := .int i 0) rfl ?_)
 show wpAny _ _ (seqItems? (.ref l) >>= _) _ _ s
 refine wpAny_bind (wpAny_seqItems hol hdl ?_)
 simp only [Int.toNat_natCast, hx]
 refine wpAny_bind (wpAny_rule (wpAny_bind (wpAny_setField ho hd (by simp) ?_)))
 show wpAny _ _ (newExc (.type "StopIteration") [] >>= _) _ _ _
 refine wpAny_bind ?_
 simp only [newExc, newTuple]
 refine wpAny_bind (wpAny_newObj_type ?_ (by size_fits))
 refine wpAny_bind (m := firstArgMember _ _) (wpAny_of_eq (a := Value.none) (by first | rfl | (simp only [firstArgMember]; rfl)) ?_)
 refine wpAny_newObj_type ?_ (by size_fits)
 simp only [raiseNew]
 refine wpAny_bind (wpAny_handled ?_)
 first | rw [show A.in1.handled = none from hh] | rw [hh]
 refine wpAny_bind (wpAny_pure (wpAny_throw ?_))
 exact hE _ _ (((Heap.SameBut.update ..).extBut.push _).push _) ⟨_, Heap.get?_push_size _ rfl, rfl⟩
end
theorem draws_tuple {prog : Program} {w : World} {A : Around} (hh : A.handled = none) (it l : Addr) (hne : l ≠ it) (items : Array Value) :
   Draws prog w A it [it, l] items.size (fun i v => items[i]? = some v) (fun i h => h.IsTupleIter it l i ∧ h.IsTuple l items) where
 live := fun _ _ st => let ⟨o, ho, _⟩ := st.1; ⟨o, ho⟩
 frame := fun _ _ _ st hk => ⟨let ⟨o, ho, r⟩ := st.1; ⟨o, hk it (by simp) o ho, r⟩, let ⟨o, ho, r⟩ := st.2; ⟨o, hk l (by simp) o ho, r⟩⟩
 item := fun i s Q E hi st hQ => by
   refine nextOf_tuple_item st.1 st.2 (x := items[i]) (by simp [hi]) fun h' hit' hs' => ?_
   exact hQ _ h' s.toks (by simp [hi]) ⟨hit', st.2.extBut hs'.extBut hne⟩ hs'
 done := fun s Q E st hE => nextOf_tuple_end hh st.1 st.2 (by simp) hE
theorem meets_enumerate_newT (l : Addr) (items : Array Value) (n : Nat) (dct : Option Addr) (sl : Array (Option Value)) :
   Meets (Builtin.«enumerate.__new__» ⟨[.type "enumerate", .ref l], []⟩) (fun _ R s => s.heap.get? l = some { cls := .type "tuple", dict := dct, data := .seq items n, slots := sl } ∧
     R (.ok (.ret (.ref (s.heap.push { cls := .type "tuple_iterator", data := .fields #[.ref l, .int 0 0] }).objs.size)))
       { s with heap := (s.heap.push { cls := .type "tuple_iterator", data := .fields #[.ref l, .int 0 0] }).push { cls := .type "enumerate", data := .fields #[.none, .bool false, .ref s.heap.objs.size, rawInt 0, .none, .none] } }) :=
 .of_wp fun prog w A R s h => by
   obtain ⟨hp, g, d, tk, os⟩ := s; obtain ⟨hl, h⟩ := h
   have hsub := sub_enumerate
   have hL : Heap.IsTuple (Shared.heap ⟨hp, g, d, tk, os⟩) l items := ⟨_, hl, rfl, n, rfl⟩
   wp_walk using wpAny_loadPart' hl
   refine wpAny_stack_any fun st => wpAny_pure ?_
   split
   · rename_i c _ _ _ _ _
     cases (c == Value.type "enumerate")
     · wp_walk using wpAny_loadPart' hl, wpAny_pyIter_tuple hL
       exact ⟨_, rfl, h⟩
     · wp_walk using wpAny_loadPart' hl, wpAny_pyIter_tuple hL
       exact ⟨_, rfl, h⟩
   · wp_walk using wpAny_loadPart' hl, wpAny_pyIter_tuple hL
     exact ⟨_, rfl, h⟩
theorem call_enumerate_tuple {prog : Program} {w : World} {A : Around} {E : Value → Shared → Prop} {s : Shared} {l : Addr} {items : Array Value} {Q : Value → Shared → Prop} (hL : s.heap.IsTuple l items)
   (h : ∀ h', IsEnum h' (s.heap.objs.size + 1) s.heap.objs.size 0 .none → h'.IsTupleIter s.heap.objs.size l 0 → h'.objs.size = s.heap.objs.size + 2 →
     (∀ b o, s.heap.get? b = some o → h'.get? b = some o) → Q (.ref (s.heap.objs.size + 1)) { s with heap := h' }) :
   wpAny (model prog w) A (call (.type "enumerate") [.ref l]) Q E s := by
 obtain ⟨⟨c, dct, dt, sl⟩, hl, hc, n, hd⟩ := hL
 replace hc : c = .type "tuple" := hc
 replace hd : dt = .seq items n := hd
 subst hc hd
 refine callType_new F.called_enumerate (by decide) (F.typeCall_enumerate_1 _) (F.newCall_enumerate_1 _) (fun obj => F.args_object_init_2 obj _) F.entry_enumerate_new
   (meets_enumerate_newT l items n dct sl) ⟨hl, ?_⟩
 have hz : (s.heap.push { cls := .type "tuple_iterator", data := .fields #[.ref l, .int 0 0] }).objs.size = s.heap.objs.size + 1 := Heap.size_push ..
 show _ ∧ _
 rw [hz]
 have he : IsEnum ((s.heap.push { cls := .type "tuple_iterator", data := .fields #[.ref l, .int 0 0] }).push
     { cls := .type "enumerate", data := .fields #[.none, .bool false, .ref s.heap.objs.size, rawInt 0, .none, .none] }) (s.heap.objs.size + 1) s.heap.objs.size 0 .none := by
   have := Heap.get?_push_size (s.heap.push { cls := .type "tuple_iterator", data := .fields #[.ref l, .int 0 0] })
     (o := { cls := .type "enumerate", data := .fields #[.none, .bool false, .ref s.heap.objs.size, rawInt 0, .none, .none] }) rfl
   rw [hz] at this; exact this
 refine ⟨⟨_, he, rfl⟩, h _ he ⟨_, Heap.get?_push_of_some _ (Heap.get?_push_size _ rfl), rfl, rfl⟩ (by rw [Heap.size_push, hz]) fun b o x => Heap.get?_push_of_some _ (Heap.get?_push_of_some _ x)⟩
end ET
namespace L2
open PySem PySem.Spec PyProof.Rows
noncomputable def Ite (K : PySem.W.Frag) (a : Addr) : It :=
 ⟨fun i H => ∃ xs x, SqT K H a xs ∧ xs[i]? = some x,
  fun i H x H' => ∃ p v, (∀ xs, SqT K H a xs → xs[i]? = some v) ∧ H p = none ∧ x = .ref p ∧ H' = upd H p (.tup [.int i, v]),
  fun i H => ∃ xs, SqT K H a xs ∧ xs.length = i⟩
theorem turn_enumT {P : Program} {w : World} {K : PySem.W.Frag} {elts : List Expr} {k : Nat} {pos : Pos} (a e it : Addr) (hei : e ≠ it) :
   Turn P w K (.Tuple elts k pos) (Ite K a) [e, it] e (fun i h => (∃ old, IsEnum h e it i old) ∧ h.IsTupleIter it a i) where
 mem := by simp
 obj := fun i h st b hb => by
   obtain ⟨⟨old, he⟩, o, ho, hc, hd⟩ := st
   rcases List.mem_cons.mp hb with z | hb
   · subst z
     exact ⟨_, he, fun v z => by
       have z' : Data.fields _ = Data.cell v := z
       cases z'⟩
   · obtain z := List.mem_singleton.mp hb
     subst z
     exact ⟨o, ho, fun v z => by rw [hd] at z; cases z⟩
 keep := fun i h h' st kk => by
   obtain ⟨⟨old, he⟩, o, ho, r⟩ := st
   exact ⟨⟨old, kk e (by simp) _ he⟩, o, kk it (by simp) o ho, r⟩
 item := by
   intro X hP hw hK hc i pins s σ H E I hf st hg
   subst hP hw hK
   obtain ⟨xs, x, hq, hx⟩ := hg
   obtain ⟨its, rv, p, hz⟩ := I.tuple hq
   obtain ⟨u, hu, ru⟩ := rv.get hx
   obtain ⟨⟨old, he⟩, hit⟩ := st
   have ht : s.heap.IsTuple a its.toArray := p
   have hai : a ≠ it := by
     intro z
     obtain ⟨o, ho, hc1, _⟩ := id hit
     obtain ⟨o2, ho2, hc2, _⟩ := id ht
     rw [z, ho] at ho2
     cases ho2
     rw [hc1] at hc2
     exact absurd hc2 (by decide)
   have hae : a ≠ e := by
     intro z
     obtain ⟨o2, ho2, hc2, _⟩ := id ht
     have he' := he
     unfold IsEnum at he'
     rw [z, he'] at ho2
     cases ho2
     exact absurd (show Value.type "enumerate" = Value.type "tuple" from hc2) (by decide)
   have D := ET.draws_tuple (prog := X.prog) (w := X.w) (A := X.A.in1) (show X.A.in1.handled = none from I.ok.hd hc) it a hai its.toArray
   have hef : e ∉ [it, a] := by
     intro z
     rcases List.mem_cons.mp z with z | z
     · exact hei z
     · exact hae (List.mem_singleton.mp z).symm
   have W := WalksT.enumerateD D e hei hef (by simp)
   have hlt : i < its.toArray.size := by
     have h1 := (List.getElem?_eq_some_iff.mp hu).1
     simpa using h1
   refine W.item i s _ _ hlt ⟨⟨old, he⟩, hit, ht⟩ fun T vals h' tk hP hT hTup hM hk => ?_
   obtain ⟨t, y, hy, rfl⟩ := hP
   have ey : y = u := by
     have : its[i]? = some y := by simpa using hy
     rw [hu] at this
     exact (Option.some.inj this).symm
   subst ey
   have I1 : Inv X pins σ H { s with heap := h', toks := tk } := I.turnedL (ch := [e, it]) hk hf
   have hHT : H T = none := I.hok.fresh hT
   have fT : FpOk X pins H T := I.fpOk hT hHT
   refine ⟨_, rfl, ?_⟩
   refine W.go elts k pos i T { s with heap := h', toks := tk } _ _ hM fun h2 st2 hk2 => ?_
   have I2' := I1.turnedL (h' := h2) (t' := tk) (ch := [e, it]) hk2 hf
   have I2 : Inv X pins σ H { s with heap := h2, toks := tk } := I2'
   have hT2 : h2.IsTuple T #[.int i t, y] := by
     obtain ⟨o, ho, r⟩ := hTup
     exact ⟨o, hk2 T o (W.apart i T h' hM) ho, r⟩
   have I3 : Inv X pins σ (upd H T (.tup [.int i, x])) { s with heap := h2, toks := tk } :=
     I2.track fT ⟨by show 2 ≤ sizeLine; decide, [.int i t, y], .cons ⟨t, rfl⟩ (.cons ru .nil), hT2⟩
   refine ⟨.ref T, _, I3, rfl, ⟨T, x, fun ys hy' => by rw [I.tuple_inj hy' hq]; exact hx, hHT, rfl, rfl⟩, ⟨by simpa using st2.1, st2.2.1⟩, fun b hb => ?_⟩
   rw [upd_ne (fun z => W.apart i T h' hM (by rw [← z]; exact hb))]
   exact (hf b hb).1
 done := by
   intro X hP hw hK hc i pins s σ H E I hf st hg
   subst hP hw hK
   obtain ⟨xs, hq, hx⟩ := hg
   obtain ⟨its, rv, p, hz⟩ := I.tuple hq
   obtain ⟨⟨old, he⟩, hit⟩ := st
   have ht : s.heap.IsTuple a its.toArray := p
   have hai : a ≠ it := by
     intro z
     obtain ⟨o, ho, hc1, _⟩ := id hit
     obtain ⟨o2, ho2, hc2, _⟩ := id ht
     rw [z, ho] at ho2
     cases ho2
     rw [hc1] at hc2
     exact absurd hc2 (by decide)
   have hae : a ≠ e := by
     intro z
     obtain ⟨o2, ho2, hc2, _⟩ := id ht
     have he' := he
     unfold IsEnum at he'
     rw [z, he'] at ho2
     cases ho2
     exact absurd (show Value.type "enumerate" = Value.type "tuple" from hc2) (by decide)
   have D := ET.draws_tuple (prog := X.prog) (w := X.w) (A := X.A.in1) (show X.A.in1.handled = none from I.ok.hd hc) it a hai its.toArray
   have hef : e ∉ [it, a] := by
     intro z
     rcases List.mem_cons.mp z with z | z
     · exact hei z
     · exact hae (List.mem_singleton.mp z).symm
   have W := WalksT.enumerateD D e hei hef (by simp)
   have hl := rv.length
   have hn : i = its.toArray.size := by simp; omega
   refine W.done s _ _ ⟨⟨old, by rw [← hn]; exact he⟩, by rw [← hn]; exact hit, ht⟩ fun h' tk hk => ⟨rfl, ?_⟩
   exact I.turnedL (ch := [e, it]) hk hf
 self := fun _ _ _ _ _ st h => by
   obtain ⟨⟨old, he⟩, _⟩ := st
   exact wpAny_pyIter_enum he h
section
variable {X : Cx} {elts : List Expr} {k : Nat} {tpos : Pos}
noncomputable def iEnum (K : PySem.W.Frag) (ta : TA) : TI := fun σ H R => ta σ H fun vs H1 => ∃ a, vs = [.ref a] ∧ (∃ xs, SqT K H1 a xs) ∧ R (Ite K a) H1
theorem pi_enumT {a : Expr} {ta : TA} {p pos : Pos} (hg : Gl X "enumerate") (hm : X.mg "enumerate" = none) (ha : PA X [a] ta) (hs : starEach [a] X.env = [(false, eval a X.env)] := by rfl) :
   PI X (.Tuple elts k tpos) (.Call (.Name "enumerate" p) [a] [] pos) (iEnum X.K ta) := by
 intro pins s σ H R I h
 refine Call_ (ld_blt I hg hm boot_enumerate (PyProof.Rows.callWith_type1 (thn (ha pos pins s σ H _ I h) fun us s1 ⟨vs, H1, I1, r1, q1⟩ => ?_) hs rfl))
 obtain ⟨a, e, ⟨xs, hq⟩, q⟩ := q1
 subst e
 cases r1 with
 | cons r rr =>
   cases rr
   cases r
   obtain ⟨its, rv, p, hz⟩ := I1.tuple hq
   refine ET.call_enumerate_tuple (show s1.heap.IsTuple a its.toArray from p) fun h' he hit hsz hk => ?_
   have I2 : Inv X pins σ H1 { s1 with heap := h' } := I1.kept (t' := s1.toks) hk
   refine wpAny_pyIter_enum he ?_
   refine ⟨s1.heap.objs.size + 1, [s1.heap.objs.size + 1, s1.heap.objs.size], _, _, H1, rfl, I2, turn_enumT a (s1.heap.objs.size + 1) s1.heap.objs.size (Nat.succ_ne_self _), ⟨⟨_, he⟩, hit⟩, fun b hb => ?_, q⟩
   have hb' : s1.heap.objs.size ≤ b := by
     rcases List.mem_cons.mp hb with z | z
     · rw [z]; exact Nat.le_succ _
     · rw [List.mem_singleton.mp z]; exact Nat.le_refl _
   exact I1.fpOk hb' (I1.hok.fresh hb')
end
theorem for_enum {K : PySem.W.Frag} {a : Addr} {xs : List V} {g : TG} {tb : TS} {D : Ends} {σ : St} {H : Hp} (Pv : Nat → St → Hp → Prop) (h0 : Pv 0 σ H) (hl : ∀ i σ H, i ≤ xs.length → Pv i σ H → SqT K H a xs)
   (hs : ∀ i x p σ H, xs[i]? = some x → Pv i σ H → H p = none → g (.ref p) σ (upd H p (.tup [.int i, x])) fun σ2 H2 => tb { D with nx := Pv (i + 1), ct := Pv (i + 1), bk := D.nx } σ2 H2) (hd : ∀ σ H, Pv xs.length σ H → D.nx σ H) :
   ∃ W : Nat → Nat → St → Hp → Prop, (∃ m, W 0 m σ H) ∧ ∀ i m σ H, W i m σ H →
     ((Ite K a).stop i H ∧ D.nx σ H) ∨ ((Ite K a).go i H ∧ ∃ N : St → Hp → Prop, (∀ σ' H', N σ' H' → ∃ m', m' < m ∧ W (i + 1) m' σ' H') ∧ ∀ x H', (Ite K a).yld i H x H' → g x σ H' fun σ2 H2 => tb { D with nx := N, ct := N, bk := D.nx } σ2 H2) := by
 refine ⟨fun i m σ H => m = xs.length - i ∧ i ≤ xs.length ∧ Pv i σ H, ⟨xs.length, by simp, Nat.zero_le _, h0⟩, ?_⟩
 rintro i m σ H ⟨rfl, hi, p⟩
 have q := hl i σ H hi p
 by_cases hlt : i < xs.length
 · refine .inr ⟨⟨xs, xs[i], q, by simp [hlt]⟩, Pv (i + 1), fun σ' H' p' => ⟨xs.length - (i + 1), by omega, rfl, hlt, p'⟩, fun x H' y => ?_⟩
   obtain ⟨pp, v, y, hn, e1, e2⟩ := y
   subst e1 e2
   exact hs i v pp σ _ (y xs q) p hn
 · have e : i = xs.length := by omega
   subst e
   exact .inl ⟨⟨xs, q, rfl⟩, hd σ H p⟩
end L2
set_option Elab.async false
set_option linter.all false
set_option maxRecDepth 100000
set_option maxHeartbeats 16000000
namespace L2
open PySem PySem.Spec PyProof.Rows
structure Cl (P : Program) (w : World) (K : PySem.W.Frag) (mg : Str → Option Value) (base : Heap) (k : Nat) (x : Str) (ps : List Str) (sp : Sp) : Prop where
 ex : ∃ f fd, FnOk P w K mg base CX0 k f fd ps sp ∧ mg x = some (.ref f) ∧ PySem.W.keepIn K (.ref f) = true ∧ Binds K fd ps []
theorem pe_fn {X : Cx} {j k : Nat} {x : Str} {ps : List Str} {sp : Sp} {e : Expr} {es : List Expr} {t : TA} {p pos : Pos} (C : Cl X.prog X.w X.K X.mg X.base j x ps sp) (hr : Room k X.A) (hg : Gl X x) (ha : PA X (e :: es) t) (hjk : j ≤ k := by decide)
   (hdb : (x == ("__debug__" : Str)) = false := by decide) (he : starEach (e :: es) X.env = (false, eval e X.env) :: starEach es X.env := by rfl) (hpl : (backTo pos (starEach es X.env)).any (·.1) = false := by rfl) :
   PE X (.Call (.Name x p) (e :: es) [] pos) (tCall sp [] E0 t) := by
 obtain ⟨f, fd, F, hm, hk, hb⟩ := C.ex
 exact pe_call F (hr.mono hjk) hg hm hk hb .nil pass0 ha hdb he hpl
noncomputable def HasDef (K : PySem.W.Frag) (mg : Str → Option Value) (x : Str) (st : Stmt) : Prop := ∃ f fd, Fun K x x st f fd ∧ mg x = some (.ref f)
theorem hasDef_mk {K : PySem.W.Frag} {mg : Str → Option Value} {h : Heap} {x : Str} {st : Stmt} {f : Addr} {oc : Value} {od an : Option Addr} {osl : Array (Option Value)} {kV doc pm cdv ct : Value} (X : K.In h) (G : h.Ns mainGlobals mg)
   (a : PySem.W.nsIn K mainGlobals x = some (some (.ref f))) (l : K.lookup f = some ⟨oc, od, .func (PySem.W.fnOf x x (defArgs st) (defBody st) (defScope st) .none kV doc pm an cdv ct), osl⟩)
   (c : PySem.W.codeIn K cdv x = true) (k : PySem.W.keepIn K (.ref f) = true) : HasDef K mg x st :=
 ⟨f, _, fun_mk l c k, PySem.W.mg_of X G a⟩
theorem Cl.of {P : Program} {w : World} {K : PySem.W.Frag} {mg : Str → Option Value} {base : Heap} {x : Str} {st : Stmt} {N ps : List Str} {k : Nat} {sp : Sp} (T : HasDef K mg x st) (S : FnScope N ps (defScope st)) (len : ∀ vs H Q E, sp vs H Q E → vs.length = ps.length)
   (hb : ∀ (kV doc pm : Value) (an : Option Addr) (cdv ct : Value) (us : List Value), us.length = ps.length → bindArgs (PySem.W.fnOf x x (defArgs st) (defBody st) (defScope st) .none kV doc pm an cdv ct) ⟨us, []⟩ = pure (ps.zip us))
   (hbody : ∀ (f : Addr) (cdv : Value) (A : Around) (outer : List Env) (s : Shared) (H : Hp) (vs : List V) (Q : VK) (E : XK), Room k (A.deeper (envOfC x (defScope st) s.heap.objs.size f cdv)) → sp vs H Q E →
     ∃ t, PSs (cxOf CX0 P w K mg base N x (defScope st) f cdv A outer s H E).nox (defBody st) t ∧ t { nx := fun _ H' => Q .non H', rt := Q } (start N vs) H) : Cl P w K mg base (k + 1) x ps sp := by
 obtain ⟨f, fd, F, m⟩ := T
 exact ⟨f, fd, F.ok S len (fun cdv A outer s H vs Q E => hbody f cdv A outer s H vs Q E), m, F.kp, F.binds hb⟩
noncomputable def Tups (H H' : Hp) : Prop := ∀ b xs, H b = some (.tup xs) → H' b = some (.tup xs)
section
variable {H H1 H2 : Hp} {l p : Addr} {o : HO} {xs ys : List V}
theorem Same.tups (e : Same H H1) : Tups H H1 := fun b xs q => e b _ q
theorem Tups.trans (a : Tups H H1) (b : Tups H1 H2) : Tups H H2 := fun c xs q => b c xs (a c xs q)
theorem Tups.lst (h : H l = some (.lst xs)) : Tups H (upd H l (.lst ys)) := fun b zs q => by
 rw [upd_ne (ne_of q h (by intro z; cases z))]; exact q
theorem Tups.new (h : H p = none) : Tups H (upd H p o) := fun b zs q => by
 rw [upd_ne (ne_of_none q h)]; exact q
theorem Same.put (s : Same H H1) (h : H l = none) : Same H (upd H1 l o) := fun b u q => by
 rw [upd_ne (ne_of_none q h)]; exact s b u q
theorem Same.new (s : Same H H1) (h : H1 p = none) : Same H (upd H1 p o) := s.put (s.free h)
theorem upd_keep {u : HO} (h : H l = some u) (hp : H p = none) : upd H p o l = some u := by
 rw [upd_ne (ne_of_none h hp)]; exact h
end
theorem atI_getD {α : Type} (xs : List α) (d : α) {i : Int} (h0 : 0 ≤ i) (h1 : i < (xs.length : Int)) : atI xs i = some (xs.getD i.toNat d) := by
 have e : i = ((i.toNat : Nat) : Int) := by omega
 have hl : i.toNat < xs.length := by omega
 have hx : xs[i.toNat]? = some (xs.getD i.toNat d) := by
   rw [List.getD_eq_getElem?_getD]
   simp [hl]
 have := atI_nat hx
 rw [← e] at this
 exact this
theorem atI_map {α : Type} (f : α → V) (xs : List α) (d : α) {i : Int} (h0 : 0 ≤ i) (h1 : i < (xs.length : Int)) : atI (xs.map f) i = some (f (xs.getD i.toNat d)) := by
 have := atI_getD (xs.map f) (f d) h0 (by simpa using h1)
 rw [this, List.getD_eq_getElem?_getD, List.getElem?_map, List.getD_eq_getElem?_getD]
 have hl : i.toNat < xs.length := by omega
 simp [hl]
theorem iteSE {x : Str} {A B : Prop} (h : A) : if decide (V.str x = V.str x) = true then A else B := by
 rw [if_pos (decide_eq_true rfl)]; exact h
theorem iteSN {x y : Str} {A B : Prop} (e : ¬ x = y) (h : B) : if decide (V.str x = V.str y) = true then A else B := by
 rw [if_neg (by rw [decide_eq_false (fun q => e (V.str.inj q))]; exact Bool.false_ne_true)]; exact h
theorem ite2I {i j : Int} {A B : Prop} (h1 : i = j → A) (h2 : ¬ i = j → B) : if decide (V.int i = V.int j) = true then A else B :=
 ite2 (fun h => h1 (V.int.inj (of_decide_eq_true h))) fun h => h2 fun e => h (decide_eq_true (congrArg V.int e))
theorem neIF {i : Int} {A B : Prop} (h : B) : if (!decide (V.int i = V.int i)) = true then A else B := iteNS rfl h
theorem kit_same (K : PySem.W.Frag) (T : String) : PySem.W.kitOne K (.type T) (.type T) = some true := by
 unfold PySem.W.kitOne
 rw [if_pos (by simp)]
noncomputable def isLet (c : Nat) : Bool := decide (97 ≤ c) && decide (c ≤ 122)
noncomputable def isFig (c : Nat) : Bool := decide (48 ≤ c) && decide (c ≤ 57)
noncomputable def isSg (c : Nat) : Bool := isLet c || isFig c
noncomputable def isNm : List Nat → Bool
 | [] => false
 | c :: r => isLet c && r.all isSg && decide (r.length ≤ 7)
noncomputable def NameOk (x : Str) : Prop := isNm x.cps.toList = true
noncomputable instance (x : Str) : Decidable (NameOk x) := inferInstanceAs (Decidable (_ = true))
inductive Th where
 | num (n : Int)
 | nam (x : Str)
noncomputable def thV : Th → V
 | .num n => .int n
 | .nam x => .str x
noncomputable def ThOk : Th → Prop
 | .num n => 0 ≤ n ∧ n < 10 ^ 60
 | .nam x => NameOk x
noncomputable def TermAt (H : Hp) (v : V) (t : Int × Th) : Prop := ∃ p, v = .ref p ∧ H p = some (.tup [.int t.1, thV t.2]) ∧ ThOk t.2
noncomputable abbrev Terms (H : Hp) : List V → List (Int × Th) → Prop := Paired (TermAt H)
theorem Paired.get? {α β : Type} {F : α → β → Prop} : ∀ {xs : List α} {ys : List β} {i : Nat} {x : α}, Paired F xs ys → xs[i]? = some x → ∃ y, ys[i]? = some y ∧ F x y
 | _, _, _, _, .nil, e => by simp at e
 | _, _, 0, _, .cons r _, e => by simp at e; subst e; exact ⟨_, rfl, r⟩
 | _, _, i + 1, x, .cons _ t, e => by
   obtain ⟨u, h1, h2⟩ := Paired.get? (i := i) (x := x) t (by simpa using e)
   exact ⟨u, by simpa using h1, h2⟩
theorem Paired.get?' {α β : Type} {F : α → β → Prop} : ∀ {xs : List α} {ys : List β} {i : Nat} {y : β}, Paired F xs ys → ys[i]? = some y → ∃ x, xs[i]? = some x ∧ F x y
 | _, _, _, _, .nil, e => by simp at e
 | _, _, 0, _, .cons r _, e => by simp at e; subst e; exact ⟨_, rfl, r⟩
 | _, _, i + 1, x, .cons _ t, e => by
   obtain ⟨u, h1, h2⟩ := Paired.get?' (i := i) (y := x) t (by simpa using e)
   exact ⟨u, by simpa using h1, h2⟩
theorem TermAt.mono {H H' : Hp} (s : Tups H H') {v : V} {t : Int × Th} (h : TermAt H v t) : TermAt H' v t := by
 obtain ⟨p, e, h, o⟩ := h
 exact ⟨p, e, s p _ h, o⟩
theorem Terms.mono {H H' : Hp} (s : Tups H H') {vs : List V} {ts : List (Int × Th)} (h : Terms H vs ts) : Terms H' vs ts := Paired.mapP h fun _ _ q => q.mono s
structure TermsAt (H : Hp) (t : Addr) (ts : List (Int × Th)) : Prop where
 ex : ∃ vs, H t = some (.tup vs) ∧ Terms H vs ts
 lo : 1 ≤ ts.length
 hi : ts.length ≤ 6
theorem TermsAt.mono {H H' : Hp} (s : Tups H H') {t : Addr} {ts : List (Int × Th)} (h : TermsAt H t ts) : TermsAt H' t ts := by
 obtain ⟨⟨vs, h1, h2⟩, lo, hi⟩ := h
 exact ⟨⟨vs, s t _ h1, h2.mono s⟩, lo, hi⟩
theorem take_succ_get {α : Type} {l : List α} {i : Nat} {x : α} (h : l[i]? = some x) : l.take (i + 1) = l.take i ++ [x] := by
 rw [List.take_succ, h]; rfl
end L2
set_option Elab.async false
set_option linter.all false
set_option maxRecDepth 100000
set_option maxHeartbeats 16000000
namespace L2
open PySem PySem.Spec PyProof.Rows
theorem strsAre_of {ys : List Str} : ∀ {us : List Value}, Vals (ys.map V.str) us → StrsAre us ys := by
 induction ys with
 | nil => intro us r; cases r; exact .nil
 | cons y r ih =>
   intro us h
   cases h with
   | cons h1 h2 =>
     obtain ⟨t, rfl⟩ := h1
     exact .cons y t (ih h2)
section
variable {X : Cx}
theorem mt_join : MtR X "str.join" (fun x vs H Q => ∃ sep p ys, x = .str sep ∧ vs = [.ref p] ∧ (SqT X.K H p (ys.map V.str) ∨ SqL X.K H p (ys.map V.str)) ∧ sep.length ≤ 16 ∧ (ys.map (·.length)).sum + ys.length ≤ 1048576 ∧ Q (.str (Str.join sep ys)) H) := by
 intro pins s σ H x xs v us Q I rx rs h
 obtain ⟨sep, p, ys, rfl, rfl, hq, hs, hw, q⟩ := h
 obtain ⟨t, rfl⟩ := rx
 obtain ⟨u, rfl, ru⟩ := vals1 rs
 cases ru
 rcases hq with hq | hq
 · obtain ⟨its, r', pl, hz⟩ := I.tuple hq
   exact join_tupleW pl (strsAre_of r') hs hw fun t' k => ⟨.str (Txt.join sep ys), H, I.tok _, ⟨_, rfl⟩, by rw [show Txt.join sep ys = Str.join sep ys from StrLaws.glued_eq_join sep ys]; exact q⟩
 · obtain ⟨its, r', pl, hz⟩ := I.list hq
   exact join_listW pl.isList (strsAre_of r') hs hw fun t' k => ⟨.str (Txt.join sep ys), H, I.tok _, ⟨_, rfl⟩, by rw [show Txt.join sep ys = Str.join sep ys from StrLaws.glued_eq_join sep ys]; exact q⟩
end
theorem str_ext {x y : Str} (h : x.cps.toList = y.cps.toList) : x = y := by
 obtain ⟨⟨a⟩⟩ := x
 obtain ⟨⟨b⟩⟩ := y
 have h' : a = b := h
 rw [h']
section
variable {X : Cx}
theorem log_ok {n : Int} (h1 : 0 ≤ n) (h2 : n < 10 ^ 60) : n.natAbs.log2 < 1920 := by
 have h3 : n.natAbs < 2 ^ 1920 := by
   have : n.natAbs < 10 ^ 60 := by omega
   exact Nat.lt_of_lt_of_le this (by decide)
 by_cases hz : n.natAbs = 0
 · rw [hz]; decide
 · exact (Nat.log2_lt hz).mpr h3
end
end L2
set_option Elab.async false
set_option linter.all false
set_option maxRecDepth 100000
set_option maxHeartbeats 16000000
namespace L2
open PySem PySem.Spec PyProof.Rows
noncomputable def closL (cells : List (Str × Addr)) : List (Str × NameKind) → List (Str × Addr) → List (Str × Addr)
 | [], cs => cs
 | (n, k) :: r, cs => closL cells r (if k == .free then (n, (cells.lookup n).getD 0) :: cs else cs)
theorem closL_pure {cells : List (Str × Addr)} {env : Env} (he : env.cells = cells) : ∀ (l : List (Str × NameKind)) (cs : List (Str × Addr)), (∀ y ∈ l, y.2 = .free → ∃ c, cells.lookup y.1 = some c) →
   (forIn l cs fun p cs => (do if p.2 == .free then (do let a ← cellOf env p.1; pure (ForInStep.yield ((p.1, a) :: cs))) else pure (ForInStep.yield cs) : Sem (ForInStep (List (Str × Addr))))) = pure (closL cells l cs) := by
 intro l
 induction l with
 | nil => intro cs _; rfl
 | cons p r ih =>
   intro cs h
   obtain ⟨n, k⟩ := p
   rw [List.forIn_cons]
   have hr : ∀ y ∈ r, y.2 = .free → ∃ c, cells.lookup y.1 = some c := fun y hy => h y (List.mem_cons_of_mem _ hy)
   by_cases hk : k = .free
   · subst hk
     obtain ⟨c, hc⟩ := h (n, .free) List.mem_cons_self rfl
     have hc' : env.cells.lookup n = some c := by rw [he]; exact hc
     have e : cellOf env n = pure c := by unfold cellOf; rw [hc']
     simp only [beq_self_eq_true, if_true, e, pure_bind]
     rw [ih _ hr]
     unfold closL
     rw [if_pos (by simp), show (cells.lookup n).getD 0 = c by rw [show cells.lookup n = some c from hc]; rfl]
     conv => rhs; unfold closL
   · have hb : (k == NameKind.free) = false := by simpa using hk
     simp only [hb, Bool.false_eq_true, if_false, pure_bind]
     rw [ih _ hr]
     conv => rhs; unfold closL
     rw [if_neg (by rw [hb]; exact Bool.false_ne_true)]
theorem closL_lookup {cells : List (Str × Addr)} {x : Str} {c : Addr} : ∀ (l : List (Str × NameKind)) (cs : List (Str × Addr)), (∀ y ∈ l, y.2 = .free → ∃ c, cells.lookup y.1 = some c) → (closL cells l cs).lookup x = some c → cells.lookup x = some c ∨ cs.lookup x = some c
 | [], cs, _, h => .inr h
 | (n, k) :: r, cs, hy, h => by
   unfold closL at h
   rcases closL_lookup r _ (fun y q => hy y (List.mem_cons_of_mem _ q)) h with h | h
   · exact .inl h
   · by_cases hk : k = .free
     · subst hk
       obtain ⟨c', hc⟩ := hy (n, .free) List.mem_cons_self rfl
       have hc : cells.lookup n = some c' := hc
       rw [if_pos (by simp), List.lookup_cons] at h
       split at h
       · rename_i e
         have e' : x = n := by simpa using e
         subst e'
         rw [hc] at h
         cases h
         exact .inl hc
       · exact .inr h
     · rw [if_neg (by simpa using hk)] at h
       exact .inr h
theorem closL_keep {cells : List (Str × Addr)} {x : Str} : ∀ (l : List (Str × NameKind)) (cs : List (Str × Addr)), (∃ c, cs.lookup x = some c) → ∃ c, (closL cells l cs).lookup x = some c
 | [], _, h => h
 | (n, k) :: r, cs, h => by
   unfold closL
   refine closL_keep r _ ?_
   split
   · rw [List.lookup_cons]
     split
     · exact ⟨_, rfl⟩
     · exact h
   · exact h
theorem closL_has {cells : List (Str × Addr)} {x : Str} : ∀ (l : List (Str × NameKind)) (cs : List (Str × Addr)), (x, NameKind.free) ∈ l → ∃ c, (closL cells l cs).lookup x = some c
 | (n, k) :: r, cs, h => by
   unfold closL
   rcases List.mem_cons.mp h with e | h
   · cases e
     refine closL_keep r _ ?_
     rw [if_pos (by simp), List.lookup_cons]
     simp
   · exact closL_has r _ h
theorem closure_pure {sc : Scope} {env : Env} (h : ∀ y ∈ sc.names, y.2 = .free → ∃ c, env.cells.lookup y.1 = some c) : closureFor sc env = pure (closL env.cells sc.names []) := by
 have := closL_pure (env := env) rfl sc.names [] h
 unfold closureFor
 simp only [bind_pure]
 exact this
theorem relabel_free {env : Env} {x : Str} : ∀ {names : List (Str × NameKind)}, names.lookup x = some .free →
   (names.map fun (n, k) => if (k == NameKind.free && env.scope.kind == .function && env.kindOf n == some .cell) then (n, NameKind.cell) else (n, k)).lookup x = some .cell ∨
   (names.map fun (n, k) => if (k == NameKind.free && env.scope.kind == .function && env.kindOf n == some .cell) then (n, NameKind.cell) else (n, k)).lookup x = some .free
 | [], h => by simp at h
 | (n, k) :: r, h => by
   have ih := @relabel_free env x r
   simp only [List.map_cons]
   by_cases hc : (k == NameKind.free && env.scope.kind == .function && env.kindOf n == some .cell) = true
   · rw [if_pos hc]
     simp only [List.lookup_cons] at h ⊢
     cases hx : x == n with
     | true => exact .inl rfl
     | false => simp only [hx] at h ⊢; exact ih h
   · rw [if_neg hc]
     simp only [List.lookup_cons] at h ⊢
     cases hx : x == n with
     | true => simp only [hx] at h ⊢; exact .inr h
     | false => simp only [hx] at h ⊢; exact ih h
theorem relabel_back {env : Env} {x : Str} : ∀ {names : List (Str × NameKind)},
   (names.map fun (n, k) => if (k == NameKind.free && env.scope.kind == .function && env.kindOf n == some .cell) then (n, NameKind.cell) else (n, k)).lookup x = some .cell ∨
   (names.map fun (n, k) => if (k == NameKind.free && env.scope.kind == .function && env.kindOf n == some .cell) then (n, NameKind.cell) else (n, k)).lookup x = some .free →
   (x, NameKind.free) ∈ names ∨ (x, NameKind.cell) ∈ names
 | [], h => by simp at h
 | (n, k) :: r, h => by
   have ih := @relabel_back env x r
   simp only [List.map_cons] at h
   have tl : (x, NameKind.free) ∈ r ∨ (x, NameKind.cell) ∈ r → (x, NameKind.free) ∈ (n, k) :: r ∨ (x, NameKind.cell) ∈ (n, k) :: r := fun q => q.imp (List.mem_cons_of_mem _) (List.mem_cons_of_mem _)
   by_cases hc : (k == NameKind.free && env.scope.kind == .function && env.kindOf n == some .cell) = true
   · rw [if_pos hc] at h
     have hk : k = .free := by
       simp only [Bool.and_eq_true] at hc
       simpa using hc.1.1
     simp only [List.lookup_cons] at h
     cases hx : x == n with
     | true =>
       have e : x = n := by simpa using hx
       subst e hk
       exact .inl List.mem_cons_self
     | false => simp only [hx] at h; exact tl (ih h)
   · rw [if_neg hc] at h
     simp only [List.lookup_cons] at h
     cases hx : x == n with
     | true =>
       have e : x = n := by simpa using hx
       subst e
       simp only [hx] at h
       rcases h with h | h
       · cases h; exact .inr List.mem_cons_self
       · cases h; exact .inl List.mem_cons_self
     | false => simp only [hx] at h; exact tl (ih h)
structure CompScope (osc : Scope) (N : List Str) (sc : Scope) (M : List Str) (ρ : List (Option Nat)) : Prop where
 kind : sc.kind = .function
 nocell : ∀ y ∈ sc.names, y.2 ≠ .cell
 own : ∀ y ∈ sc.names, y.2 = .local → sc.names.lookup y.1 = some .local
 fre : ∀ y ∈ sc.names, y.2 = .free → osc.names.lookup y.1 = some .cell ∨ osc.names.lookup y.1 = some .free
 len : ρ.length = M.length
 ren : ∀ p ∈ ρ.zip M, (match p.1 with | none => true | some i => decide (N[i]? = some p.2 ∧ sc.names.lookup p.2 = some .free)) = true
 nd : M.Nodup
noncomputable def subS (ρ : List (Option Nat)) (σ : St) : St := ρ.map fun o => match o with | none => none | some i => (σ[i]?).join
noncomputable def cxComp (X : Cx) (sc : Scope) (cl : List (Str × Addr)) (C : Addr) (M : List Str) (s : Shared) (H : Hp) (fp : List Addr) (xe : Value → Shared → Prop) : Cx where
 prog := X.prog
 w := X.w
 K := X.K
 mg := X.mg
 base := X.base
 A := X.A
 N := M
 s₀ := s
 H₀ := H
 env := compEnvC sc cl C X.env
 outer := X.stack
 stack := X.stack
 ex := fp
 fn := fun _ => false
 calm := X.calm
 pn := []
 xe := xe
theorem comp_loop {P : Program} {w : World} {A : Around} {R : Result → Shared → Prop} {s : Shared} {elt tg iter : Expr} {ifs : List Expr} {sc : Scope} {pos : Pos} {it acc : Value} {env : Env} (J : Nat → Shared → Prop)
   (turn : ∀ n s, J n s → wpAny (model P w) A (pyNext it) (fun r s1 => match r with
     | none => R (.ok .next) s1
     | some v => wpAny (model P w) A (letOwnedTupleGo tg it v) (fun _ s2 => wpAny (model P w) A (assign tg env v) (fun _ s3 =>
         wpAny (model P w) A (forIn ifs true fun c r => if r = true then do let ok ← isTrue c env (eval c env); pure (ForInStep.yield ok) else pure (ForInStep.yield r)) (fun ok s4 =>
           if ok = true then wpAny (model P w) A (eval elt env) (fun x s5 => wpAny (model P w) A (call (.builtin "list.append") [acc, x]) (fun _ s6 => ∃ m, m < n ∧ J m s6) (notedBy (model P w) A env fun e s' => R (.error e) s') s5)
             (notedBy (model P w) A env fun e s' => R (.error e) s') s4
           else ∃ m, m < n ∧ J m s4) (notedBy (model P w) A env fun e s' => R (.error e) s') s3) (notedBy (model P w) A env fun e s' => R (.error e) s') s2) (notedBy (model P w) A env fun e s' => R (.error e) s') s1)
     (notedBy (model P w) A env fun e s' => R (.error e) s') s)
   (n : Nat) (h : J n s) : codeAny (model P w) A (.compLoop (.ListComp elt [⟨tg, iter, ifs, 0⟩] sc pos) 0 it acc env) R s := by
 refine codeAny_loop rfl J (fun n s hJ => ?_) n h
 show wpAny (model P w) A ((compTurn (.ListComp elt [⟨tg, iter, ifs, 0⟩] sc pos) 0 it acc env).onRaise fun x => do noteFrame x env; theTreesLotGoes x) _ _ s
 refine wpAny_noted ?_
 rw [compTurn_list]
 refine wpAny_bind (wpAny_standAt (wpAny_bind (thn (turn n s hJ) fun r s1 h1 => ?_)))
 cases r with
 | none => exact wpAny_pure h1
 | some v =>
   refine wpAny_bind (thn h1 fun _ s2 h2 => wpAny_bind (thn h2 fun _ s3 h3 => wpAny_bind (thn h3 fun ok s4 h4 => ?_)))
   cases ok with
   | false => exact wpAny_pure ⟨rfl, h4⟩
   | true => exact wpAny_bind (wpAny_bind (thn h4 fun x s5 h5 => wpAny_bind (thn h5 fun _ s6 h6 => wpAny_pure (wpAny_pure ⟨rfl, h6⟩))))
noncomputable def PTs (X : Cx) (ifs : List Expr) (t : TT) : Prop :=
 ∀ (pins : List (Addr × Obj)) (s : Shared) (σ : St) (H : Hp) (Q : Bool → Hp → Prop), Inv X pins σ H s → t σ H Q →
   wpAny (model X.prog X.w) X.A (forIn ifs true fun c r => if r = true then do let ok ← isTrue c X.env (eval c X.env); pure (ForInStep.yield ok) else pure (ForInStep.yield r)) (TP X pins σ Q) X.xe s
noncomputable def tNoTest : TT := fun _ H Q => Q true H
theorem nt {σ : St} {H : Hp} {A B : Hp → Prop} (h : A H) : tNoTest σ H (fun b H5 => if b = true then A H5 else B H5) := by
 show if true = true then A H else B H
 exact iteT h
theorem ntG {i : Nat} {v : V} {σ : St} {H : Hp} {A B : St → Hp → Prop} (h : A (σ.set i (some v)) H) : gName i v σ H (fun σ4 H4 => tNoTest σ4 H4 fun b H5 => if b = true then A σ4 H5 else B σ4 H5) := by
 show if true = true then A (σ.set i (some v)) H else B (σ.set i (some v)) H
 exact iteT h
theorem pts_nil {X : Cx} : PTs X [] tNoTest := fun _ _ _ H _ I h => wpAny_tests_nil ⟨H, I, h⟩
theorem pts_one {X : Cx} {c : Expr} {t : TT} (h : PT X c t) : PTs X [c] t := fun pins s σ H Q I q => wpAny_tests_one (h pins s σ H Q I q)
noncomputable def tComp (wi : TI) (ρ : List (Option Nat)) (g : TG) (tt : TT) (te : TE) : TE := fun σ H Q => wi σ H fun J H1 => ∀ D, H1 D = none → ∃ W : Nat → Nat → St → Hp → Prop, (∃ m, W 0 m (subS ρ σ) (upd H1 D (.lst []))) ∧ ∀ i m σ2 H2, W i m σ2 H2 →
 (J.stop i H2 ∧ Q (.ref D) H2) ∨ (J.go i H2 ∧ ∃ N : St → Hp → Prop, (∀ σ' H', N σ' H' → ∃ m', m' < m ∧ W (i + 1) m' σ' H') ∧ ∀ x H3, J.yld i H2 x H3 → g x σ2 H3 fun σ4 H4 => tt σ4 H4 fun b H5 =>
   if b = true then te σ4 H5 fun y H6 => ∃ ys, H6 D = some (.lst ys) ∧ ys.length < sizeLine ∧ N σ4 (upd H6 D (.lst (ys ++ [y])))
   else N σ4 H5)
theorem comp_by {J : It} {g : TG} {tt : TT} {te : TE} {Q : Hp → Prop} {σ : St} {H : Hp} {D : Addr} (n : Nat) (Pv : Nat → St → Hp → Prop) (h0 : Pv 0 σ (upd H D (.lst [])))
   (hs : ∀ i σ2 H2, i < n → Pv i σ2 H2 → J.go i H2 ∧ ∀ x H3, J.yld i H2 x H3 → g x σ2 H3 fun σ4 H4 => tt σ4 H4 fun b H5 =>
     if b = true then te σ4 H5 fun y H6 => ∃ ys, H6 D = some (.lst ys) ∧ ys.length < sizeLine ∧ Pv (i + 1) σ4 (upd H6 D (.lst (ys ++ [y]))) else Pv (i + 1) σ4 H5)
   (hd : ∀ σ2 H2, Pv n σ2 H2 → J.stop n H2 ∧ Q H2) :
   ∃ W : Nat → Nat → St → Hp → Prop, (∃ m, W 0 m σ (upd H D (.lst []))) ∧ ∀ i m σ2 H2, W i m σ2 H2 →
     (J.stop i H2 ∧ Q H2) ∨ (J.go i H2 ∧ ∃ N : St → Hp → Prop, (∀ σ' H', N σ' H' → ∃ m', m' < m ∧ W (i + 1) m' σ' H') ∧ ∀ x H3, J.yld i H2 x H3 → g x σ2 H3 fun σ4 H4 => tt σ4 H4 fun b H5 =>
       if b = true then te σ4 H5 fun y H6 => ∃ ys, H6 D = some (.lst ys) ∧ ys.length < sizeLine ∧ N σ4 (upd H6 D (.lst (ys ++ [y]))) else N σ4 H5) := by
 refine ⟨fun i m σ H => m = n - i ∧ i ≤ n ∧ Pv i σ H, ⟨n, by simp, Nat.zero_le _, h0⟩, ?_⟩
 rintro i m σ2 H2 ⟨rfl, hi, p⟩
 by_cases hlt : i < n
 · obtain ⟨h1, h2⟩ := hs i σ2 H2 hlt p
   exact .inr ⟨h1, Pv (i + 1), fun σ' H' p' => ⟨n - (i + 1), by omega, rfl, hlt, p'⟩, h2⟩
 · have e : i = n := by omega
   subst e
   exact .inl (hd σ2 H2 p)
section
variable {X : Cx} {tg elt iter : Expr} {ifs : List Expr} {sc : Scope} {pos : Pos} {M : List Str} {ρ : List (Option Nat)} {wi : TI} {g : TG} {tt : TT} {te : TE}
theorem comp_block (osc : Scope) (hosc : X.env.scope = osc) (N : List Str) (hN : X.N = N) (S : CompScope osc N sc M ρ) (hc : X.calm = true)
   (hg : ∀ cl C s H fp xe, PG (cxComp X sc cl C M s H fp xe) tg g) (ht : ∀ cl C s H fp xe, PTs (cxComp X sc cl C M s H fp xe) ifs tt) (he : ∀ cl C s H fp xe, PE (cxComp X sc cl C M s H fp xe) elt te)
   {pins : List (Addr × Obj)} {σ : St} {H : Hp} {s : Shared} {itv : Value} {Q : VK} {RR : Value → Addr → Result → Shared → Prop} (I : Inv X pins σ H s)
   (h2 : PIE X pins σ tg (fun J H1 => ∀ D, H1 D = none → ∃ W : Nat → Nat → St → Hp → Prop, (∃ m, W 0 m (subS ρ σ) (upd H1 D (.lst []))) ∧ ∀ i m σ2 H2, W i m σ2 H2 →
     (J.stop i H2 ∧ Q (.ref D) H2) ∨ (J.go i H2 ∧ ∃ N : St → Hp → Prop, (∀ σ' H', N σ' H' → ∃ m', m' < m ∧ W (i + 1) m' σ' H') ∧ ∀ x H3, J.yld i H2 x H3 → g x σ2 H3 fun σ4 H4 => tt σ4 H4 fun b H5 =>
       if b = true then te σ4 H5 fun y H6 => ∃ ys, H6 D = some (.lst ys) ∧ ys.length < sizeLine ∧ N σ4 (upd H6 D (.lst (ys ++ [y])))
       else N σ4 H5)) itv s)
   (hR : ∀ (D C : Addr) (H' : Hp) (s' : Shared) (mC : Str → Option Value), Inv X pins σ H' s' → s'.heap.Ns C mC → FpOk X pins H' C → Q (.ref D) H' → RR (.ref D) C (.ok .next) s') :
   wpAny (model X.prog X.w) X.A (newList []) (fun acc s3 => wpAny (model X.prog X.w) X.A (newFunctionEnv sc X.env.globals (closL X.env.cells sc.names []) [] X.env.qual none .none (some X.env)) (fun cenv s4 =>
     codeAny (model X.prog X.w) X.A (.compStart (.ListComp elt [⟨tg, iter, ifs, 0⟩] sc pos) 0 itv acc { cenv with scope := relabel sc X.env }) (RR acc cenv.locals) s4) X.xe s3) X.xe s := by
 subst hosc hN
 obtain ⟨it, fp, tn, J, H2, rfl, I2, T, st2, f2, q2⟩ := h2
 have hcells : ∀ y ∈ sc.names, y.2 = .free → ∃ c, X.env.cells.lookup y.1 = some c := fun y hy hf => I2.ok.has y.1 (S.fre y hy hf)
 have hclx : ∀ {x c}, (closL X.env.cells sc.names []).lookup x = some c → X.env.cells.lookup x = some c := fun {x c} e => (closL_lookup _ _ hcells e).elim id fun z => by simp at z
 generalize hcl : closL X.env.cells sc.names [] = cl at hclx ⊢
 refine wpAny_newObj_type (wpAny_newFunctionEnv S.nocell (by intro y hy; simp at hy) (fun h1 hns hsb => ?_) S.kind)
 dsimp only at hns hsb ⊢
 generalize hG : s.heap.push { cls := .type "list", dict := none, data := .seq ([] : List Value).toArray } = G at hns hsb ⊢
 have hC : G.objs.size = s.heap.objs.size + 1 := by rw [← hG, Heap.size_push]
 have old : ∀ b o, s.heap.get? b = some o → h1.get? b = some o := fun b o e =>
   hsb.extBut b o (Nat.ne_of_lt (by rw [hC]; exact Nat.lt_succ_of_lt (Heap.lt_size e))) (Heap.get?_push_of_some _ (hG ▸ Heap.get?_push_of_some _ e))
 have hD1 : h1.get? s.heap.objs.size = some { cls := .type "list", dict := none, data := .seq ([] : List Value).toArray } :=
   hsb.extBut _ _ (by rw [hC]; exact Nat.ne_of_lt (Nat.lt_succ_self _)) (Heap.get?_push_of_some _ (hG ▸ Heap.get?_push_size _ rfl))
 have hDn : H2 s.heap.objs.size = none := I2.hok.fresh (Nat.le_refl _)
 obtain ⟨W, ⟨m0, w0⟩, turn⟩ := q2 s.heap.objs.size hDn
 have hCle : s.heap.objs.size ≤ G.objs.size := by rw [hC]; exact Nat.le_succ _
 have hCD : G.objs.size ≠ s.heap.objs.size := by rw [hC]; exact Nat.succ_ne_self _
 generalize hxe : notedBy (model X.prog X.w) X.A (compEnvC sc cl G.objs.size X.env) (fun e s' => RR (.ref s.heap.objs.size) G.objs.size (.error e) s') = xe
 have fpC : ∀ b ∈ fp, b ≠ G.objs.size := fun b hb => by
   obtain ⟨o, e, _⟩ := T.obj 0 _ st2 b hb
   have := Heap.lt_size e
   exact Nat.ne_of_lt (Nat.lt_of_lt_of_le this hCle)
 have fpS : ∀ b ∈ fp, b ∉ frs X.stack := fun b hb z => by
   obtain ⟨f0, f1, f3, _⟩ := f2 b hb
   rcases List.mem_cons.mp (I2.stkSub b z) with e | e
   · exact f1 e
   · exact f3 e
 have hok : (cxComp X sc cl G.objs.size M s H2 fp xe).Ok := by
   refine ⟨I2.ok.mod, S.kind, I2.ok.glob, I2.ok.blt, hCle, fun x y c e1 e2 => I2.ok.inj x y c (hclx e1) (hclx e2), fun x hx => ?_, (fun x c e _ => absurd (show false = true from e) Bool.false_ne_true), I2.ok.hd, I2.ok.frames, .inl rfl, fun b hb => ⟨fpC b hb, fun x c e => (f2 b hb).2.2.2.2.1 x c (hclx e)⟩,
     I2.bs, Nat.le_trans I2.ok.bsz I2.sz, fun b o e hb => ?_, fpS, I2.stack, I2.stkFree⟩
   · rcases relabel_back (names := sc.names) (env := X.env) hx with q | q
     · rw [← hcl]; exact closL_has _ _ q
     · exact absurd rfl (S.nocell _ q)
   · rcases (f2 b hb).2.2.2.1 with z | z
     · exact I2.ok.noex b o e z
     · exact absurd (Nat.lt_of_lt_of_le (Heap.lt_size e) (Nat.le_trans I2.ok.bsz z)) (Nat.lt_irrefl _)
 have I4 : Inv (cxComp X sc cl G.objs.size M s H2 fp xe) [] (subS ρ σ) (upd H2 s.heap.objs.size (.lst [])) { s with heap := h1, toks := s.toks + ([] : List (Str × Value)).length } := by
   refine ⟨hok, rfl, I2.bare, Un.laid old (Nat.le_refl _) hDn, ⟨_, hns, fun j x v e1 e2 _ => ?_⟩, fun x c e => ?_, ?_, fun x c e => ?_, fun p hp => absurd (show p ∈ ([] : List (Addr × Obj)) from hp) (by simp), I2.hok.laid old (Nat.le_refl _) ⟨by show 0 ≤ sizeLine; decide, [], 0, .nil, hD1⟩, ?_⟩
   · unfold subS at e2
     rw [List.getElem?_map] at e2
     cases q : ρ[j]? with
     | none => rw [q] at e2; cases e2
     | some o =>
       rw [q] at e2
       cases o with
       | none => cases e2
       | some i =>
         have e2' : (σ[i]?).join = some v := Option.some.inj e2
         have e3 : σ[i]? = some (some v) := by
           cases z : σ[i]? with
           | none => rw [z] at e2'; cases e2'
           | some y => rw [z] at e2'; cases y with
             | none => cases e2'
             | some y => cases e2'; rfl
         have hz : (ρ.zip M)[j]? = some (some i, x) := List.getElem?_zip_eq_some.mpr ⟨q, e1⟩
         have hr := S.ren (some i, x) (List.mem_of_getElem? hz)
         obtain ⟨r1, r2⟩ := of_decide_eq_true hr
         obtain ⟨m, hn, hl⟩ := I2.loc
         have hfr := S.fre _ (PySem.mem_of_lookup r2) rfl
         obtain ⟨u, ru, lk⟩ := hl i x v r1 e3 (hfr.elim (fun z => .inr (.inl z)) fun z => .inr (.inr z))
         refine ⟨u, ru, ?_⟩
         rcases lk with ⟨k, _⟩ | ⟨_, c, hcc, cell⟩
         · have k' : X.env.scope.names.lookup x = some .local := k
           rcases hfr with z | z
           · rw [k'] at z; cases z
           · rw [k'] at z; cases z
         · obtain ⟨c', hc'⟩ := closL_has (cells := X.env.cells) sc.names [] (PySem.mem_of_lookup r2)
           rw [hcl] at hc'
           have := hclx hc'
           rw [hcc] at this
           cases this
           obtain ⟨oc, ho, hd⟩ := cell
           exact .inr ⟨relabel_free r2, _, hc', oc, old _ _ ho, hd⟩
   · obtain ⟨v, oc, ho, hd⟩ := I2.cell x c (hclx e)
     exact ⟨v, oc, old _ _ ho, hd⟩
   · show upd H2 s.heap.objs.size (.lst []) G.objs.size = none
     rw [upd_ne hCD]
     exact I2.hok.fresh hCle
   · show upd H2 s.heap.objs.size (.lst []) c = none
     obtain ⟨v, oc, ho, hd⟩ := I2.cell x c (hclx e)
     rw [upd_ne (Nat.ne_of_lt (Heap.lt_size ho))]
     exact I2.freeC x c (hclx e)
   · show (subS ρ σ).length = M.length
     unfold subS
     rw [List.length_map, S.len]
 have st4 : tn 0 h1 := T.keep 0 _ _ st2 fun b _ o e => old b o e
 have fr4 : ∀ b ∈ fp, upd H2 s.heap.objs.size (.lst []) b = none := fun b hb => by
   obtain ⟨o, e, _⟩ := T.obj 0 _ st2 b hb
   rw [upd_ne (Nat.ne_of_lt (Heap.lt_size e))]
   exact (f2 b hb).1
 have stat : ∀ {H' : Hp}, (∀ b ∈ fp, H' b = none) → ∀ b ∈ fp, FpOk (cxComp X sc cl G.objs.size M s H2 fp xe) [] H' b := fun hn b hb =>
   ⟨hn b hb, fpC b hb, fpS b hb, .inl hb, fun x c e => (f2 b hb).2.2.2.2.1 x c (hclx e), fun p hp => absurd (show p ∈ ([] : List (Addr × Obj)) from hp) (by simp)⟩
 have loop : codeAny (model X.prog X.w) X.A (.compLoop (.ListComp elt [⟨tg, iter, ifs, 0⟩] sc pos) 0 (.ref it) (.ref s.heap.objs.size) (compEnvC sc cl G.objs.size X.env)) (RR (.ref s.heap.objs.size) G.objs.size)
     { s with heap := h1, toks := s.toks + ([] : List (Str × Value)).length } := by
   refine comp_loop (fun n s' => ∃ i σ' H', Inv (cxComp X sc cl G.objs.size M s H2 fp xe) [] σ' H' s' ∧ tn i s'.heap ∧ (∀ b ∈ fp, H' b = none) ∧ W i n σ' H') ?_ m0 ⟨0, _, _, I4, st4, fr4, w0⟩
   rw [hxe]
   rintro n s3 ⟨i, σ3, H3, I3, st3, fr3, w3⟩
   rcases turn i n σ3 H3 w3 with ⟨stop, qn⟩ | ⟨go, N, hN, step⟩
   · refine thn (T.done (cxComp X sc cl G.objs.size M s H2 fp xe) rfl rfl rfl hc i [] s3 σ3 H3 xe I3 (stat fr3) st3 stop) fun r s4 ⟨hr, I5⟩ => ?_
     subst hr
     obtain ⟨mC, nC, _⟩ := I5.loc
     have I6 : Inv X pins σ H3 s4 := I2.call' I5.os I5.base I5.hok I5.bare fun b hb => ⟨(f2 b hb).2.2.2.1, (f2 b hb).2.1, (f2 b hb).2.2.2.2.1, (f2 b hb).2.2.2.2.2⟩
     exact hR _ _ H3 s4 mC I6 nC (I2.fpOk hCle I5.free) qn
   · refine thn (T.item (cxComp X sc cl G.objs.size M s H2 fp xe) rfl rfl rfl hc i [] s3 σ3 H3 xe I3 (stat fr3) st3 go) fun r s4 ⟨u, hr, h4⟩ => ?_
     subst hr
     refine thn h4 fun _ s5 ⟨x, H5, I5, r5, y5, st5, fr5⟩ => ?_
     have I5' := I5.pinned (stat fr5) (T.obj _ _ st5)
     refine thn (hg cl G.objs.size s H2 fp xe _ s5 σ3 H5 x u _ I5' r5 (step x H5 y5)) fun _ s6 ⟨σ6, H6, I6, q6⟩ => ?_
     have fin : ∀ {s7 : Shared} {σ7 : St} {H7 : Hp}, Inv (cxComp X sc cl G.objs.size M s H2 fp xe) ([] ++ pinsAt fp s5.heap) σ7 H7 s7 → (∃ m', m' < n ∧ W (i + 1) m' σ7 H7) →
         ∃ m, m < n ∧ ∃ i σ' H', Inv (cxComp X sc cl G.objs.size M s H2 fp xe) [] σ' H' s7 ∧ tn i s7.heap ∧ (∀ b ∈ fp, H' b = none) ∧ W i m σ' H' := fun {s7 σ7 H7} I7 ⟨m', hm, w7⟩ => by
       refine ⟨m', hm, i + 1, σ7, H7, I7.unpinned, T.keep _ _ _ st5 fun b hb o e => (I7.pin (b, o) (List.mem_append_right _ (List.mem_append_right _ (mem_pinsAt hb e)))).1, fun b hb => ?_, w7⟩
       obtain ⟨o, e, d⟩ := T.obj _ _ st5 b hb
       exact (I7.pin (b, o) (List.mem_append_right _ (List.mem_append_right _ (mem_pinsAt hb e)))).2.1
     refine thn (ht cl G.objs.size s H2 fp xe _ s6 σ6 H6 _ I6 q6) fun ok s7 ⟨H7, I7, q7⟩ => ?_
     cases ok with
     | false =>
       rw [if_neg Bool.false_ne_true] at q7 ⊢
       exact fin I7 (hN _ _ q7)
     | true =>
       rw [if_pos rfl] at q7 ⊢
       refine thn (he cl G.objs.size s H2 fp xe _ s7 σ6 H7 _ I7 q7) fun y s8 ⟨yv, H8, I8, r8, ys, hys, hlt, q8⟩ => ?_
       obtain ⟨z, its, k, rv, hl, e⟩ := I8.lstM hys
       refine call_meets F.slot_list_append ⟨_, e, rfl⟩ F.entry_list_append (F.args_list_append_2 _ _) (PySem.list_append _ its.toArray k y (by rw [List.size_toArray]; omega)) ⟨e, ?_⟩
       exact fin (I8.lset (its' := its ++ [y]) hys e (by simp) (rv.append (.cons r8 .nil)) (by rw [List.length_append, List.length_singleton]; omega)) (hN _ _ q8)
 exact codeAny_compStart_list loop (T.self X.A 0 _ _ _ st4 loop)
theorem pe_comp (osc : Scope) (N : List Str) (S : CompScope osc N sc M ρ) (hi : PI X tg iter wi) (hg : ∀ cl C s H fp xe, PG (cxComp X sc cl C M s H fp xe) tg g) (ht : ∀ cl C s H fp xe, PTs (cxComp X sc cl C M s H fp xe) ifs tt)
   (he : ∀ cl C s H fp xe, PE (cxComp X sc cl C M s H fp xe) elt te) (hosc : X.env.scope = osc := by rfl) (hN : X.N = N := by rfl) (hc : X.calm = true := by rfl) (hs : ∀ x, foldedSetIterable iter X.env x = pure x := by intro _; rfl) :
   PE X (.ListComp elt [⟨tg, iter, ifs, 0⟩] sc pos) (tComp wi ρ g tt te) := by
 intro pins s σ H Q I h
 have hcells : ∀ y ∈ sc.names, y.2 = .free → ∃ c, X.env.cells.lookup y.1 = some c := fun y hy hf => I.ok.has y.1 (by show X.env.scope.names.lookup y.1 = _ ∨ X.env.scope.names.lookup y.1 = _; rw [hosc]; exact S.fre y hy hf)
 rw [eval_ListComp]
 refine wpAny_comprehension_free (M := model X.prog X.w) (A := X.A) (E := X.xe) (e := .ListComp elt [⟨tg, iter, ifs, 0⟩] sc pos) rfl hs (closure_pure hcells) S.kind S.own (thn (hi pins s σ H _ I h) fun v s1 h1 => thn h1 fun itv s2 h2 => ?_)
 obtain ⟨_, _, _, _, _, _, I2, _⟩ := id h2
 refine comp_block (RR := fun acc C => compPost (model X.prog X.w) X.A X.xe none (EP X pins σ Q) acc C) osc hosc N hN S hc hg ht he I2 h2 fun D C H' s' mC I' nC fC q => ?_
 refine ⟨mC, nC, fun h' sb => ?_⟩
 obtain ⟨f0, f1, _, f3, f4, f5⟩ := fC
 exact ⟨.ref D, H', I'.turned (t' := s'.toks) (fun b o hb e => (sb.2 b hb).trans e) f0 f1 f3 f4 f5, rfl, q⟩
theorem ps_setC {j : Nat} {x : Str} {px spos : Pos} (osc : Scope) (N : List Str) (S : CompScope osc N sc M ρ) (hNd : X.N.Nodup) (hj : X.N[j]? = some x) (hx : Loc X.env.scope x) (hi : PI X tg iter wi) (hg : ∀ cl C s H fp xe, PG (cxComp X sc cl C M s H fp xe) tg g)
   (ht : ∀ cl C s H fp xe, PTs (cxComp X sc cl C M s H fp xe) ifs tt) (he : ∀ cl C s H fp xe, PE (cxComp X sc cl C M s H fp xe) elt te)
   (hsw : swapsWith (.ListComp elt [⟨tg, iter, ifs, 0⟩] sc pos) (some (.Name x px)) spos.line X.env = pure true := by rfl) (hosc : X.env.scope = osc := by rfl) (hN : X.N = N := by rfl) (hc : X.calm = true := by rfl) (hs : ∀ x, foldedSetIterable iter X.env x = pure x := by intro _; rfl)
   (hf : X.fn x = true ∨ X.env.scope.names.lookup x = some .local := by first | exact .inl rfl | exact .inr rfl | assumption) :
   PS X (.Assign [.Name x px] (.ListComp elt [⟨tg, iter, ifs, 0⟩] sc pos) spos) (tAsg (tComp wi ρ g tt te) (gName j)) := by
 intro pins s σ H D I h
 have hcells : ∀ y ∈ sc.names, y.2 = .free → ∃ c, X.env.cells.lookup y.1 = some c := fun y hy hf => I.ok.has y.1 (by show X.env.scope.names.lookup y.1 = _ ∨ X.env.scope.names.lookup y.1 = _; rw [hosc]; exact S.fre y hy hf)
 rw [exec_Assign_Name_used _ _ _ _ hsw]
 refine wpAny_bind (wpAny_standAt (wpAny_bind ?_))
 show wpAny (model X.prog X.w) X.A (do let _ ← comprehension (.ListComp elt [⟨tg, iter, ifs, 0⟩] sc pos) sc X.env (firstIterPos [⟨tg, iter, ifs, 0⟩] pos) (newList []) false (eval iter X.env) (some (assign (.Name x px) X.env))) _ X.xe s
 refine wpAny_bind (thn (Q := fun _ s' => SP X pins D .next s') (wpAny_comprehension_free (M := model X.prog X.w) (A := X.A) (E := X.xe) (e := .ListComp elt [⟨tg, iter, ifs, 0⟩] sc pos) (use := some (assign (.Name x px) X.env)) rfl hs (closure_pure hcells) S.kind S.own
   (thn (hi pins s σ H _ I h) fun v s1 h1 => thn h1 fun itv s2 h2 => ?_)) fun _ s' hq => wpAny_pure (wpAny_pure hq))
 obtain ⟨_, _, _, _, _, _, I2, _⟩ := id h2
 refine comp_block (Q := fun v H' => gName j v σ H' D.nx) (RR := fun acc C => compPost (model X.prog X.w) X.A X.xe (some (assign (.Name x px) X.env)) (fun _ s' => SP X pins D .next s') acc C) osc hosc N hN S hc hg ht he I2 h2 fun D' C H' s' mC I' nC fC q => ?_
 show wpAny _ _ (assign (.Name x px) X.env (.ref D')) _ _ s'
 refine wpAny_assign_Name (store_ok2 I' hNd hj hx (v := .ref D') rfl (fun s3 I3 ⟨a, sb, ha⟩ => ?_) hf)
 have hCa : C ≠ a := by
   rcases ha with e | e
   · rw [e]; exact fC.2.1
   · exact fun z => fC.2.2.2.2.1 x a e z.symm
 refine ⟨mC, nC.sameBut sb hCa, fun h' sb2 => ?_⟩
 obtain ⟨f0, f1, _, f3, f4, f5⟩ := fC
 exact ⟨_, H', I3.turned (t' := s3.toks) (fun b o hb e => (sb2.2 b hb).trans e) f0 f1 f3 f4 f5, q⟩
end
end L2
set_option Elab.async false
set_option linter.all false
set_option maxRecDepth 100000
set_option maxHeartbeats 16000000
namespace L2
open PySem PySem.Spec PyProof.Rows
section
variable {X : Cx} {tg : Expr}
theorem sl_listK {K : PySem.W.Frag} (h : X.K = K) : SlR X (rSlL K) := h ▸ sl_list
theorem ix_listK {K : PySem.W.Frag} (h : X.K = K) : IxR X (rIxL K) := h ▸ ix_list
theorem ix_tupK {K : PySem.W.Frag} (h : X.K = K) : IxR X (rIxT K) := h ▸ ix_tup
theorem op_in_seqK {K : PySem.W.Frag} (h : X.K = K) : OpR X (compareOp .In) (rIn K false) := h ▸ op_in_seq
theorem call_tuple_ofK {K : PySem.W.Frag} (h : X.K = K) : CallR X (.type "tuple") (fun xs H Q => ∃ p ys, xs = [.ref p] ∧ ((SqL K H p ys ∧ ∀ l, H l = none → Q (.ref l) (upd H l (.tup ys))) ∨ (SqT K H p ys ∧ Q (.ref p) H))) := h ▸ call_tuple_of
theorem pg_tupK {K : PySem.W.Frag} {pos : Pos} {es : List Expr} {k : Nat} {t : TGs} {n : Nat} (hK : X.K = K) (hc : X.calm = true) (h : PGs X es t) (hn : (assignEach es X.env).length = n := by rfl) (hst : (assignEach es X.env).findIdx? (·.1) = none := by rfl) : PG X (.Tuple es k pos) (gTup K n t) := hK ▸ pg_tup hc h hn hst
end
end L2
set_option Elab.async false
set_option linter.all false
set_option maxRecDepth 100000
set_option maxHeartbeats 16000000
namespace L2
open PySem PySem.Spec PyProof.Rows
noncomputable def PairAt (H : Hp) (v : V) (d : Str × Str) : Prop := ∃ p, v = .ref p ∧ H p = some (.tup [.str d.1, .str d.2]) ∧ NameOk d.1 ∧ NameOk d.2
noncomputable abbrev Pairs (H : Hp) : List V → List (Str × Str) → Prop := Paired (PairAt H)
theorem PairAt.mono {H H' : Hp} (s : Tups H H') {v : V} {t : Str × Str} (h : PairAt H v t) : PairAt H' v t := by
 obtain ⟨p, e, h, o⟩ := h
 exact ⟨p, e, s p _ h, o⟩
theorem Pairs.mono {H H' : Hp} (s : Tups H H') {vs : List V} {ts : List (Str × Str)} (h : Pairs H vs ts) : Pairs H' vs ts := Paired.mapP h fun _ _ q => q.mono s
structure PairsAt (H : Hp) (t : Addr) (ps : List (Str × Str)) : Prop where
 ex : ∃ vs, H t = some (.tup vs) ∧ Pairs H vs ps
 hi : ps.length ≤ 6
theorem PairsAt.mono {H H' : Hp} (s : Tups H H') {t : Addr} {ts : List (Str × Str)} (h : PairsAt H t ts) : PairsAt H' t ts := by
 obtain ⟨⟨vs, h1, h2⟩, hi⟩ := h
 exact ⟨⟨vs, s t _ h1, h2.mono s⟩, hi⟩
noncomputable def optV : Option Str → V
 | none => .non
 | some x => .str x
inductive Rw where
 | bring (p : Str) (ps : List (Str × Str))
 | give (o g : Str)
 | set (o : Str) (ts : List (Int × Th))
 | take (o : Str)
 | say (ts : List (Int × Th)) (w : Option Str)
 | need (ts : List (Int × Th))
 | ask (p : Str) (w : Option Str)
 | part (p : Str)
 | doo (p : Str)
noncomputable def RowAt (H : Hp) (r : Addr) : Rw → Prop
 | .bring p ps => ∃ t, H r = some (.tup [.str "bring", .str p, .ref t]) ∧ PairsAt H t ps
 | .give o g => H r = some (.tup [.str "give", .str o, .str g])
 | .set o ts => ∃ t, H r = some (.tup [.str "set", .str o, .ref t]) ∧ TermsAt H t ts
 | .take o => H r = some (.tup [.str "take", .str o])
 | .say ts w => ∃ t, H r = some (.tup [.str "say", .ref t, optV w]) ∧ TermsAt H t ts
 | .need ts => ∃ t, H r = some (.tup [.str "need", .ref t]) ∧ TermsAt H t ts
 | .ask p w => H r = some (.tup [.str "ask", .str p, optV w])
 | .part p => H r = some (.tup [.str "part", .str p])
 | .doo p => H r = some (.tup [.str "do", .str p])
theorem RowAt.mono {H H' : Hp} (s : Tups H H') {r : Addr} {rw : Rw} (h : RowAt H r rw) : RowAt H' r rw := by
 cases rw with
 | bring p ps => obtain ⟨t, h1, h2⟩ := h; exact ⟨t, s _ _ h1, h2.mono s⟩
 | give o g => exact s _ _ h
 | set o ts => obtain ⟨t, h1, h2⟩ := h; exact ⟨t, s _ _ h1, h2.mono s⟩
 | take o => exact s _ _ h
 | say ts w => obtain ⟨t, h1, h2⟩ := h; exact ⟨t, s _ _ h1, h2.mono s⟩
 | need ts => obtain ⟨t, h1, h2⟩ := h; exact ⟨t, s _ _ h1, h2.mono s⟩
 | ask p w => exact s _ _ h
 | part p => exact s _ _ h
 | doo p => exact s _ _ h
end L2
set_option Elab.async false
set_option linter.all false
set_option maxRecDepth 100000
set_option maxHeartbeats 16000000
namespace L2
open PySem PySem.Spec PyProof.Rows
noncomputable def ItEl (K : PySem.W.Frag) (a : Addr) : It :=
 ⟨fun i H => ∃ xs x, SqL K H a xs ∧ xs[i]? = some x,
  fun i H x H' => ∃ p v, (∀ xs, SqL K H a xs → xs[i]? = some v) ∧ H p = none ∧ x = .ref p ∧ H' = upd H p (.tup [.int i, v]),
  fun i H => ∃ xs, SqL K H a xs ∧ xs.length = i⟩
theorem turn_enumL {P : Program} {w : World} {K : PySem.W.Frag} {elts : List Expr} {k : Nat} {pos : Pos} (a e it : Addr) (hei : e ≠ it) :
   Turn P w K (.Tuple elts k pos) (ItEl K a) [e, it] e (fun i h => (∃ old, IsEnum h e it i old) ∧ h.IsListIter it a i) where
 mem := by simp
 obj := fun i h st b hb => by
   obtain ⟨⟨old, he⟩, o, ho, hc, hd⟩ := st
   rcases List.mem_cons.mp hb with z | hb
   · subst z
     exact ⟨_, he, fun v z => by
       have z' : Data.fields _ = Data.cell v := z
       cases z'⟩
   · obtain z := List.mem_singleton.mp hb
     subst z
     exact ⟨o, ho, fun v z => by rw [hd] at z; cases z⟩
 keep := fun i h h' st kk => by
   obtain ⟨⟨old, he⟩, o, ho, r⟩ := st
   exact ⟨⟨old, kk e (by simp) _ he⟩, o, kk it (by simp) o ho, r⟩
 item := by
   intro X hP hw hK hc i pins s σ H E I hf st hg
   subst hP hw hK
   obtain ⟨xs, x, hq, hx⟩ := hg
   obtain ⟨its, rv, p, hz⟩ := I.list hq
   obtain ⟨u, hu, ru⟩ := rv.get hx
   obtain ⟨⟨old, he⟩, hit⟩ := st
   have ht : s.heap.IsList a its.toArray := p.isList
   have hai : a ≠ it := by
     intro z
     obtain ⟨o, ho, hc1, _⟩ := id hit
     obtain ⟨o2, ho2, hc2, _⟩ := id ht
     rw [z, ho] at ho2
     cases ho2
     rw [hc1] at hc2
     exact absurd hc2 (by decide)
   have hae : a ≠ e := by
     intro z
     obtain ⟨o2, ho2, hc2, _⟩ := id ht
     have he' := he
     unfold IsEnum at he'
     rw [z, he'] at ho2
     cases ho2
     exact absurd (show Value.type "enumerate" = Value.type "list" from hc2) (by decide)
   have D := Draws.list (prog := X.prog) (w := X.w) (A := X.A.in1) (show X.A.in1.handled = none from I.ok.hd hc) it a hai its.toArray
   have hef : e ∉ [it, a] := by
     intro z
     rcases List.mem_cons.mp z with z | z
     · exact hei z
     · exact hae (List.mem_singleton.mp z).symm
   have W := WalksT.enumerateD D e hei hef (by simp)
   have hlt : i < its.toArray.size := by
     have h1 := (List.getElem?_eq_some_iff.mp hu).1
     simpa using h1
   refine W.item i s _ _ hlt ⟨⟨old, he⟩, hit, ht⟩ fun T vals h' tk hP hT hTup hM hk => ?_
   obtain ⟨t, y, hy, rfl⟩ := hP
   have ey : y = u := by
     have : its[i]? = some y := by simpa using hy
     rw [hu] at this
     exact (Option.some.inj this).symm
   subst ey
   have I1 : Inv X pins σ H { s with heap := h', toks := tk } := I.turnedL (ch := [e, it]) hk hf
   have hHT : H T = none := I.hok.fresh hT
   have fT : FpOk X pins H T := I.fpOk hT hHT
   refine ⟨_, rfl, ?_⟩
   refine W.go elts k pos i T { s with heap := h', toks := tk } _ _ hM fun h2 st2 hk2 => ?_
   have I2' := I1.turnedL (h' := h2) (t' := tk) (ch := [e, it]) hk2 hf
   have I2 : Inv X pins σ H { s with heap := h2, toks := tk } := I2'
   have hT2 : h2.IsTuple T #[.int i t, y] := by
     obtain ⟨o, ho, r⟩ := hTup
     exact ⟨o, hk2 T o (W.apart i T h' hM) ho, r⟩
   have I3 : Inv X pins σ (upd H T (.tup [.int i, x])) { s with heap := h2, toks := tk } :=
     I2.track fT ⟨by show 2 ≤ sizeLine; decide, [.int i t, y], .cons ⟨t, rfl⟩ (.cons ru .nil), hT2⟩
   refine ⟨.ref T, _, I3, rfl, ⟨T, x, fun ys hy' => by rw [I.list_inj hy' hq]; exact hx, hHT, rfl, rfl⟩, ⟨by simpa using st2.1, st2.2.1⟩, fun b hb => ?_⟩
   rw [upd_ne (fun z => W.apart i T h' hM (by rw [← z]; exact hb))]
   exact (hf b hb).1
 done := by
   intro X hP hw hK hc i pins s σ H E I hf st hg
   subst hP hw hK
   obtain ⟨xs, hq, hx⟩ := hg
   obtain ⟨its, rv, p, hz⟩ := I.list hq
   obtain ⟨⟨old, he⟩, hit⟩ := st
   have ht : s.heap.IsList a its.toArray := p.isList
   have hai : a ≠ it := by
     intro z
     obtain ⟨o, ho, hc1, _⟩ := id hit
     obtain ⟨o2, ho2, hc2, _⟩ := id ht
     rw [z, ho] at ho2
     cases ho2
     rw [hc1] at hc2
     exact absurd hc2 (by decide)
   have hae : a ≠ e := by
     intro z
     obtain ⟨o2, ho2, hc2, _⟩ := id ht
     have he' := he
     unfold IsEnum at he'
     rw [z, he'] at ho2
     cases ho2
     exact absurd (show Value.type "enumerate" = Value.type "list" from hc2) (by decide)
   have D := Draws.list (prog := X.prog) (w := X.w) (A := X.A.in1) (show X.A.in1.handled = none from I.ok.hd hc) it a hai its.toArray
   have hef : e ∉ [it, a] := by
     intro z
     rcases List.mem_cons.mp z with z | z
     · exact hei z
     · exact hae (List.mem_singleton.mp z).symm
   have W := WalksT.enumerateD D e hei hef (by simp)
   have hl := rv.length
   have hn : i = its.toArray.size := by simp; omega
   refine W.done s _ _ ⟨⟨old, by rw [← hn]; exact he⟩, by rw [← hn]; exact hit, ht⟩ fun h' tk hk => ⟨rfl, ?_⟩
   exact I.turnedL (ch := [e, it]) hk hf
 self := fun _ _ _ _ _ st h => by
   obtain ⟨⟨old, he⟩, _⟩ := st
   exact wpAny_pyIter_enum he h
section
variable {X : Cx} {elts : List Expr} {k : Nat} {tpos : Pos}
noncomputable def iEnumL (K : PySem.W.Frag) (ta : TA) : TI := fun σ H R => ta σ H fun vs H1 => ∃ a, vs = [.ref a] ∧ (∃ xs, SqL K H1 a xs) ∧ R (ItEl K a) H1
theorem pi_enumL {a : Expr} {ta : TA} {p pos : Pos} (hg : Gl X "enumerate") (hm : X.mg "enumerate" = none) (ha : PA X [a] ta) (hs : starEach [a] X.env = [(false, eval a X.env)] := by rfl) :
   PI X (.Tuple elts k tpos) (.Call (.Name "enumerate" p) [a] [] pos) (iEnumL X.K ta) := by
 intro pins s σ H R I h
 refine Call_ (ld_blt I hg hm boot_enumerate (PyProof.Rows.callWith_type1 (thn (ha pos pins s σ H _ I h) fun us s1 ⟨vs, H1, I1, r1, q1⟩ => ?_) hs rfl))
 obtain ⟨a, e, ⟨xs, hq⟩, q⟩ := q1
 subst e
 cases r1 with
 | cons r rr =>
   cases rr
   cases r
   obtain ⟨its, rv, p, hz⟩ := I1.list hq
   refine call_enumerate_list p.isList fun h' he hit hsz hk => ?_
   have I2 : Inv X pins σ H1 { s1 with heap := h' } := I1.kept (t' := s1.toks) hk
   refine wpAny_pyIter_enum he ?_
   refine ⟨s1.heap.objs.size + 1, [s1.heap.objs.size + 1, s1.heap.objs.size], _, _, H1, rfl, I2, turn_enumL a (s1.heap.objs.size + 1) s1.heap.objs.size (Nat.succ_ne_self _), ⟨⟨_, he⟩, hit⟩, fun b hb => ?_, q⟩
   have hb' : s1.heap.objs.size ≤ b := by
     rcases List.mem_cons.mp hb with z | z
     · rw [z]; exact Nat.le_succ _
     · rw [List.mem_singleton.mp z]; exact Nat.le_refl _
   exact I1.fpOk hb' (I1.hok.fresh hb')
end
end L2
set_option Elab.async false
set_option linter.all false
set_option maxRecDepth 100000
set_option maxHeartbeats 16000000
namespace L2
open PySem PySem.Spec PyProof.Rows
theorem cps_app (a b : Str) : (a ++ b).cps.toList = a.cps.toList ++ b.cps.toList := by
 show (a.cps ++ b.cps).toList = _
 simp
noncomputable abbrev Pt := Str × List Rw
noncomputable def RowV (H : Hp) (v : V) (rw : Rw) : Prop := ∃ r, v = .ref r ∧ RowAt H r rw
noncomputable abbrev RowsAt (H : Hp) : List V → List Rw → Prop := Paired (RowV H)
theorem RowsAt.mono {H H' : Hp} (s : Tups H H') {vs : List V} {rs : List Rw} (h : RowsAt H vs rs) : RowsAt H' vs rs := Paired.mapP h fun _ _ ⟨r, e, q⟩ => ⟨r, e, q.mono s⟩
noncomputable def PartAt (H : Hp) (v : V) (p : Pt) : Prop := ∃ t u vs, v = .ref t ∧ H t = some (.tup [.str p.1, .ref u]) ∧ H u = some (.tup vs) ∧ RowsAt H vs p.2
theorem PartAt.mono {H H' : Hp} (s : Tups H H') {v : V} {p : Pt} (h : PartAt H v p) : PartAt H' v p := by
 obtain ⟨t, u, vs, e, h1, h2, h3⟩ := h
 exact ⟨t, u, vs, e, s _ _ h1, s _ _ h2, h3.mono s⟩
end L2
set_option Elab.async false
set_option linter.all false
set_option maxRecDepth 100000
set_option maxHeartbeats 16000000
namespace L2
open PySem PySem.Spec PyProof.Rows
section
variable {κ : Type} [DecidableEq κ]
noncomputable def valV (kvs : List (κ × V)) (k : κ) : Option V := (kvs.find? fun kv => decide (kv.1 = k)).map (·.2)
noncomputable def putK (kvs : List (κ × V)) (k : κ) (v : V) : List (κ × V) :=
 if (kvs.any fun kv => decide (kv.1 = k)) = true then kvs.map (fun kv => if kv.1 = k then (kv.1, v) else kv) else kvs ++ [(k, v)]
theorem valV_pos {p : κ × V} {r : List (κ × V)} {k : κ} (e : p.1 = k) : valV (p :: r) k = some p.2 := by simp [valV, List.find?_cons, e]
theorem valV_neg {p : κ × V} {r : List (κ × V)} {k : κ} (e : ¬ p.1 = k) : valV (p :: r) k = valV r k := by simp [valV, List.find?_cons, e]
theorem valV_any (k : κ) : ∀ kvs : List (κ × V), (kvs.any fun kv => decide (kv.1 = k)) = (valV kvs k).isSome
 | [] => rfl
 | p :: r => by
   rw [List.any_cons]
   by_cases e : p.1 = k
   · simp only [valV_pos e, decide_eq_true e, Bool.true_or, Option.isSome_some]
   · rw [valV_neg e, decide_eq_false e, Bool.false_or]; exact valV_any k r
theorem valV_map (k j : κ) (y : V) : ∀ kvs : List (κ × V), valV (kvs.map fun kv => if kv.1 = k then (kv.1, y) else kv) j = (valV kvs j).map fun x => if j = k then y else x
 | [] => rfl
 | p :: r => by
   have ih := valV_map k j y r
   rw [List.map_cons]
   by_cases h : p.1 = k
   · rw [if_pos h]
     by_cases e : p.1 = j
     · rw [valV_pos (p := (p.1, y)) e, valV_pos e, Option.map_some, if_pos (e.symm.trans h)]
     · rw [valV_neg (p := (p.1, y)) e, valV_neg e, ih]
   · rw [if_neg h]
     by_cases e : p.1 = j
     · rw [valV_pos (p := p) e, valV_pos e, Option.map_some, if_neg (fun z => h (e.trans z))]
     · rw [valV_neg (p := p) e, valV_neg e, ih]
theorem valV_snoc (k j : κ) (y : V) : ∀ kvs : List (κ × V), valV kvs k = none → valV (kvs ++ [(k, y)]) j = if j = k then some y else valV kvs j
 | [], _ => by
   by_cases e : k = j
   · rw [if_pos e.symm]; exact valV_pos (p := (k, y)) e
   · rw [if_neg (fun z => e z.symm)]; exact valV_neg (p := (k, y)) e
 | p :: r, hn => by
   rw [List.cons_append]
   have hk : ¬ p.1 = k := fun z => by rw [valV_pos z] at hn; cases hn
   rw [valV_neg hk] at hn
   have ih := valV_snoc k j y r hn
   by_cases e : p.1 = j
   · rw [valV_pos e, valV_pos e, if_neg (fun z => hk (e.trans z))]
   · rw [valV_neg e, valV_neg e, ih]
theorem valV_put (kvs : List (κ × V)) (k j : κ) (y : V) : valV (putK kvs k y) j = if j = k then some y else valV kvs j := by
 unfold putK
 by_cases a : (kvs.any fun kv => decide (kv.1 = k)) = true
 · rw [if_pos a, valV_map]
   rw [valV_any] at a
   by_cases e : j = k
   · obtain ⟨x, hx⟩ := Option.isSome_iff_exists.mp a
     rw [if_pos e, e, hx, Option.map_some, if_pos rfl]
   · rw [if_neg e]
     cases valV kvs j with
     | none => rfl
     | some x => rw [Option.map_some, if_neg e]
 · rw [if_neg a]
   refine valV_snoc k j y kvs ?_
   rw [valV_any] at a
   cases q : valV kvs k with
   | none => rfl
   | some x => rw [q] at a; exact (a rfl).elim
theorem length_putK (kvs : List (κ × V)) (k : κ) (v : V) : (putK kvs k v).length ≤ kvs.length + 1 := by
 unfold putK
 split
 · rw [List.length_map]; omega
 · rw [List.length_append, List.length_cons, List.length_nil]; omega
theorem RelO.isSome_eq {o : Option V} {u : Option Value} (r : RelO o u) : o.isSome = u.isSome := by
 cases o with
 | none => cases u with
   | none => rfl
   | some _ => exact (show False from r).elim
 | some _ => cases u with
   | none => exact (show False from r).elim
   | some _ => rfl
theorem KV.val {kvs : List (κ × V)} {vs : List (κ × Value)} (r : KV kvs vs) (k : κ) : RelO (valV kvs k) (valueAt vs k) := by
 unfold KV at r
 induction r with
 | nil => exact True.intro
 | @cons p q ps qs h t ih =>
   obtain ⟨h1, h2⟩ := h
   by_cases e : p.1 = k
   · have e' : q.1 = k := h1.symm.trans e
     have b : valueAt (q :: qs) k = some q.2 := by simp [valueAt, List.find?_cons, e']
     rw [valV_pos e, b]; exact h2
   · have e' : ¬ q.1 = k := fun z => e (h1.trans z)
     have b : valueAt (q :: qs) k = valueAt qs k := by simp [valueAt, List.find?_cons, e']
     rw [valV_neg e, b]; exact ih
theorem KV.any {kvs : List (κ × V)} {vs : List (κ × Value)} (r : KV kvs vs) (k : κ) : (kvs.any fun kv => decide (kv.1 = k)) = vs.any fun kv => decide (kv.1 = k) := by
 unfold KV at r
 induction r with
 | nil => rfl
 | cons h t ih => rw [List.any_cons, List.any_cons, ih, h.1]
theorem KV.repl {kvs : List (κ × V)} {vs : List (κ × Value)} (r : KV kvs vs) (k : κ) {y : V} {u : Value} (ry : RelV y u) :
   KV (kvs.map fun kv => if kv.1 = k then (kv.1, y) else kv) (vs.map fun kv => if kv.1 = k then (kv.1, u) else kv) := by
 unfold KV at r ⊢
 induction r with
 | nil => exact .nil
 | @cons p q ps qs h t ih =>
   rw [List.map_cons, List.map_cons]
   refine .cons ?_ ih
   obtain ⟨h1, h2⟩ := h
   by_cases e : p.1 = k
   · rw [if_pos e, if_pos (h1.symm.trans e)]; exact ⟨h1, ry⟩
   · rw [if_neg e, if_neg (fun z => e (h1.trans z))]; exact ⟨h1, h2⟩
theorem KV.put {kvs : List (κ × V)} {vs : List (κ × Value)} (r : KV kvs vs) (k : κ) {y : V} {u : Value} (ry : RelV y u) : KV (putK kvs k y) (stored vs k u) := by
 unfold putK stored
 rw [r.any k]
 by_cases e : (vs.any fun kv => decide (kv.1 = k)) = true
 · rw [if_pos e, if_pos e]; exact r.repl k ry
 · rw [if_neg e, if_neg e]; exact Paired.snoc r ⟨rfl, ry⟩
theorem KV.length {kvs : List (κ × V)} {vs : List (κ × Value)} (r : KV kvs vs) : kvs.length = vs.length := Paired.length r
end
theorem kV_is {P : Program} {w : World} {k : Key} {u : Value} (r : RelV (kV k) u) : (mixKind P w).is k u = true := by
 cases k with
 | inl i => obtain ⟨t, e⟩ := (show ∃ t, u = Value.int i t from r); subst e; exact mixKind_int P w i t
 | inr x => obtain ⟨t, e⟩ := (show ∃ t, u = Value.str x t from r); subst e; exact mixKind_str P w x t
theorem items_are {P : Program} {w : World} : ∀ {ks : List Key} {us : List Value}, Vals (ks.map kV) us → ItemsAre (mixKind P w) ks us
 | [], _, r => by rw [List.map_nil] at r; cases r; exact .nil
 | k :: ks, _, r => by
   rw [List.map_cons] at r
   cases r with
   | cons h t => exact .cons (kV_is h) (items_are t)
noncomputable abbrev KT (H : Hp) : List (List Key × V) → List (List Key × Addr × Value) → Prop := Paired fun p q => p.1 = q.1 ∧ H q.2.1 = some (.tup (p.1.map kV)) ∧ RelV p.2 q.2.2
theorem KT.val {H : Hp} {kvs : List (List Key × V)} {xs : List (List Key × Addr × Value)} (r : KT H kvs xs) (k : List Key) : RelO (valV kvs k) ((atKey xs k).map (·.2)) := by
 induction r with
 | nil => exact True.intro
 | @cons p q ps qs h t ih =>
   obtain ⟨h1, _, h2⟩ := h
   by_cases e : p.1 = k
   · have e' : q.1 = k := h1.symm.trans e
     have b : atKey (q :: qs) k = some q.2 := by simp [atKey, List.find?_cons, e']
     rw [valV_pos e, b]; exact h2
   · have e' : ¬ q.1 = k := fun z => e (h1.trans z)
     have b : atKey (q :: qs) k = atKey qs k := by simp [atKey, List.find?_cons, e']
     rw [valV_neg e, b]; exact ih
theorem KT.repl {H : Hp} {kvs : List (List Key × V)} {xs : List (List Key × Addr × Value)} (r : KT H kvs xs) (k : List Key) {y : V} {u : Value} (ry : RelV y u) :
   KT H (kvs.map fun kv => if kv.1 = k then (kv.1, y) else kv) (xs.map (putAt k u)) := by
 induction r with
 | nil => exact .nil
 | @cons p q ps qs h t ih =>
   rw [List.map_cons, List.map_cons]
   refine .cons ?_ ih
   obtain ⟨h1, h2, h3⟩ := h
   unfold putAt
   by_cases e : p.1 = k
   · rw [if_pos e, if_pos (h1.symm.trans e)]; exact ⟨h1, h2, ry⟩
   · rw [if_neg e, if_neg (fun z => e (h1.trans z))]; exact ⟨h1, h2, h3⟩
theorem KT.put {H : Hp} {kvs : List (List Key × V)} {xs : List (List Key × Addr × Value)} (r : KT H kvs xs) (k : List Key) {b : Addr} {y : V} {u : Value} (hb : H b = some (.tup (k.map kV))) (ry : RelV y u) :
   KT H (putK kvs k y) (storedH xs k b u) := by
 have e : (kvs.any fun kv => decide (kv.1 = k)) = (atKey xs k).isSome := by
   rw [valV_any, (r.val k).isSome_eq, Option.isSome_map]
 unfold putK storedH
 rw [e]
 by_cases q : (atKey xs k).isSome = true
 · rw [if_pos q, if_pos q]; exact r.repl k ry
 · rw [if_neg q, if_neg q]; exact Paired.snoc r ⟨rfl, hb, ry⟩
theorem KT.keeps {H H' : Hp} {kvs : List (List Key × V)} {xs : List (List Key × Addr × Value)} (r : KT H kvs xs) (ht : ∀ b ys, H b = some (.tup ys) → H' b = some (.tup ys)) : KT H' kvs xs :=
 Paired.mapP r fun _ _ z => ⟨z.1, ht _ _ z.2.1, z.2.2⟩
section
variable {P : Program} {w : World} {H : Hp} {h : Heap} {a : Addr}
theorem rd_of {u : HO} (ok : HOk P w H h) (e : Rd H a u) : ObjOk P w H h a u := e.ok ok
theorem dk_rd {kvs : List (Key × V)} (ok : HOk P w H h) (e : Rd H a (.dK kvs)) : kvs.length ≤ sizeLine ∧ (a == sysModules) = false ∧ ∃ vs, KV kvs vs ∧ h.DictOf (mixKind P w) a vs :=
 show ObjOk P w H h a (.dK kvs) from rd_of ok e
theorem dk_of {kvs : List (Key × V)} (ok : HOk P w H h) (e : H a = some (.dK kvs)) : kvs.length ≤ sizeLine ∧ (a == sysModules) = false ∧ ∃ vs, KV kvs vs ∧ h.DictOf (mixKind P w) a vs := dk_rd ok (.inl e)
theorem key_of {ks : List Key} (ok : HOk P w H h) (e : H a = some (.tup (ks.map kV))) : (tupleKind (mixKind P w)).is h ks a := by
 obtain ⟨_, its, r, o, h1, h2, n, h3⟩ := (show ObjOk P w H h a (.tup (ks.map kV)) from ok a _ e)
 exact ⟨o, its.toArray, n, h1, h2, h3, by simpa using items_are r⟩
theorem dt_rd {kvs : List (List Key × V)} (ok : HOk P w H h) (e : Rd H a (.dT kvs)) : kvs.length ≤ sizeLine ∧ (a == sysModules) = false ∧
   ∃ xs, KT H kvs xs ∧ h.DictOfH (tupleKind (mixKind P w)) a xs := by
 obtain ⟨z, y, xs, r, o, es, ep, h1, h2, h3, h4, h5⟩ := (show ObjOk P w H h a (.dT kvs) from rd_of ok e)
 refine ⟨z, y, xs, r, o, es, ep, h1, h2, h3, h4, fun x hx => ?_, h5⟩
 have all : ∀ {l : List (List Key × V)} {m : List (List Key × Addr × Value)}, KT H l m → ∀ x ∈ m, (tupleKind (mixKind P w)).is h x.1 x.2.1 := by
   intro l m q
   induction q with
   | nil => intro x hx; exact nomatch hx
   | @cons p q ps qs hq t ih =>
     intro x hx
     rcases List.mem_cons.mp hx with e | hx
     · subst e
       exact key_of ok (by rw [← hq.1]; exact hq.2.1)
     · exact ih x hx
 exact all r x hx
theorem dt_of {kvs : List (List Key × V)} (ok : HOk P w H h) (e : H a = some (.dT kvs)) : kvs.length ≤ sizeLine ∧ (a == sysModules) = false ∧
   ∃ xs, KT H kvs xs ∧ h.DictOfH (tupleKind (mixKind P w)) a xs := dt_rd ok (.inl e)
end
noncomputable def DGet (H : Hp) (a : Addr) (y : V) (r : Option V) : Prop :=
 (∃ kvs k, Rd H a (.dK kvs) ∧ y = kV k ∧ r = valV kvs k) ∨ ∃ kvs k b, Rd H a (.dT kvs) ∧ y = .ref b ∧ H b = some (.tup (k.map kV)) ∧ r = valV kvs k
noncomputable def DPut (H : Hp) (a : Addr) (y v : V) (H' : Hp) : Prop :=
 (∃ kvs k, H a = some (.dK kvs) ∧ y = kV k ∧ kvs.length < sizeLine ∧ H' = upd H a (.dK (putK kvs k v))) ∨
 ∃ kvs k b, H a = some (.dT kvs) ∧ y = .ref b ∧ H b = some (.tup (k.map kV)) ∧ kvs.length < sizeLine ∧ H' = upd H a (.dT (putK kvs k v))
theorem DGet.k {H : Hp} {a : Addr} {kvs : List (Key × V)} {k : Key} (e : H a = some (.dK kvs)) : DGet H a (kV k) (valV kvs k) := .inl ⟨kvs, k, .inl e, rfl, rfl⟩
theorem DGet.t {H : Hp} {a b : Addr} {kvs : List (List Key × V)} {k : List Key} (e : H a = some (.dT kvs)) (eb : H b = some (.tup (k.map kV))) : DGet H a (.ref b) (valV kvs k) := .inr ⟨kvs, k, b, .inl e, rfl, eb, rfl⟩
theorem DPut.k {H : Hp} {a : Addr} {kvs : List (Key × V)} {k : Key} {v : V} (e : H a = some (.dK kvs)) (hl : kvs.length < sizeLine) : DPut H a (kV k) v (upd H a (.dK (putK kvs k v))) := .inl ⟨kvs, k, e, rfl, hl, rfl⟩
theorem DPut.t {H : Hp} {a b : Addr} {kvs : List (List Key × V)} {k : List Key} {v : V} (e : H a = some (.dT kvs)) (eb : H b = some (.tup (k.map kV))) (hl : kvs.length < sizeLine) :
   DPut H a (.ref b) v (upd H a (.dT (putK kvs k v))) := .inr ⟨kvs, k, b, e, rfl, eb, hl, rfl⟩
section
variable {X : Cx} {pins : List (Addr × Obj)} {σ : St} {H : Hp} {s : Shared} {a : Addr} {y v : V} {u r : Value} {o : Option V} {A : Around} {E : Value → Shared → Prop}
theorem Inv.big (I : Inv X pins σ H s) : sysModules < s.heap.objs.size := by
 have h : mainGlobals < s.heap.objs.size := (I.mod.glob.keeps I.bk).lt
 exact Nat.lt_trans (by decide) h
theorem d_getItem {Q : Value → Shared → Prop} (hu : A.units + 1 < cLine) (I : Inv X pins σ H s) (g : DGet H a y (some v)) (ry : RelV y u) (h : ∀ w' s', Inv X pins σ H s' → RelV v w' → Q w' s') :
   wpAny (model X.prog X.w) A (getItem (.ref a) u) Q E s := by
 rcases g with ⟨kvs, k, e, ey, l⟩ | ⟨kvs, k, b, e, ey, eb, l⟩
 · subst ey
   obtain ⟨z, hd, vs, rel, dd⟩ := dk_rd I.hok e
   obtain ⟨w', hw, rw'⟩ := RelO.some_of (v := v) (o := valueAt vs k) (by rw [l]; exact rel.val k)
   exact wpAny_getItem_of (kV_is ry) dd.mapOf hw (h w' _ (I.tok _) rw')
 · subst ey
   cases (show u = Value.ref b from ry)
   obtain ⟨z, hd, xs, rel, dd⟩ := dt_rd I.hok e
   obtain ⟨w', hw, rw'⟩ := RelO.some_of (v := v) (o := (atKey xs k).map (·.2)) (by rw [l]; exact rel.val k)
   obtain ⟨p, hp, hp2⟩ := Option.map_eq_some_iff.mp hw
   refine wpAny_getItem_heap (tupleKind_room_in1 hu) (key_of I.hok eb) dd hp ?_
   rw [hp2]
   exact h w' _ (I.tok _) rw'
theorem d_in {Q : Value → Shared → Prop} (hu : A.units + 1 < cLine) (I : Inv X pins σ H s) (g : DGet H a y o) (ry : RelV y u) (h : ∀ s', Inv X pins σ H s' → Q (.bool o.isSome) s') :
   wpAny (model X.prog X.w) A (compareOp .In u (.ref a)) Q E s := by
 rcases g with ⟨kvs, k, e, ey, l⟩ | ⟨kvs, k, b, e, ey, eb, l⟩
 · subst ey
   obtain ⟨z, hd, vs, rel, dd⟩ := dk_rd I.hok e
   refine wpAny_in_of (kV_is ry) hd dd.mapOf ?_
   rw [← (rel.val k).isSome_eq, ← l]
   exact h _ (I.tok _)
 · subst ey
   cases (show u = Value.ref b from ry)
   obtain ⟨z, hd, xs, rel, dd⟩ := dt_rd I.hok e
   refine wpAny_in_heap (tupleKind_room_in1 hu) (key_of I.hok eb) hd dd ?_
   have q := (rel.val k).isSome_eq
   rw [Option.isSome_map] at q
   rw [← q, ← l]
   exact h _ (I.tok _)
theorem d_notIn {Q : Value → Shared → Prop} (hu : A.units + 1 < cLine) (I : Inv X pins σ H s) (g : DGet H a y o) (ry : RelV y u) (h : ∀ s', Inv X pins σ H s' → Q (.bool (!o.isSome)) s') :
   wpAny (model X.prog X.w) A (compareOp .NotIn u (.ref a)) Q E s := by
 rcases g with ⟨kvs, k, e, ey, l⟩ | ⟨kvs, k, b, e, ey, eb, l⟩
 · subst ey
   obtain ⟨z, hd, vs, rel, dd⟩ := dk_rd I.hok e
   refine wpAny_notIn_of (kV_is ry) hd dd.mapOf ?_
   rw [← (rel.val k).isSome_eq, ← l]
   exact h _ (I.tok _)
 · subst ey
   cases (show u = Value.ref b from ry)
   obtain ⟨z, hd, xs, rel, dd⟩ := dt_rd I.hok e
   refine wpAny_notIn_heap (tupleKind_room_in1 hu) (key_of I.hok eb) hd dd ?_
   have q := (rel.val k).isSome_eq
   rw [Option.isSome_map] at q
   rw [← q, ← l]
   exact h _ (I.tok _)
theorem d_write {h' : Heap} {t' : Nat} {ob : HO} (I : Inv X pins σ H s) (mu : Mut (H a)) (hs : Heap.SameBut a s.heap h') (he : ∃ q, h'.get? a = some q) (new : ObjOk X.prog X.w (upd H a ob) h' a ob) :
   Inv X pins σ (upd H a ob) { s with heap := h', toks := t' } :=
 I.write (x := a) (e := a) mu (.inl rfl) (fun b q hb z => (hs.2 b hb).trans z) he new
theorem dk_new {P : Program} {w : World} {H' : Hp} {h' : Heap} {kvs : List (Key × V)} {vs : List (Key × Value)} (z : kvs.length ≤ sizeLine) (hd : (a == sysModules) = false) (rel : KV kvs vs) (dd : h'.DictOf (mixKind P w) a vs) :
   ObjOk P w H' h' a (.dK kvs) := ⟨z, hd, vs, rel, dd⟩
theorem d_setItem {H' : Hp} {Q : Unit → Shared → Prop} (hu : A.units + 1 < cLine) (I : Inv X pins σ H s) (g : DPut H a y v H') (ry : RelV y u) (rv : RelV v r) (h : ∀ s', Inv X pins σ H' s' → Q () s') :
   wpAny (model X.prog X.w) A (setItem (.ref a) u r) Q E s := by
 rcases g with ⟨kvs, k, e, ey, l, eH⟩ | ⟨kvs, k, b, e, ey, eb, l, eH⟩
 · subst ey eH
   obtain ⟨z, hd, vs, rel, dd⟩ := dk_of I.hok e
   have hz : vs.length ≤ sizeLine := by rw [← rel.length]; exact z
   have hl : (putK kvs k v).length ≤ sizeLine := by have := length_putK kvs k v; omega
   refine wpAny_setItem_pairs (hsz := hz) (kV_is ry) dd fun h' dd' hs => h _ ?_
   have he : ∃ q, h'.get? a = some q := let ⟨q, _, _, hq, _⟩ := dd'; ⟨q, hq⟩
   exact d_write I (by rw [e]; exact True.intro) hs he (dk_new hl hd (rel.put k rv) dd')
 · subst ey eH
   cases (show u = Value.ref b from ry)
   obtain ⟨z, hd, xs, rel, dd⟩ := dt_of I.hok e
   have hz : xs.length ≤ sizeLine := by rw [← Paired.length rel]; exact z
   have hl : (putK kvs k v).length ≤ sizeLine := by have := length_putK kvs k v; omega
   refine wpAny_setItem_heap (hsz := hz) (tupleKind_room_in1 hu) (key_of I.hok eb) dd fun h' dd' hs => h _ ?_
   obtain ⟨q, es, ep, hq, h2, h3, h4, _, h5⟩ := dd'
   refine d_write I (by rw [e]; exact True.intro) hs ⟨q, hq⟩ ⟨hl, hd, _, (rel.put k eb rv).keeps fun c ys ec => ?_, q, es, ep, hq, h2, h3, h4, h5⟩
   rw [upd_ne (ne_of ec e (fun z => nomatch z))]
   exact ec
end
section
variable {X : Cx} {pins : List (Addr × Obj)} {σ : St} {H : Hp} {s : Shared} {a : Addr} {kvs : List (Key × V)} {k : Key} {u : Value} {A : Around} {E : Value → Shared → Prop}
end
noncomputable def NoSl (i : Expr) : Prop := ∀ ov iv, subscripted i false ov iv = operate [ov, iv] (getItem ov iv)
theorem subD_of {prog : Program} {w : World} {A : Around} {E : Value → Shared → Prop} {s : Shared} {env : Env} {value slice : Expr} {pos : Pos} {T id : String} {Q : Value → Shared → Prop}
   (hl : typeLookup (.type T) "__getitem__" = pure (some (.builtin id))) (hs : NoSl slice)
   (h : wpAny (model prog w) A (eval value env) (fun o s₁ => wpAny (model prog w) A (eval slice env) (fun i s₂ => s₂.TypeIs o T ∧ wpAny (model prog w) A (getItem o i) Q E s₂) E s₁) E s) :
   wpAny (model prog w) A (eval (.Subscript value slice pos) env) Q E s := by
 refine Subscript_ (wpAny_mono h (fun o s₁ h₁ => wpAny_mono h₁ (fun i s₂ h₂ => ?_) fun _ _ x => x) fun _ _ x => x)
 obtain ⟨hT, h₂⟩ := h₂
 unfold subscriptTail
 refine wpAny_bind ?_
 rw [getitemInPython_of_ne hT.not_modules]
 refine wpAny_bind (wpAny_specialOf hT hl ?_)
 have fin : wpAny (model prog w) A (subscripted slice false o i) (fun r s₃ => wpAny (model prog w) A (letTemporaryGo value o r >>= fun _ => pure r) Q E s₃) E s₂ := by
   rw [hs o i]
   exact wpAny_operating (wpAny_mono h₂ (fun r s₃ h₃ => wpAny_bind (wpAny_letTemporaryGo (wpAny_pure h₃))) fun _ _ x => x)
 first
   | exact wpAny_pure (wpAny_bind fin)
   | exact wpAny_bind (wpAny_pure (wpAny_bind fin))
   | exact wpAny_bind fin
theorem dict_typeIs {X : Cx} {pins : List (Addr × Obj)} {σ : St} {H : Hp} {s : Shared} {a : Addr} {y : V} {o : Option V} (I : Inv X pins σ H s) (g : DGet H a y o) : s.TypeIs (.ref a) "dict" := by
 rcases g with ⟨kvs, k, e, _, _⟩ | ⟨kvs, k, b, e, _, _, _⟩
 · obtain ⟨_, _, vs, _, dd⟩ := dk_rd I.hok e
   exact dd.typeIs
 · obtain ⟨_, _, xs, _, dd⟩ := dt_rd I.hok e
   exact dd.typeIs
noncomputable def tDGet (td ty : TE) : TE := fun σ H Q => td σ H fun x H1 => ty σ H1 fun y H2 => ∃ a v, x = .ref a ∧ DGet H2 a y (some v) ∧ Q v H2
noncomputable def tDIn (ty td : TE) : TE := fun σ H Q => ty σ H fun y H1 => td σ H1 fun x H2 => ∃ a o, x = .ref a ∧ DGet H2 a y o ∧ Q (.bl o.isSome) H2
noncomputable def tDNotIn (ty td : TE) : TE := fun σ H Q => ty σ H fun y H1 => td σ H1 fun x H2 => ∃ a o, x = .ref a ∧ DGet H2 a y o ∧ Q (.bl (!o.isSome)) H2
noncomputable def sDPut (td ty tv : TE) : TS := fun D σ H => tv σ H fun v H1 => td σ H1 fun x H2 => ty σ H2 fun y H3 => ∃ a H4, x = .ref a ∧ DPut H3 a y v H4 ∧ D.nx σ H4
section
variable {X : Cx} {o i e value : Expr} {pos pos' tpos : Pos} {td ty tv : TE}
theorem pe_dget (hu : X.A.units + 1 < cLine) (ho : PE X o td) (hi : PE X i ty) (hs : NoSl i) : PE X (.Subscript o i pos) (tDGet td ty) := by
 intro pins s σ H Q I h
 refine subD_of PySem.F.slot_dict_getitem.lookup hs (thn (ho pins s σ H _ I h) fun u s1 ⟨x, H1, I1, rx, q1⟩ => thn (hi pins s1 σ H1 _ I1 q1) fun iv s2 ⟨y, H2, I2, ry, a, v, ex, g, q2⟩ => ?_)
 subst ex
 obtain rfl : u = Value.ref a := rx
 exact ⟨dict_typeIs I2 g, d_getItem hu I2 g ry fun w' s3 I3 rw' => ⟨v, H2, I3, rw', q2⟩⟩
theorem pc_din (hu : X.A.units + 1 < cLine) (hi : PE X i ty) (ho : PE X o td) : PC X .In i o (tDIn ty td) := by
 intro pins s σ H Q I h
 refine thn (hi pins s σ H _ I h) fun iv s1 ⟨y, H1, I1, ry, q1⟩ => thn (ho pins s1 σ H1 _ I1 q1) fun u s2 ⟨x, H2, I2, rx, a, ov, ex, g, q2⟩ => ?_
 subst ex
 obtain rfl : u = Value.ref a := rx
 exact d_in hu I2 g ry fun s3 I3 => ⟨.bl ov.isSome, H2, I3, rfl, q2⟩
theorem pc_dnotin (hu : X.A.units + 1 < cLine) (hi : PE X i ty) (ho : PE X o td) : PC X .NotIn i o (tDNotIn ty td) := by
 intro pins s σ H Q I h
 refine thn (hi pins s σ H _ I h) fun iv s1 ⟨y, H1, I1, ry, q1⟩ => thn (ho pins s1 σ H1 _ I1 q1) fun u s2 ⟨x, H2, I2, rx, a, ov, ex, g, q2⟩ => ?_
 subst ex
 obtain rfl : u = Value.ref a := rx
 exact d_notIn hu I2 g ry fun s3 I3 => ⟨.bl (!ov.isSome), H2, I3, rfl, q2⟩
theorem ps_dput (hu : X.A.units + 1 < cLine) (ho : PE X o td) (hi : PE X i ty) (hv : PE X value tv) (hs : swapsWith value (some (.Subscript o i pos')) pos.line X.env = pure false) :
   PS X (.Assign [.Subscript o i pos'] value pos) (sDPut td ty tv) := by
 intro pins s σ H D I h
 refine wpAny_Assign_Subscript (thn (hv pins s σ H _ I h) fun r s1 ⟨v, H1, I1, rv, q1⟩ => thn (ho pins s1 σ H1 _ I1 q1) fun u s2 ⟨x, H2, I2, rx, q2⟩ => thn (hi pins s2 σ H2 _ I2 q2) fun iv s3 ⟨y, H3, I3, ry, a, H4, ex, g, q3⟩ => ?_) hs
 subst ex
 obtain rfl : u = Value.ref a := rx
 exact d_setItem hu I3 g ry rv fun s4 I4 => ⟨σ, H4, I4, q3⟩
end
theorem dk_empty {P : Program} {w : World} {H : Hp} (h : Heap) (hb : sysModules < h.objs.size) : ObjOk P w H (h.push { cls := .type "dict", data := .dict #[] }) h.objs.size (.dK []) :=
 ⟨Nat.zero_le _, beq_eq_false_iff_ne.mpr (Ne.symm (Nat.ne_of_lt hb)), [], .nil, Heap.DictOf.new h⟩
theorem dt_empty {P : Program} {w : World} {H : Hp} (h : Heap) (hb : sysModules < h.objs.size) : ObjOk P w H (h.push { cls := .type "dict", data := .dict #[] }) h.objs.size (.dT []) :=
 ⟨Nat.zero_le _, beq_eq_false_iff_ne.mpr (Ne.symm (Nat.ne_of_lt hb)), [], .nil, _, #[], 0, Heap.get?_push_size _ rfl, ⟨rfl, rfl, rfl⟩, rfl, rfl, List.nodup_nil⟩
noncomputable def tDNewK : TE := fun _ H Q => ∀ p, H p = none → Q (.ref p) (upd H p (.dK []))
noncomputable def tDNewT : TE := fun _ H Q => ∀ p, H p = none → Q (.ref p) (upd H p (.dT []))
section
variable {X : Cx} {pos : Pos}
theorem pe_dnewK : PE X (.Dict [] [] pos) tDNewK := fun pins s σ H Q I h =>
 wpAny_Dict_empty ⟨.ref s.heap.objs.size, _, I.laid (a := s.heap.objs.size) (o := .dK []) (t' := s.toks) (fun _ _ q => Heap.get?_push_of_some _ q) (Nat.le_refl _) (dk_empty s.heap I.big), rfl, h _ (I.hok.fresh (Nat.le_refl _))⟩
theorem pe_dnewT : PE X (.Dict [] [] pos) tDNewT := fun pins s σ H Q I h =>
 wpAny_Dict_empty ⟨.ref s.heap.objs.size, _, I.laid (a := s.heap.objs.size) (o := .dT []) (t' := s.toks) (fun _ _ q => Heap.get?_push_of_some _ q) (Nat.le_refl _) (dt_empty s.heap I.big), rfl, h _ (I.hok.fresh (Nat.le_refl _))⟩
end
noncomputable abbrev VV : List (V × V) → List (Value × Value) → Prop := Paired fun p q => RelV p.1 q.1 ∧ RelV p.2 q.2
section
variable {X : Cx} {pins : List (Addr × Obj)} {σ : St} {H : Hp} {s : Shared} {a : Addr} {y d : V} {u r : Value} {o : Option V} {A : Around} {E : Value → Shared → Prop}
end
section
variable {X : Cx} {o e f : Expr} {apos cpos : Pos} {td ty tx : TE}
end
section
variable {X : Cx} {pins : List (Addr × Obj)} {σ : St} {H : Hp} {s : Shared} {a : Addr} {kvs : List (Key × V)} {A : Around} {E : Value → Shared → Prop}
end
section
variable {X : Cx} {pins : List (Addr × Obj)} {σ : St} {H : Hp} {s : Shared} {a : Addr} {y : V} {u : Value} {A : Around} {E : Value → Shared → Prop}
end
end L2
namespace L2
open PySem PySem.Spec PyProof.Rows
section
variable {X : Cx}
end
section
variable {κ : Type} [DecidableEq κ]
end
end L2
set_option Elab.async false
set_option linter.all false
set_option maxRecDepth 100000
set_option maxHeartbeats 16000000
namespace L2
open PySem PySem.Spec PyProof.Rows
theorem keys_miss {prog : Program} {w : World} {A : Around} {E : Value → Shared → Prop} {s : Shared} {a : Addr} {items : Array Value} {Q : Option Value → Shared → Prop} (hL : s.heap.IsTuple a items) (hn : ∀ o, s.heap.get? a = some o → o.dict = none) (hA : A.handled = none)
   (h : ∀ h' tk, (∀ b ob, s.heap.get? b = some ob → h'.get? b = some ob) → Q none { s with heap := h', toks := tk }) : wpAny (model prog w) A (getAttr? (.ref a) "keys") Q E s := by
 obtain ⟨⟨c, dct, dat, sl⟩, hx, hc, k, hd⟩ := hL
 have hdn := hn _ hx
 simp only at hc hd hdn
 subst hc hd hdn
 obtain ⟨hp, g, d, tk, os⟩ := s
 have hT : ∀ tk', (⟨hp, g, d, tk', os⟩ : Shared).TypeIs (.ref a) "tuple" := fun _ => ⟨_, hx, rfl⟩
 have f1 := sub_AttributeError
 have f3 := F.slot_tuple_getattribute.lookup
 have f4 := F.slot_tuple_getattribute.bind (.ref a)
 have f5 := am_tuple_getattr_none
 have hmiss : typeLookup (.type "tuple") "keys" = pure none := am_miss_of_fast (by decide +kernel)
 unfold getAttr? getAttrBy? getAttrBy
 repeat (any_goals (first | assumption | exact hT _ | ((with_reducible show wpAny _ _ (call (Value.builtin "tuple.__getattribute__") _ _) _ _ _); refine call_meets F.slot_tuple_getattribute (hT _) am_entry_tuple_getattribute (F.args_tuple_getattribute_2 _ _) (meets_getattribute_miss_tuple a items k sl "keys" _ hmiss (by decide +kernel) (by decide +kernel)) ⟨hx, hA, fun h' tk' e hx' => ?_⟩) | wp_step))
 obtain ⟨t', u', he⟩ := hx'.there
 show wpAny _ _ (getattributeRaised _ _ _ _ _ _ _) _ _ _
 unfold getattributeRaised
 repeat (any_goals (first | assumption | wp_step))
 exact h _ _ hx'.keeps
theorem entry_dul : entryFor table "dict.update.loop" = some Builtin.«dict.update.loop» := entryFor_of_fast (by kernel_rfl)
theorem plain_dul : plainId "dict.update.loop" = true := by decide +kernel
section
variable {X : Cx}
noncomputable def foldP (ps : List (Str × V)) (m : List (Key × V)) : List (Key × V) := ps.foldl (fun m p => putK m (Sum.inr p.1) p.2) m
theorem dict_loop (hc : X.calm = true) {A : Around} (hA : A.handled = none) {pins : List (Addr × Obj)} {σ : St} {H0 : Hp} {Q : VK} {a d it : Addr} {vs : List V} (hda : d ≠ a) (hit : it ≠ a) (hdi : d ≠ it) :
   ∀ (n i : Nat) (s : Shared) (m : List (Key × V)) (ps : List (Str × V)) (j : Int) (tk : Tok), n = vs.length - i → Inv X pins σ (upd H0 d (.dK m)) s → s.heap.IsTupleIter it a i → FpOk X pins (upd H0 d (.dK m)) it → SqT X.K (upd H0 d (.dK m)) a vs →
     Paired (fun v (p : Str × V) => ∃ t, v = .ref t ∧ t ≠ d ∧ SqT X.K H0 t [.str p.1, p.2]) (vs.drop i) ps → m.length + ps.length ≤ 1000 → H0 it = none →
     Q (.ref d) (upd H0 d (.dK (foldP ps m))) → codeAny (model X.prog X.w) A (.builtin "dict.update.loop" ⟨[.ref d, .ref it, .int j tk, .none], []⟩) (wants (fun u s' => u = .none ∧ ∃ H', Inv X pins σ H' s' ∧ Q (.ref d) H') (fun _ _ => False)) s := by
 intro n
 induction n with
 | zero =>
   intro i s m ps j tk hn I st fp hsq hp hlen hn0 q
   have hd : vs.drop i = [] := List.drop_eq_nil_of_le (by omega)
   rw [hd] at hp
   cases hp
   obtain ⟨its, rv, pt, hz⟩ := I.tuple hsq
   have hl := rv.length
   obtain ⟨f0, f1, f2, f3, f4, f5⟩ := fp
   refine codeAny_builtin entry_dul ?_
   rw [Around.under_plainId plain_dul _]
   show wpAny _ A.in1 (pyNext (.ref it) >>= _) _ _ s
   refine wpAny_bind (wpAny_pyNext_tuple_end (A := A.in1) hA st (show s.heap.IsTuple a its.toArray from pt) (by simp; omega) fun h' eb => ?_)
   have I' : Inv X pins σ (upd H0 d (.dK m)) { s with heap := h' } := I.turned (t' := s.toks) (fun b o hb e => eb b o hb e) f0 f1 f3 f4 f5
   show wpAny _ _ (Builtin.Dict.addKeywords d [] >>= _) _ _ _
   exact wpAny_bind (wpAny_pure (wpAny_pure ⟨rfl, _, I', q⟩))
 | succ n ih =>
   intro i s m ps j tk hn I st fp hsq hp hlen hn0 q
   have hi : i < vs.length := by omega
   have hdr : vs.drop i = vs[i] :: vs.drop (i + 1) := List.drop_eq_getElem_cons hi
   rw [hdr] at hp
   cases hp with
   | @cons _ p _ ps' h1 hrest =>
   obtain ⟨t, e, htd, ht⟩ := h1
   obtain ⟨its, rv, pt, hz⟩ := I.tuple hsq
   have hl := rv.length
   have hx : vs[i]? = some (V.ref t) := by simp [hi, e]
   obtain ⟨u, hu, ru⟩ := rv.get hx
   cases ru
   obtain ⟨f0, f1, f2, f3, f4, f5⟩ := id fp
   refine codeAny_builtin entry_dul ?_
   rw [Around.under_plainId plain_dul _]
   show wpAny _ A.in1 (pyNext (.ref it) >>= _) _ _ s
   refine wpAny_bind (wpAny_pyNext_tuple_item (A := A.in1) st (show s.heap.IsTuple a its.toArray from pt) (x := .ref t) (by simpa using hu) fun h' st' sb => ?_)
   have I' : Inv X pins σ (upd H0 d (.dK m)) { s with heap := h' } := I.turned (t' := s.toks) (fun b o hb e => (sb.2 b hb).trans e) f0 f1 f3 f4 f5
   have ht' : SqT X.K (upd H0 d (.dK m)) t [.str p.1, p.2] := by
     rcases ht with (ht | ⟨o, ht⟩) | ht
     · exact .inl (.inl (by rw [upd_ne htd]; exact ht))
     · exact .inl (.inr ⟨o, by rw [upd_ne htd]; exact ht⟩)
     · exact .inr ht
   obtain ⟨kv, rkv, ptt, _⟩ := I'.tuple ht'
   cases rkv with
   | @cons _ ku _ _ rk rr =>
   cases rr with
   | @cons _ vu _ _ rvv rr =>
   cases rr
   obtain ⟨tk2, rfl⟩ := rk
   have hTy : (⟨h', s.gens, s.drawn, s.toks, s.os⟩ : Shared).TypeIs (.ref t) "tuple" := by obtain ⟨o, ho, hcl, _⟩ := ptt; exact ⟨o, ho, hcl⟩
   dsimp only
   obtain ⟨ot, hot, hoc, kt, hodat⟩ := ptt
   obtain ⟨z, hsm, ws, rel, dd⟩ := dk_of I'.hok (upd_same (H := H0) (a := d) (o := .dK m))
   have hz2 : ws.length ≤ sizeLine := by rw [← rel.length]; exact z
   refine wpAny_bind (wpAny_holding (wpAny_bind (wpAny_tryCatch ?_)))
   unfold Builtin.Dict.pairItems
   refine wpAny_bind (wpAny_typeOf hTy ?_)
   rw [if_pos (by decide)]
   refine wpAny_bind (wpAny_seqItems hot hodat (wpAny_pure ?_))
   show wpAny _ _ (holding [Value.str p.1 tk2, vu] (dictSet d (Value.str p.1 tk2) vu)) _ _ _
   refine wpAny_holding (wpAny_dictSet_pairs (knd := mixKind X.prog X.w) (k := Sum.inr p.1) (mixKind_str X.prog X.w p.1 tk2) dd (fun h2 dd2 sb2 => ?_) hz2)
   have hl2 : (putK m (Sum.inr p.1) p.2).length ≤ sizeLine := by
     have h3 := length_putK m (Sum.inr p.1) p.2
     have : sizeLine = 16777216 := sizeLine_eq
     simp only [List.length_cons] at hlen
     omega
   have he : ∃ q, h2.get? d = some q := let ⟨q, _, _, hq, _⟩ := dd2; ⟨q, hq⟩
   have I2 : Inv X pins σ (upd (upd H0 d (.dK m)) d (.dK (putK m (Sum.inr p.1) p.2))) { heap := h2, gens := s.gens, drawn := s.drawn, toks := s.toks + 1, os := s.os } :=
     d_write (s := { heap := h', gens := s.gens, drawn := s.drawn, toks := s.toks, os := s.os }) (t' := s.toks + 1) I' (by rw [upd_same]; exact True.intro) sb2 he (dk_new hl2 hsm (rel.put _ rvv) dd2)
   rw [upd_upd] at I2
   refine wpAny_pure ⟨plainId_quiet plain_dul _, ?_⟩
   have hsq2 : SqT X.K (upd H0 d (.dK (putK m (Sum.inr p.1) p.2))) a vs := by
     rcases hsq with (h | ⟨o, h⟩) | h
     · rw [upd_ne hda.symm] at h; exact .inl (.inl (by rw [upd_ne hda.symm]; exact h))
     · rw [upd_ne hda.symm] at h; exact .inl (.inr ⟨o, by rw [upd_ne hda.symm]; exact h⟩)
     · exact .inr h
   refine ih (i + 1) _ (putK m (Sum.inr p.1) p.2) ps' (j + 1) _ (by omega) I2 ?_ ⟨by rw [upd_ne hdi.symm]; exact hn0, f1, f2, f3, f4, f5⟩ hsq2 hrest ?_ hn0 q
   · obtain ⟨oi, hoi, r⟩ := st'
     exact ⟨oi, (sb2.2 it hdi.symm).trans hoi, r⟩
   · have h3 := length_putK m (Sum.inr p.1) p.2
     simp only [List.length_cons] at hlen
     omega
theorem call_dictT (hc : X.calm = true) : CallR X (.type "dict") (fun xs H Q => ∃ (a : Addr) (o : Obj) (vs : List V) (ps : List (Str × V)), xs = [.ref a] ∧ H a = some (.frz o (.tup vs)) ∧ o.dict = none ∧ Paired (fun v (p : Str × V) => ∃ t, v = .ref t ∧ SqT X.K H t [.str p.1, p.2]) vs ps ∧ ps.length ≤ 1000 ∧
   ∀ d, H d = none → Q (.ref d) (upd H d (.dK (foldP ps [])))) := by
 intro pins s σ H xs us Q I r h
 obtain ⟨a, o, vs, ps, rfl, ha, hod, hp, hlen, q⟩ := h
 obtain ⟨u, rfl, ru⟩ := vals1 r
 cases ru
 have hsq : SqT X.K H a vs := .inl (.inr ⟨o, ha⟩)
 obtain ⟨its, rv, pt, hz⟩ := I.tuple hsq
 have hobj : s.heap.get? a = some o := (I.hok a _ ha).1
 have hfr : H s.heap.objs.size = none := I.hok.fresh (Nat.le_refl _)
 refine callType_codes (Q₁ := fun obj s₁ => obj = .ref s.heap.objs.size ∧ s₁ = { s with heap := s.heap.push { cls := .type "dict", data := .dict #[] } }) F.kt_called_dict (F.kt_typeCall_dict_1 _) F.entry_dict_init (kt_code_dict_new _ ⟨rfl, rfl⟩) ?_
 rintro obj s₁ ⟨rfl, rfl⟩
 have I1 : Inv X pins σ (upd H s.heap.objs.size (.dK [])) { s with heap := s.heap.push { cls := .type "dict", data := .dict #[] } } :=
   I.laid (a := s.heap.objs.size) (o := .dK []) (t' := s.toks) (fun _ _ q => Heap.get?_push_of_some _ q) (Nat.le_refl _) (dk_empty s.heap I.big)
 have hnew : (s.heap.push { cls := .type "dict", data := .dict #[] }).DictOf (mixKind X.prog X.w) s.heap.objs.size [] := Heap.DictOf.new s.heap
 refine ⟨hnew.typeIs, F.args_dict_init_2 _ _, ?_⟩
 unfold Builtin.«dict.__init__»
 refine wpAny_bind ?_
 unfold Builtin.Dict.selfAndRest
 refine wpAny_bind (wpAny_notOrdered_dict hnew.typeIs ?_)
 show wpAny _ _ (pure (s.heap.objs.size, [Value.ref a])) _ _ _
 refine wpAny_pure ?_
 show wpAny _ _ (Builtin.Dict.updateFrom "dict.__init__" s.heap.objs.size (.ref a) [] .none) _ _ _
 have had : s.heap.objs.size ≠ a := Ne.symm (ne_of_none ha hfr)
 have hobj1 : (s.heap.push { cls := .type "dict", data := .dict #[] }).get? a = some o := Heap.get?_push_of_some _ hobj
 have htp : (s.heap.push { cls := .type "dict", data := .dict #[] }).IsTuple a its.toArray := by
   obtain ⟨o2, h1, h2⟩ := pt
   exact ⟨o2, Heap.get?_push_of_some _ h1, h2⟩
 unfold Builtin.Dict.updateFrom
 refine wpAny_bind (wpAny_typeOf (s := { s with heap := s.heap.push { cls := .type "dict", data := .dict #[] } }) (T := "tuple") (by obtain ⟨o2, h1, h2, _⟩ := htp; exact ⟨o2, h1, h2⟩) ?_)
 rw [if_pos (by decide)]
 refine wpAny_bind (keys_miss htp (fun o2 h2 => by rw [hobj1] at h2; cases h2; exact hod) (I.ok.hd hc) fun h' tk hk => ?_)
 rw [if_pos (show (none : Option Value).isNone = true from rfl)]
 refine wpAny_bind (wpAny_rule ?_)
 have I2 : Inv X pins σ (upd H s.heap.objs.size (.dK [])) { s with heap := h', toks := tk } := I1.kept hk
 have htp2 : h'.IsTuple a its.toArray := by
   obtain ⟨o2, h1, h2⟩ := htp
   exact ⟨o2, hk _ _ h1, h2⟩
 refine wpAny_bind (wpAny_pyIter_tuple (s := { s with heap := h', toks := tk }) htp2 ?_)
 refine wpAny_pure ⟨plainId_quiet plain_dul _, ?_⟩
 have I3 := I2.kept (h' := h'.push { cls := .type "tuple_iterator", data := .fields #[.ref a, .int 0 0] }) (t' := tk) fun b ob e => Heap.get?_push_of_some _ e
 have hfi : upd H s.heap.objs.size (.dK []) h'.objs.size = none := I2.hok.fresh (Nat.le_refl _)
 have hdi : s.heap.objs.size ≠ h'.objs.size := by
   intro z
   rw [← z, upd_same] at hfi
   cases hfi
 have hfi0 : H h'.objs.size = none := by rw [upd_ne hdi.symm] at hfi; exact hfi
 have hia : h'.objs.size ≠ a := fun z => by
   rw [z, ha] at hfi0
   cases hfi0
 have hsq1 : SqT X.K (upd H s.heap.objs.size (.dK [])) a vs := .inl (.inr ⟨o, by rw [upd_ne had.symm]; exact ha⟩)
 have L := dict_loop (X := X) hc (A := X.A.in1) (I.ok.hd hc) (pins := pins) (σ := σ) (H0 := H) (Q := Q) (a := a) (d := s.heap.objs.size) (it := h'.objs.size) (vs := vs) had hia hdi vs.length 0 _ [] ps 0 0 (by omega) I3 ⟨_, Heap.get?_push_size _ rfl, rfl, rfl⟩ (I2.fpOk (Nat.le_refl _) hfi) hsq1
   (Paired.mapP hp fun v p ⟨t, e, ht⟩ => ⟨t, e, fun z => ?_, ht⟩) (by simpa using hlen) hfi0 (q _ hfr)
 · refine codeAny_mono L fun r s' hr => ?_
   cases r with
   | error e => exact False.elim hr
   | ok f =>
     cases f with
     | ret v =>
       obtain ⟨e, H', I', q'⟩ := hr
       exact ⟨e, .ref s.heap.objs.size, H', I', rfl, q'⟩
     | next => exact False.elim hr
     | brk => exact False.elim hr
     | cont => exact False.elim hr
 · obtain ⟨its2, _, ⟨o2, h2, _⟩, _⟩ := I.tuple ht
   rw [z] at h2
   exact absurd (Heap.lt_size h2) (Nat.lt_irrefl _)
end
end L2
set_option Elab.async false
set_option linter.all false
set_option maxRecDepth 100000
set_option maxHeartbeats 16000000
namespace L2
open PySem PySem.Spec PyProof.Rows PySem.W
section
variable {prog : Program} {w : World} {A : Around} {E : Value → Shared → Prop} {s : Shared} {T : String} {r d : Addr} {n : Nat} {P : Nat → Value → Prop} {OK : Heap → Prop}
theorem collect_src {Q : List Value → Shared → Prop} (K : KdlSrc prog w T r d n P OK) (hh : A.handled = none) (hok : OK s.heap) (hn : n ≤ sizeLine)
   (hQ : ∀ (h' : Heap) (tk : Nat) (acc : Array Value), (∀ b o, s.heap.get? b = some o → h'.get? b = some o) → ItemsOf P acc n → Q acc.toList { s with heap := h', toks := tk }) : wpAny (model prog w) A (collect (.ref r)) Q E s := by
 unfold collect
 refine wpAny_bind (wpAny_runValue (codeAny_builtin F.entry_proto_collect ?_))
 rw [Around.under_plainId F.plain_proto_collect _]
 show wpAny _ A.in1 (newList [] >>= fun l => again (.builtin "list.__iadd__" ⟨[l, .ref r], []⟩)) _ _ s
 refine wpAny_bind (wpAny_newObj_type ?_)
 refine wpAny_pure ⟨plainId_quiet F.plain_list_iadd _, codeAny_builtin F.entry_list_iadd ?_⟩
 rw [Around.under_plainId F.plain_list_iadd _]
 have hS : (s.heap.push { cls := .type "list", data := .seq ([] : List Value).toArray }).get? s.heap.objs.size = some { cls := .type "list", data := .seq #[] 0 } := Heap.get?_push_size _ rfl
 have hlt := K.there _ hok
 show wpAny _ A.in1 (Builtin.List.listExtendWith (.ref s.heap.objs.size) (.ref r) (.ref s.heap.objs.size)) _ _ _
 have fin' : ∀ (h' : Heap) (tk c' : Nat) (acc' : Array Value), (∀ b o, b ≠ s.heap.objs.size → (s.heap.push { cls := .type "list", data := .seq ([] : List Value).toArray }).get? b = some o → h'.get? b = some o) → h'.get? s.heap.objs.size = some { cls := .type "list", dict := none, data := .seq acc' c', slots := #[] } → ItemsOf P acc' n →
     wpAny (model prog w) A (match Value.ref s.heap.objs.size with
     | Value.ref a => do
       match (← load a).data with
         | Data.seq xs _ => pure xs.toList
         | _ => unsupported "internal:collect"
     | _ => unsupported "internal:collect") Q E { s with heap := h', toks := tk } := by
   intro h' tk c' acc' hk hS' hacc
   show wpAny _ A (load s.heap.objs.size >>= _) _ _ _
   refine wpAny_bind (wpAny_load hS' ?_)
   exact wpAny_pure (hQ h' tk acc' (fun b o e => hk b o (Nat.ne_of_lt (Heap.lt_size e)) (Heap.get?_push_of_some _ e)) hacc)
 refine wpAny_mono (kdl_extend (A := A) (R := fun r s' => ∃ (h' : Heap) (tk c' : Nat) (acc' : Array Value), r = .ok (.ret (.ref s.heap.objs.size)) ∧ s' = { s with heap := h', toks := tk } ∧ (∀ b o, b ≠ s.heap.objs.size → (s.heap.push { cls := .type "list", data := .seq ([] : List Value).toArray }).get? b = some o → h'.get? b = some o) ∧ h'.get? s.heap.objs.size = some { cls := .type "list", dict := none, data := .seq acc' c', slots := #[] } ∧ ItemsOf P acc' n)
   (s := { s with heap := s.heap.push { cls := .type "list", data := .seq ([] : List Value).toArray } }) K hh (K.keep _ _ hok fun b _ o e => Heap.get?_push_of_some _ e) s.heap.objs.size (Nat.ne_of_gt hlt.1) (Nat.ne_of_gt hlt.2) (.ref s.heap.objs.size) 0 hS (fun h' tk acc' c' hk hS' hacc => ⟨h', tk, c', acc', rfl, rfl, hk, hS', hacc⟩) hn) (fun fin s' h => ?_) (fun e s' h => ?_)
 · cases fin with
   | done f =>
     obtain ⟨h', tk, c', acc', e, rfl, hk, hS', hacc⟩ := h
     cases e
     exact fin' h' tk c' acc' hk hS' hacc
   | again c' => exact ⟨h.1, codeAny_mono h.2 fun r s'' hr => by obtain ⟨h', tk, c', acc', rfl, rfl, hk, hS', hacc⟩ := hr; exact fin' h' tk c' acc' hk hS' hacc⟩
 · obtain ⟨h', tk, c', acc', e, _⟩ := h
   cases e
theorem code_tuple_new_src {Q₁ : Value → Shared → Prop} (K : KdlSrc prog w "dict" r d n P OK) (hh : A.handled = none) (hok : OK s.heap)
   (h : ∀ (h' : Heap) (tk : Nat) (acc : Array Value), (∀ b o, s.heap.get? b = some o → h'.get? b = some o) → ItemsOf P acc n → Q₁ (.ref h'.objs.size) { s with heap := h'.push { cls := .type "tuple", data := .seq acc }, toks := tk }) (hsz : n ≤ sizeLine) :
   codeAny (model prog w) A (.call (.builtin "tuple.__new__") ⟨[.type "tuple", .ref r], []⟩) (wants Q₁ E) s := by
 refine codeAny_of_tree ?_
 show wpAny _ A.in1 (do checkBuiltinCall "tuple.__new__" ⟨[.type "tuple", .ref r], []⟩; again (.builtin "tuple.__new__" ⟨[.type "tuple", .ref r], []⟩)) _ _ s
 refine wpAny_bind (wpAny_of_eq (F.newCall_tuple_1 _) (wpAny_pure ⟨plainId_quiet F.plain_tuple_new _, codeAny_builtin F.entry_tuple_new ?_⟩))
 rw [Around.under_plainId F.plain_tuple_new _]
 have hsub := sub_tuple_self
 have hinit := init_tuple_lookup
 have hmh := madeHere_tuple
 have hTI := K.type s hok
 have hh1 : A.in1.handled = none := hh
 wp_walk using wpAny_typeOf hTI, collect_src (A := A.in1) K hh1 hok hsz
 intro h' tk acc hm hacc
 show wpAny _ _ (Builtin.Tuple.tupleExact acc.toList.toArray >>= fun v => ret v) _ _ _
 unfold Builtin.Tuple.tupleExact
 refine wpAny_bind (wpAny_newObj_type ?_ (by show acc.toList.toArray.size ≤ sizeLine; simp only [Array.toArray_toList]; rw [hacc.1]; exact hsz))
 refine wpAny_pure ?_
 have e : acc.toList.toArray = acc := by simp
 rw [e]
 exact h h' tk acc hm hacc
theorem call_tuple_src {Q : Value → Shared → Prop} (K : KdlSrc prog w "dict" r d n P OK) (hh : A.handled = none) (hok : OK s.heap) (hsz : n ≤ sizeLine)
   (hQ : ∀ (h' : Heap) (tk : Nat) (acc : Array Value), (∀ b o, s.heap.get? b = some o → h'.get? b = some o) → ItemsOf P acc n → Q (.ref h'.objs.size) { s with heap := h'.push { cls := .type "tuple", data := .seq acc }, toks := tk }) :
   wpAny (model prog w) A (call (.type "tuple") [.ref r]) Q E s := by
 refine callType_codes (Q₁ := fun obj s₁ => s₁.TypeIs obj "tuple" ∧ Q obj s₁) F.called_tuple (F.typeCall_tuple_1 _) F.entry_object_init
   (code_tuple_new_src K hh hok (fun h' tk acc hm hacc => ⟨⟨_, Heap.get?_push_size _ rfl, rfl⟩, hQ h' tk acc hm hacc⟩) hsz) fun obj s₁ h₁ => ?_
 exact ⟨h₁.1, F.args_object_init_2 obj _, object_init_meets F.called_tuple.init.lookup F.called_tuple.made (by decide) prog w A.in1 _ s₁ ⟨h₁.1, rfl, h₁.2⟩⟩
end
theorem is_kV {P : Program} {w : World} {k : Key} {u : Value} (h : (mixKind P w).is k u = true) : RelV (kV k) u := by
 rcases keyIs_shape (show keyIs k u = true from h) with ⟨i, t, rfl, rfl⟩ | ⟨x, t, rfl, rfl⟩
 · exact ⟨t, rfl⟩
 · exact ⟨t, rfl⟩
noncomputable def keysV (kvs : List (Key × V)) : List V := kvs.map fun kv => kV kv.1
theorem length_keysV (kvs : List (Key × V)) : (keysV kvs).length = kvs.length := List.length_map _
theorem vals_keys {P : Program} {w : World} : ∀ {kvs : List (Key × V)} {vs : List (Key × Value)} {us : List Value}, KV kvs vs → us.length = vs.length → (∀ (j : Nat) (u : Value), us[j]? = some u → ∃ k x, vs[j]? = some (k, x) ∧ (mixKind P w).is k u = true) → Vals (keysV kvs) us
 | _, _, [], .nil, _, _ => .nil
 | _, _, _ :: _, .nil, hl, _ => by simp at hl
 | _, _, [], .cons _ _, hl, _ => by simp at hl
 | _, _, u :: us, .cons (a := p) (b := q) h hr, hl, hv => by
   obtain ⟨k, x, e, hk⟩ := hv 0 u rfl
   simp only [List.getElem?_cons_zero, Option.some.injEq] at e
   subst e
   have h1 : p.1 = k := h.1
   refine .cons (by show RelV (kV p.1) u; rw [h1]; exact is_kV hk) (vals_keys hr (by simpa using hl) fun j v hj => by simpa using hv (j + 1) v (by simpa using hj))
section
variable {X : Cx}
theorem call_tupleD (hc : X.calm = true) : CallR X (.type "tuple") (fun xs H Q => ∃ a kvs, xs = [.ref a] ∧ Rd H a (.dK kvs) ∧ ∀ l, H l = none → Q (.ref l) (upd H l (.tup (keysV kvs)))) := by
 intro pins s σ H xs us Q I r h
 obtain ⟨a, kvs, rfl, ha, q⟩ := h
 obtain ⟨u, rfl, ru⟩ := vals1 r
 cases ru
 obtain ⟨z, hsm, vs, rel, dd⟩ := dk_rd I.hok ha
 have hl := rel.length
 obtain ⟨ep, hat⟩ := dd.dictAt
 refine call_tuple_src (kdl_dict (knd := mixKind X.prog X.w) (kvs := vs) (ep := ep) hsm) (I.ok.hd hc) hat (by omega) fun h' tk acc hk hacc => ?_
 have I1 : Inv X pins σ H { s with heap := h', toks := tk } := I.kept (t' := tk) hk
 have hv : Vals (keysV kvs) acc.toList := vals_keys rel (by rw [Array.length_toList]; exact hacc.1) fun j u e => hacc.2 j u (by rw [← Array.getElem?_toList]; exact e)
 have I2 : Inv X pins σ (upd H h'.objs.size (.tup (keysV kvs))) { s with heap := h'.push { cls := .type "tuple", data := .seq acc }, toks := tk } :=
   I1.laid (t' := tk) (fun b o e => Heap.get?_push_of_some _ e) (Nat.le_refl _) (show ObjOk X.prog X.w _ _ _ (.tup (keysV kvs)) from ⟨by rw [length_keysV]; exact z, acc.toList, hv, by
     have := IsTup.new h' acc
     simpa using this⟩)
 exact ⟨.ref h'.objs.size, _, I2, rfl, q _ (I1.hok.fresh (Nat.le_refl _))⟩
end
end L2
set_option Elab.async false
set_option linter.all false
set_option maxRecDepth 100000
set_option maxHeartbeats 16000000
namespace L2
open PySem PySem.Spec PyProof.Rows
noncomputable def kindS : Rw → Str
 | .bring _ _ => "bring"
 | .give _ _ => "give"
 | .set _ _ => "set"
 | .take _ => "take"
 | .say _ _ => "say"
 | .need _ => "need"
 | .ask _ _ => "ask"
 | .part _ => "part"
 | .doo _ => "do"
noncomputable def namesIt (k : Str) : Rw → Option Str
 | .bring p _ => if ("bring" : Str) = k then some p else none
 | .ask p _ => if ("ask" : Str) = k then some p else none
 | _ => none
noncomputable def addN (l : List Str) (x : Str) : List Str := if x ∈ l then l else l ++ [x]
noncomputable def stepN (k : Str) (l : List Str) (r : Rw) : List Str := match namesIt k r with
 | none => l
 | some x => addN l x
noncomputable def namedOf (k : Str) (rs : List Rw) : List Str := rs.foldl (stepN k) []
theorem namedOf_snoc (k : Str) (rs : List Rw) (r : Rw) : namedOf k (rs ++ [r]) = stepN k (namedOf k rs) r := by
 unfold namedOf; rw [List.foldl_append]; rfl
theorem addN_len (l : List Str) (x : Str) : (addN l x).length ≤ l.length + 1 := by
 unfold addN; split <;> simp
theorem stepN_len (k : Str) (l : List Str) (r : Rw) : (stepN k l r).length ≤ l.length + 1 := by
 unfold stepN
 split
 · omega
 · exact addN_len _ _
theorem namedOf_len (k : Str) : ∀ (rs : List Rw) (l : List Str), (rs.foldl (stepN k) l).length ≤ l.length + rs.length
 | [], l => by simp
 | r :: rs, l => by
   have h1 := namedOf_len k rs (stepN k l r)
   have h2 := stepN_len k l r
   simp only [List.foldl_cons, List.length_cons]; omega
noncomputable def setD (l : List Str) : List (Key × V) := l.map fun x => (Sum.inr x, .bl true)
theorem setD_len (l : List Str) : (setD l).length = l.length := List.length_map _
theorem setD_keys (l : List Str) : keysV (setD l) = l.map V.str := by
 unfold keysV setD
 rw [List.map_map]
 rfl
theorem setD_any (l : List Str) (x : Str) : ((setD l).any fun kv => decide (kv.1 = Sum.inr x)) = decide (x ∈ l) := by
 induction l with
 | nil => simp [setD]
 | cons a r ih =>
   have : setD (a :: r) = (Sum.inr a, .bl true) :: setD r := rfl
   rw [this, List.any_cons, ih]
   by_cases e : a = x
   · subst e; simp
   · have h1 : ¬ (Sum.inr a : Key) = Sum.inr x := fun z => e (Sum.inr.inj z)
     have h2 : ¬ x = a := fun z => e z.symm
     simp [e, h2]
theorem setD_put (l : List Str) (x : Str) : putK (setD l) (Sum.inr x) (.bl true) = setD (addN l x) := by
 unfold putK
 rw [setD_any]
 unfold addN
 by_cases e : x ∈ l
 · rw [if_pos (by simpa using e), if_pos e]
   unfold setD
   rw [List.map_map]
   refine List.map_congr_left fun a _ => ?_
   show (if (Sum.inr a : Key) = Sum.inr x then ((Sum.inr a : Key), V.bl true) else (Sum.inr a, V.bl true)) = _
   split <;> rfl
 · rw [if_neg (by simpa using e), if_neg e]
   unfold setD
   rw [List.map_append]
   rfl
noncomputable def PartsF (H : Hp) (a : Addr) (ps : List Pt) : Prop := ∃ o vs, H a = some (.frz o (.tup vs)) ∧ o.dict = none ∧ Paired (PartAt H) vs ps
theorem Same.partsF {H H' : Hp} (s : Same H H') {a : Addr} {ps : List Pt} (h : PartsF H a ps) : PartsF H' a ps := by
 obtain ⟨o, vs, h1, h2, h3⟩ := h
 exact ⟨o, vs, s _ _ h1, h2, Paired.mapP h3 fun _ _ q => q.mono s.tups⟩
theorem foldP_get : ∀ (ps : List (Str × V)) (m : List (Key × V)) (n : Str) (v : V), (ps.map (·.1)).Nodup → ((n, v) ∈ ps ∨ ((∀ p ∈ ps, p.1 ≠ n) ∧ valV m (Sum.inr n) = some v)) → valV (foldP ps m) (Sum.inr n) = some v
 | [], m, n, v, _, h => by
   rcases h with h | h
   · simp at h
   · exact h.2
 | p :: ps, m, n, v, hn, h => by
   rw [List.map_cons, List.nodup_cons] at hn
   show valV (foldP ps (putK m (Sum.inr p.1) p.2)) _ = _
   refine foldP_get ps _ n v hn.2 ?_
   rcases h with h | ⟨h1, h2⟩
   · rcases List.mem_cons.mp h with e | e
     · refine .inr ⟨fun q hq z => hn.1 ?_, ?_⟩
       · rw [← e]; show n ∈ _; rw [← z]; exact List.mem_map_of_mem hq
       · rw [← e]
         show valV (putK m (Sum.inr n) v) (Sum.inr n) = _
         rw [valV_put, if_pos rfl]
     · exact .inl e
   · refine .inr ⟨fun q hq => h1 q (List.mem_cons_of_mem _ hq), ?_⟩
     rw [valV_put, if_neg (fun z => h1 p List.mem_cons_self (Sum.inr.inj z).symm)]
     exact h2
theorem RowAt.kind {H : Hp} {r : Addr} {rw : Rw} (h : RowAt H r rw) : ∃ x rest, H r = some (.tup (.str (kindS rw) :: x :: rest)) := by
 cases rw with
 | bring p ps => obtain ⟨t, h1, h2⟩ := h; exact ⟨_, _, h1⟩
 | give o g => exact ⟨_, _, h⟩
 | set o ts => obtain ⟨t, h1, h2⟩ := h; exact ⟨_, _, h1⟩
 | take o => exact ⟨_, _, h⟩
 | say ts w => obtain ⟨t, h1, h2⟩ := h; exact ⟨_, _, h1⟩
 | need ts => obtain ⟨t, h1, h2⟩ := h; exact ⟨_, _, h1⟩
 | ask p w => exact ⟨_, _, h⟩
 | part p => exact ⟨_, _, h⟩
 | doo p => exact ⟨_, _, h⟩
theorem RowAt.named {H : Hp} {r : Addr} {rw : Rw} {k : Str} (h : RowAt H r rw) (hk : k = "bring" ∨ k = "ask") : (kindS rw = k ∧ ∃ p rest, namesIt k rw = some p ∧ H r = some (.tup (.str k :: .str p :: rest))) ∨ (kindS rw ≠ k ∧ namesIt k rw = none) := by
 rcases hk with rfl | rfl
 · cases rw with
   | bring p ps => obtain ⟨t, h1, h2⟩ := h; exact .inl ⟨rfl, p, _, by simp [namesIt], h1⟩
   | ask p w => exact .inr ⟨by simp only [kindS]; decide +kernel, by simp only [namesIt]; rw [if_neg (by decide +kernel)]⟩
   | _ => exact .inr ⟨by simp only [kindS]; decide +kernel, rfl⟩
 · cases rw with
   | ask p w => exact .inl ⟨rfl, p, _, by simp [namesIt], h⟩
   | bring p ps => exact .inr ⟨by simp only [kindS]; decide +kernel, by simp only [namesIt]; rw [if_neg (by decide +kernel)]⟩
   | _ => exact .inr ⟨by simp only [kindS]; decide +kernel, rfl⟩
end L2
set_option Elab.async false
set_option linter.all false
set_option maxRecDepth 100000
set_option maxHeartbeats 16000000
namespace L2
open PySem PySem.Spec PyProof.Rows
section
variable {X : Cx}
end
noncomputable def lets : Str := "abcdefghijklmnopqrstuvwxyz"
noncomputable def letAt (i : Int) : Nat := lets.cps.toList.getD i.toNat 0
noncomputable def sgAt (i : Int) : Nat := ("abcdefghijklmnopqrstuvwxyz0123456789" : Str).cps.toList.getD i.toNat 0
theorem lets_inj : ∀ i : Nat, i < 26 → ∀ j : Nat, j < 26 → lets.cps.toList.getD i 0 = lets.cps.toList.getD j 0 → i = j := by decide +kernel
theorem lets_len : lets.cps.toList.length = 26 := by decide +kernel
theorem letAt_inj {i j : Int} (hi : 0 ≤ i) (hi2 : i < 26) (hj : 0 ≤ j) (hj2 : j < 26) (h : letAt i = letAt j) : i = j := by
 have := lets_inj i.toNat (by omega) j.toNat (by omega) h
 omega
end L2
set_option Elab.async false
set_option linter.all false
set_option maxRecDepth 100000
set_option maxHeartbeats 16000000
namespace L2
open PySem PySem.Spec PyProof.Rows
section
variable {X : Cx}
theorem op_neL_nil (hu : X.A.units < cLine) : OpR X (compareOp .NotEq) (fun x y H Q => ∃ a b xs, x = .ref a ∧ y = .ref b ∧ SqL X.K H a xs ∧ SqL X.K H b [] ∧ Q (.bl (!xs.isEmpty)) H) := by
 intro pins s σ H x y v u Q I rx ry h
 obtain ⟨a, b, xs, rfl, rfl, ha, hb, q⟩ := h
 cases rx
 cases ry
 obtain ⟨its, r1, p1, _⟩ := I.list ha
 obtain ⟨its2, r2, p2, _⟩ := I.list hb
 cases r2
 cases xs with
 | nil =>
   cases r1
   exact SeqAt.RcNeAt.lists (e := fun _ => true) p1.isList p2.isList rfl hu (fun j h1 _ => absurd h1 (by simp)) _ _ _ _ ⟨.bl false, H, I, rfl, q⟩
 | cons c r =>
   have hl1 := r1.length
   exact SeqAt.RcNeAt.lists_lengths p1.isList p2.isList (by rw [bne_iff_ne]; intro z; simp only [List.size_toArray, List.length_nil, List.length_cons] at z hl1; omega) hu _ _ _ _ ⟨.bl true, H, I, rfl, q⟩
end
end L2
set_option Elab.async false
set_option linter.all false
set_option maxRecDepth 100000
set_option maxHeartbeats 16000000
namespace L2
open PySem PySem.Spec PyProof.Rows
noncomputable def ItZl (K : PySem.W.Frag) (a b : Addr) : It :=
 ⟨fun i H => ∃ xs ys x y, SqL K H a xs ∧ SqL K H b ys ∧ xs[i]? = some x ∧ ys[i]? = some y,
  fun i H x H' => ∃ p u v, (∀ xs, SqL K H a xs → xs[i]? = some u) ∧ (∀ ys, SqL K H b ys → ys[i]? = some v) ∧ H p = none ∧ x = .ref p ∧ H' = upd H p (.tup [u, v]),
  fun i H => ∃ xs ys, SqL K H a xs ∧ SqL K H b ys ∧ xs.length = i ∧ ys.length = i⟩
noncomputable def ZipSt (n a b : Addr) (i : Nat) (h : Heap) : Prop := IsZip h (n + 4) (n + 2) (n + 3) .none ∧ IsPair h (n + 2) (.ref n) (.ref (n + 1)) ∧ (∃ x y, IsPair h (n + 3) x y) ∧ h.IsListIter n a i ∧ h.IsListIter (n + 1) b i
noncomputable def zipFp (n : Addr) : List Addr := [n + 4, n + 2, n + 3, n, n + 1]
theorem ZipSt.obj {n a b : Addr} {i : Nat} {h : Heap} (st : ZipSt n a b i h) : ∀ c ∈ zipFp n, ∃ o, h.get? c = some o ∧ ∀ v, o.data ≠ .cell v := by
 obtain ⟨h1, h2, ⟨x, y, h3⟩, ⟨o4, e4, c4, d4⟩, ⟨o5, e5, c5, d5⟩⟩ := st
 intro c hc
 simp only [zipFp, List.mem_cons, List.not_mem_nil, or_false] at hc
 rcases hc with rfl | rfl | rfl | rfl | rfl
 · exact ⟨_, h1, fun v z => nomatch z⟩
 · exact ⟨_, h2, fun v z => nomatch z⟩
 · exact ⟨_, h3, fun v z => nomatch z⟩
 · exact ⟨o4, e4, fun v z => by rw [d4] at z; cases z⟩
 · exact ⟨o5, e5, fun v z => by rw [d5] at z; cases z⟩
theorem ZipSt.keep {n a b : Addr} {i : Nat} {h h' : Heap} (st : ZipSt n a b i h) (kk : ∀ c ∈ zipFp n, ∀ o, h.get? c = some o → h'.get? c = some o) : ZipSt n a b i h' := by
 obtain ⟨h1, h2, ⟨x, y, h3⟩, ⟨o4, e4, r4⟩, ⟨o5, e5, r5⟩⟩ := st
 exact ⟨kk _ (by simp [zipFp]) _ h1, kk _ (by simp [zipFp]) _ h2, ⟨x, y, kk _ (by simp [zipFp]) _ h3⟩, ⟨o4, kk _ (by simp [zipFp]) _ e4, r4⟩, ⟨o5, kk _ (by simp [zipFp]) _ e5, r5⟩⟩
theorem turn_zipL {P : Program} {w : World} {K : PySem.W.Frag} {elts : List Expr} {k : Nat} {pos : Pos} (n a b : Addr) (ha : a < n) (hb : b < n) :
   Turn P w K (.Tuple elts k pos) (ItZl K a b) (zipFp n) (n + 4) (ZipSt n a b) where
 mem := by simp [zipFp]
 obj := fun i h st => st.obj
 keep := fun i h h' st kk => st.keep kk
 item := by
   intro X hP hw hK hc i pins s σ H E I hf st hg
   subst hP hw hK
   obtain ⟨xs, ys, x, y, hq1, hq2, hx, hy⟩ := hg
   obtain ⟨its1, rv1, p1, hz1⟩ := I.list hq1
   obtain ⟨its2, rv2, p2, hz2⟩ := I.list hq2
   obtain ⟨u1, hu1, ru1⟩ := rv1.get hx
   obtain ⟨u2, hu2, ru2⟩ := rv2.get hy
   have W := WalksT.zip2 (prog := X.prog) (w := X.w) (A := X.A) (I.ok.hd hc) (n + 4) (n + 2) (n + 3) n (n + 1) a b (PySem.W.ktu_apart n a b ha hb) its1.toArray its2.toArray
   have g1 := (List.getElem?_eq_some_iff.mp hu1).1
   have g2 := (List.getElem?_eq_some_iff.mp hu2).1
   have hsub : ∀ c, c ∈ [n + 4, n + 3, n, n + 1] → c ∈ zipFp n := fun c hc => by
     simp only [zipFp, List.mem_cons, List.not_mem_nil, or_false] at hc ⊢
     rcases hc with z | z | z | z <;> simp [z]
   have hfw : ∀ c ∈ [n + 4, n + 3, n, n + 1], FpOk X pins H c := fun c hc => hf c (hsub c hc)
   refine W.item i s _ _ (by simp only [List.size_toArray]; omega) ⟨st.1, st.2.1, st.2.2.1, st.2.2.2.1, st.2.2.2.2, p1.isList, p2.isList⟩ fun T vals h' tk hPt hT hTup hM hk => ?_
   obtain ⟨w1, w2, hw1, hw2, rfl⟩ := hPt
   have e1 : w1 = u1 := by
     have : its1[i]? = some w1 := by simpa using hw1
     rw [hu1] at this
     exact (Option.some.inj this).symm
   have e2 : w2 = u2 := by
     have : its2[i]? = some w2 := by simpa using hw2
     rw [hu2] at this
     exact (Option.some.inj this).symm
   subst e1 e2
   have I1 : Inv X pins σ H { s with heap := h', toks := tk } := I.turnedL hk hfw
   have hHT : H T = none := I.hok.fresh hT
   have fT : FpOk X pins H T := I.fpOk hT hHT
   refine ⟨_, rfl, W.go elts k pos i T { s with heap := h', toks := tk } _ _ hM fun h2 st2 hk2 => ?_⟩
   have I2' := I1.turnedL (h' := h2) (t' := tk) hk2 hfw
   have I2 : Inv X pins σ H { s with heap := h2, toks := tk } := I2'
   have hT2 : h2.IsTuple T #[w1, w2] := by
     obtain ⟨o, ho, r⟩ := hTup
     exact ⟨o, hk2 T o (W.apart i T h' hM) ho, r⟩
   have I3 : Inv X pins σ (upd H T (.tup [x, y])) { s with heap := h2, toks := tk } :=
     I2.track fT ⟨by show 2 ≤ sizeLine; decide, [w1, w2], .cons ru1 (.cons ru2 .nil), hT2⟩
   refine ⟨.ref T, _, I3, rfl, ⟨T, x, y, fun zs hz' => by rw [I.list_inj hz' hq1]; exact hx, fun zs hz' => by rw [I.list_inj hz' hq2]; exact hy, hHT, rfl, rfl⟩, ⟨st2.1, st2.2.1, st2.2.2.1, st2.2.2.2.1, st2.2.2.2.2.1⟩, fun c hc' => ?_⟩
   obtain ⟨o, ho, _⟩ := st.obj c hc'
   have hlt := Heap.lt_size ho
   rw [upd_ne (fun z => by rw [z] at hlt; exact absurd hlt (Nat.not_lt.mpr hT))]
   exact (hf c hc').1
 done := by
   intro X hP hw hK hc i pins s σ H E I hf st hg
   subst hP hw hK
   obtain ⟨xs, ys, hq1, hq2, hx, hy⟩ := hg
   obtain ⟨its1, rv1, p1, hz1⟩ := I.list hq1
   obtain ⟨its2, rv2, p2, hz2⟩ := I.list hq2
   have W := WalksT.zip2 (prog := X.prog) (w := X.w) (A := X.A) (I.ok.hd hc) (n + 4) (n + 2) (n + 3) n (n + 1) a b (PySem.W.ktu_apart n a b ha hb) its1.toArray its2.toArray
   have l1 := rv1.length
   have l2 := rv2.length
   have hmin : min its1.toArray.size its2.toArray.size = i := by simp only [List.size_toArray]; omega
   rw [hmin] at W
   have hsub : ∀ c, c ∈ [n + 4, n + 3, n, n + 1] → c ∈ zipFp n := fun c hc => by
     simp only [zipFp, List.mem_cons, List.not_mem_nil, or_false] at hc ⊢
     rcases hc with z | z | z | z <;> simp [z]
   refine W.done s _ _ ⟨st.1, st.2.1, st.2.2.1, st.2.2.2.1, st.2.2.2.2, p1.isList, p2.isList⟩ fun h' tk hk => ⟨rfl, ?_⟩
   exact I.turnedL hk fun c hc => hf c (hsub c hc)
 self := fun _ _ _ _ _ st h => wpAny_pyIter_zip st.1 h
section
variable {X : Cx} {elts : List Expr} {k : Nat} {tpos : Pos}
noncomputable def iZipL (K : PySem.W.Frag) (ta : TA) : TI := fun σ H R => ta σ H fun vs H1 => ∃ a b, vs = [.ref a, .ref b] ∧ (∃ xs, SqL K H1 a xs) ∧ (∃ ys, SqL K H1 b ys) ∧ R (ItZl K a b) H1
theorem pi_zipL {e1 e2 : Expr} {ta : TA} {p pos : Pos} (hg : Gl X "zip") (hm : X.mg "zip" = none) (ha : PA X [e1, e2] ta) (hs : starEach [e1, e2] X.env = (false, eval e1 X.env) :: starEach [e2] X.env := by rfl) (hs2 : ∀ pos, (backTo pos (starEach [e2] X.env)).any (·.1) = false := by intro _; rfl) :
   PI X (.Tuple elts k tpos) (.Call (.Name "zip" p) [e1, e2] [] pos) (iZipL X.K ta) := by
 intro pins s σ H R I h
 refine Call_ (ld_blt I hg hm boot_zip (PyProof.Rows.callWith_type1 (thn (ha pos pins s σ H _ I h) fun us s1 ⟨vs, H1, I1, r1, q1⟩ => ?_) hs (hs2 _)))
 obtain ⟨a, b, e, ⟨xs, hq1⟩, ⟨ys, hq2⟩, q⟩ := q1
 subst e
 cases r1 with
 | cons ra rr =>
 cases rr with
 | cons rb rr =>
   cases rr
   cases ra
   cases rb
   obtain ⟨its1, rv1, p1, hz1⟩ := I1.list hq1
   obtain ⟨its2, rv2, p2, hz2⟩ := I1.list hq2
   have la : a < s1.heap.objs.size := by obtain ⟨o, ho, _⟩ := p1.isList; exact Heap.lt_size ho
   have lb : b < s1.heap.objs.size := by obtain ⟨o, ho, _⟩ := p2.isList; exact Heap.lt_size ho
   refine call_zip_2 p1.isList p2.isList fun h' z1 z2 z3 z4 z5 z6 hk => ?_
   have I2 : Inv X pins σ H1 { s1 with heap := h' } := I1.kept (t' := s1.toks) hk
   refine wpAny_pyIter_zip z1 ⟨s1.heap.objs.size + 4, zipFp s1.heap.objs.size, _, _, H1, rfl, I2, turn_zipL s1.heap.objs.size a b la lb, ⟨z1, z2, ⟨_, _, z3⟩, z4, z5⟩, fun c hc => ?_, q⟩
   have hc' : s1.heap.objs.size ≤ c := by
     simp only [zipFp, List.mem_cons, List.not_mem_nil, or_false] at hc
     rcases hc with z | z | z | z | z <;> rw [z] <;> first | exact Nat.le_refl _ | exact Nat.le_add_right _ _
   exact I1.fpOk hc' (I1.hok.fresh hc')
end
end L2
set_option Elab.async false
set_option linter.all false
set_option maxRecDepth 100000
set_option maxHeartbeats 16000000
namespace L2
open PySem PySem.Spec PyProof.Rows
end L2
set_option Elab.async false
set_option linter.all false
set_option maxRecDepth 100000
set_option maxHeartbeats 16000000
namespace L2
open PySem PySem.Spec PyProof.Rows
end L2
set_option Elab.async false
set_option linter.all false
set_option maxRecDepth 100000
set_option maxHeartbeats 16000000
namespace L2
open PySem PySem.Spec PyProof.Rows
section
variable {X : Cx}
theorem call_sum (hc : X.calm = true) : CallR X (.builtin "sum") (fun xs H Q => ∃ (p : Addr) (ns : List Int), xs = [.ref p] ∧ SqL X.K H p (ns.map V.int) ∧ Q (.int ns.sum) H) := by
 intro pins s σ H xs us Q I r h
 obtain ⟨p, ns, rfl, hq, q⟩ := h
 obtain ⟨u, rfl, ru⟩ := vals1 r
 cases ru
 obtain ⟨its, r', pl, hz⟩ := I.list hq
 have hi := intsAre_of r'
 obtain ⟨ys, hx⟩ := hi.allInts.items
 have hl' : s.heap.IsList p (intItems ys) := hx ▸ pl.isList
 refine sum_intListG (I.ok.hd hc) hl' fun h' tk t' hk => ?_
 have e1 : ns = ys.toList.map (·.1) := by
   rw [← nums_intItems, ← hx]
   exact (show numsOf its.toArray.toList = ns from hi.numsOf).symm
 have e2 : preSum (numAt ys) ys.size = ns.sum := by
   rw [preSum_eq, List.take_of_length_le (by simp), e1]
 rw [e2]
 exact ⟨.int _, H, I.kept hk, ⟨_, rfl⟩, q⟩
theorem mt_bit_length : MtR X "int.bit_length" (fun x vs H Q => ∃ i : Int, x = .int i ∧ vs = [] ∧ Q (.int ((Builtin.Int.intBits i : Nat) : Int)) H) := by
 intro pins s σ H x xs v us Q I rx rs h
 obtain ⟨i, rfl, rfl, q⟩ := h
 obtain ⟨t, rfl⟩ := rx
 cases rs
 exact call_gives PySem.F.slot_int_bit_length (typeIs_int _ _ _) PySem.F.entry_int_bit_length (PySem.F.args_int_bit_length_1 _) (AutoIntG2.int_bit_length_int_0 i t) ⟨.int _, H, I.tok _, ⟨_, rfl⟩, q⟩
end
end L2
set_option Elab.async false
set_option linter.all false
set_option maxRecDepth 100000
set_option maxHeartbeats 16000000
namespace L2
open PySem PySem.Spec PyProof.Rows
section
variable {X : Cx}
theorem op_eqT_nil (hu : X.A.units < cLine) : OpR X (compareOp .Eq) (fun x y H Q => ∃ a b xs, x = .ref a ∧ y = .ref b ∧ SqT X.K H a xs ∧ SqT X.K H b [] ∧ Q (.bl xs.isEmpty) H) := by
 intro pins s σ H x y v u Q I rx ry h
 obtain ⟨a, b, xs, rfl, rfl, ha, hb, q⟩ := h
 cases rx
 cases ry
 obtain ⟨its, r1, p1, _⟩ := I.tuple ha
 obtain ⟨its2, r2, p2, _⟩ := I.tuple hb
 cases r2
 refine SeqAt.eq_tupleAt (e := fun _ => true) (show s.heap.IsTuple a its.toArray from p1) (show s.heap.IsTuple b ([] : List Value).toArray from p2) hu (fun j h1 h2 => by simp at h2) ?_
 have e : ((List.range (min its.toArray.size ([] : List Value).toArray.size)).all (fun _ => true) && its.toArray.size == ([] : List Value).toArray.size) = xs.isEmpty := by
   have hl := r1.length
   cases xs with
   | nil => cases r1; rfl
   | cons a r => cases r1; simp
 rw [e]
 exact ⟨.bl _, H, I, rfl, q⟩
end
end L2
set_option Elab.async false
set_option linter.all false
set_option maxRecDepth 100000
set_option maxHeartbeats 16000000
namespace L2
open PySem PySem.Spec PyProof.Rows
section
variable {prog : Program} {w : World} {A : Around} {E : Value → Shared → Prop} {s : Shared}
end
section
variable {X : Cx}
end
end L2
set_option Elab.async false
set_option linter.all false
set_option maxRecDepth 100000
set_option maxHeartbeats 16000000
namespace L2
open PySem PySem.Spec PyProof.Rows
section
variable {X : Cx}
end
end L2
set_option Elab.async false
set_option linter.all false
set_option maxRecDepth 100000
set_option maxHeartbeats 16000000
namespace RV
open PySem PySem.Spec PyProof.Rows
end RV
set_option Elab.async false
set_option linter.all false
set_option maxRecDepth 100000
set_option maxHeartbeats 16000000
namespace RV
open PySem PySem.Spec PyProof.Rows
section
variable {prog : Program} {w : World} {A : Around} {E : Value → Shared → Prop} {s : Shared}
end
end RV
set_option Elab.async false
set_option linter.all false
set_option maxRecDepth 100000
set_option maxHeartbeats 16000000
namespace RV
open PySem PySem.Spec PyProof.Rows
section
variable {prog : Program} {w : World} {A : Around} {E : Value → Shared → Prop} {s : Shared}
end
end RV
set_option Elab.async false
set_option linter.all false
set_option maxRecDepth 100000
set_option maxHeartbeats 16000000
namespace RV
open PySem PySem.Spec PyProof.Rows
section
variable {prog : Program} {w : World} {A : Around} {E : Value → Shared → Prop} {s : Shared}
end
end RV
set_option Elab.async false
set_option linter.all false
set_option maxRecDepth 100000
set_option maxHeartbeats 16000000
namespace L2
open PySem PySem.Spec PyProof.Rows PySem.W RV
section
variable {X : Cx} {e : Expr} {te : TE} {pos pos2 p p2 : Pos}
end
end L2
set_option Elab.async false
set_option linter.all false
set_option maxRecDepth 100000
set_option maxHeartbeats 16000000
namespace L2
open PySem PySem.Spec PyProof.Rows
structure Stp (P : Program) (w : World) (it src : Addr) (xs : Array Value) (I : Nat → Heap → Prop) (S : Heap → Prop) : Prop where
 item : ∀ {A : Around} {E : Value → Shared → Prop} {s : Shared} {Q : Value → Shared → Prop} {k : Nat} {x : Value}, I k s.heap → S s.heap → xs[k]? = some x → (∀ h', I (k + 1) h' → Heap.SameBut it s.heap h' → Q x { s with heap := h' }) → wpAny (model P w) A (Builtin.SmallTypes.nextOf (.ref it)) Q E s
 stop : ∀ {A : Around} {E : Value → Shared → Prop} {s : Shared} {Q : Value → Shared → Prop} {k : Nat}, A.handled = none → I k s.heap → S s.heap → xs[k]? = none → (∀ h' e, Heap.ExtBut it s.heap h' → (∃ o, h'.get? e = some o ∧ o.cls = .type "StopIteration") → E (.ref e) { s with heap := h' }) → wpAny (model P w) A (Builtin.SmallTypes.nextOf (.ref it)) Q E s
 moveI : ∀ {k : Nat} {h h' : Heap}, I k h → (∀ o, h.get? it = some o → h'.get? it = some o) → I k h'
 moveS : ∀ {h h' : Heap}, S h → (∀ o, h.get? src = some o → h'.get? src = some o) → S h'
 lt : ∀ {k : Nat} {h : Heap}, I k h → it < h.objs.size
theorem stp_list {P : Program} {w : World} (it l : Addr) (xs : Array Value) : Stp P w it l xs (fun k h => h.IsListIter it l k) (fun h => h.IsList l xs) where
 item := fun hi hs hx q => wpAny_nextOf_list_item hi hs hx q
 stop := fun hh hi hs hx q => wpAny_nextOf_list_end hh hi hs hx q
 moveI := fun hi e => hi.at e
 moveS := fun hs e => hs.at e
 lt := fun ⟨_, e, _⟩ => Heap.lt_size e
theorem tupIter_item {P : Program} {w : World} {A : Around} {E : Value → Shared → Prop} {s : Shared} {it t : Addr} {k : Nat} {xs : Array Value} {v : Value} {Q : Value → Shared → Prop} (hi : s.heap.IsTupleIter it t k) (hs : s.heap.IsTuple t xs) (hv : xs[k]? = some v)
   (q : ∀ h', h'.IsTupleIter it t (k + 1) → Heap.SameBut it s.heap h' → Q v { s with heap := h' }) : wpAny (model P w) A (Builtin.SmallTypes.nextOf (.ref it)) Q E s := by
 obtain ⟨ob, eb, cb, db⟩ := id hi
 obtain ⟨os, es, _, ns, ds⟩ := hs
 unfold Builtin.SmallTypes.nextOf
 refine wpAny_bind (wpAny_callSpecial?_slot (name := Str.ofString "__next__") hi.typeIs F.slot_tuple_iterator_next (wpAny_call_entry F.slot_tuple_iterator_next hi.typeIs F.entry_tuple_iterator_next ?_ (F.args_tuple_iterator_next_1 _)))
 show wpAny _ _ (field (Value.ref it) 0 >>= _) _ _ s
 refine wpAny_bind (wpAny_field eb db (x := Value.ref t) rfl ?_)
 show wpAny _ _ (ite ((Value.ref t == Value.none) = true) _ _) _ _ s
 rw [if_neg (by exact Bool.false_ne_true)]
 show wpAny _ _ (field (Value.ref it) 1 >>= _) _ _ s
 refine wpAny_bind (wpAny_field eb db (x := Value.int k 0) rfl ?_)
 show wpAny _ _ (seqItems? (Value.ref t) >>= _) _ _ s
 refine wpAny_bind (wpAny_seqItems es ds ?_)
 simp only [hv, Int.toNat_natCast]
 refine wpAny_bind (wpAny_setField eb db (by simp) (wpAny_pure ⟨v, rfl, wpAny_pure (q _ ⟨_, Heap.get?_update_self _ eb (Obj.isFreed_of_fields (Obj.data_mapFields db _)), (Obj.cls_mapFields ..).trans cb, ?_⟩ (Heap.SameBut.update ..))⟩))
 rw [Obj.data_mapFields db]
 simp [rawInt]
theorem tupIter_stop {P : Program} {w : World} {A : Around} {E : Value → Shared → Prop} {s : Shared} {it t : Addr} {k : Nat} {xs : Array Value} {Q : Value → Shared → Prop} (hA : A.handled = none) (hi : s.heap.IsTupleIter it t k) (hs : s.heap.IsTuple t xs) (hv : xs[k]? = none)
   (q : ∀ h' e, Heap.ExtBut it s.heap h' → (∃ o, h'.get? e = some o ∧ o.cls = .type "StopIteration") → E (.ref e) { s with heap := h' }) : wpAny (model P w) A (Builtin.SmallTypes.nextOf (.ref it)) Q E s := by
 obtain ⟨ob, eb, cb, db⟩ := id hi
 obtain ⟨os, es, _, ns, ds⟩ := hs
 unfold Builtin.SmallTypes.nextOf
 refine wpAny_bind (wpAny_callSpecial?_slot (name := Str.ofString "__next__") hi.typeIs F.slot_tuple_iterator_next (wpAny_call_entry F.slot_tuple_iterator_next hi.typeIs F.entry_tuple_iterator_next ?_ (F.args_tuple_iterator_next_1 _)))
 show wpAny _ _ (field (Value.ref it) 0 >>= _) _ _ s
 refine wpAny_bind (wpAny_field eb db (x := Value.ref t) rfl ?_)
 show wpAny _ _ (ite ((Value.ref t == Value.none) = true) _ _) _ _ s
 rw [if_neg (by exact Bool.false_ne_true)]
 show wpAny _ _ (field (Value.ref it) 1 >>= _) _ _ s
 refine wpAny_bind (wpAny_field eb db (x := Value.int k 0) rfl ?_)
 show wpAny _ _ (seqItems? (Value.ref t) >>= _) _ _ s
 refine wpAny_bind (wpAny_seqItems es ds ?_)
 simp only [hv, Int.toNat_natCast]
 refine wpAny_bind (wpAny_rule (wpAny_bind (wpAny_setField eb db (by simp) ?_)))
 show wpAny _ _ (newExc (Value.type "StopIteration") [] >>= _) _ _ _
 refine wpAny_bind ?_
 simp only [newTuple, newExc]
 refine wpAny_bind (wpAny_newObj_type (wpAny_bind (m := firstArgMember _ _) (wpAny_of_eq (a := Value.none) (by first | rfl | (simp only [firstArgMember]; rfl)) (wpAny_newObj_type ?_ (by size_fits)))) (by size_fits))
 simp only [raiseNew]
 refine wpAny_bind (wpAny_handled ?_)
 first | rw [show A.in1.handled = none from hA] | rw [hA]
 exact wpAny_bind (wpAny_pure (wpAny_throw (q _ _ (((Heap.SameBut.update ..).extBut.push _).push _) ⟨_, Heap.get?_push_size _ rfl, rfl⟩)))
theorem stp_tup {P : Program} {w : World} (it t : Addr) (xs : Array Value) : Stp P w it t xs (fun k h => h.IsTupleIter it t k) (fun h => h.IsTuple t xs) where
 item := fun hi hs hx q => tupIter_item hi hs hx q
 stop := fun hh hi hs hx q => tupIter_stop hh hi hs hx q
 moveI := fun hi e => hi.at e
 moveS := fun hs e => hs.at e
 lt := fun ⟨_, e, _⟩ => Heap.lt_size e
section
variable {P : Program} {w : World} {A : Around} {E : Value → Shared → Prop} {s : Shared} {z TI TO i1 i2 l1 l2 : Addr} {xs ys : Array Value} {I1 I2 : Nat → Heap → Prop} {S1 S2 : Heap → Prop}
theorem zipG_item {j k : Nat} {x y a b : Value} {Q : Value → Shared → Prop} (D : ZipApart z TI TO i1 i2 l1 l2) (F1 : Stp P w i1 l1 xs I1 S1) (F2 : Stp P w i2 l2 ys I2 S2)
   (hz : IsZip s.heap z TI TO .none) (hi : IsPair s.heap TI (.ref i1) (.ref i2)) (ho : IsPair s.heap TO a b) (a1 : I1 j s.heap) (a2 : I2 k s.heap) (g1 : S1 s.heap) (g2 : S2 s.heap) (ex : xs[j]? = some x) (ey : ys[k]? = some y)
   (q : ∀ h', IsZip h' z TI TO (rawInt s.heap.objs.size) → IsPair h' TO x y → I1 (j + 1) h' → I2 (k + 1) h' → IsPair h' s.heap.objs.size x y → (∀ c o, c ≠ z → c ≠ TO → c ≠ i1 → c ≠ i2 → s.heap.get? c = some o → h'.get? c = some o) → Q (.ref s.heap.objs.size) { s with heap := h' }) :
   wpAny (model P w) A (Builtin.«zip.__next__» ⟨[.ref z], []⟩) (fun fin s' => ∃ v, fin = .done (.ret v) ∧ Q v s') E s := by
 show wpAny _ _ (field (Value.ref z) 2 >>= _) _ _ _
 refine wpAny_bind (wpAny_field hz rfl (x := Value.bool false) rfl ?_)
 show wpAny _ _ (field (Value.ref z) 3 >>= _) _ _ _
 refine wpAny_bind (wpAny_field hz rfl (x := Value.ref TI) rfl (wpAny_bind (wpAny_seqItems hi rfl ?_)))
 show wpAny _ _ (Builtin.SmallTypes.ownedTupleIsFree (Value.ref z) >>= _) _ _ _
 unfold Builtin.SmallTypes.ownedTupleIsFree
 refine wpAny_bind (wpAny_bind (wpAny_field hz rfl (x := Value.none) rfl (wpAny_pure ?_)))
 simp only [if_true]
 refine wpAny_bind (wpAny_rule (wpAny_bind (wpAny_field hz rfl (x := Value.ref TO) rfl (wpAny_bind (wpAny_setField_rec hz (by simp) fun u1 y1 e1 => ?_)))))
 replace y1 : IsZip u1 z TI TO .ellipsis := y1
 refine wpAny_bind ?_
 simp only [List.forIn_cons, List.forIn_nil, List.zipIdx_cons, List.zipIdx_nil]
 refine wpAny_bind (wpAny_bind (wpAny_onRaise ?_))
 show wpAny _ _ (Builtin.SmallTypes.nextOf (Value.ref i1) >>= _) _ _ _
 refine wpAny_bind (F1.item (F1.moveI a1 fun o e => e1.extBut _ _ D.i1z e) (F1.moveS g1 fun o e => e1.extBut _ _ D.l1z e) ex fun u2 b1 e2 => wpAny_pure ?_)
 have o2 : IsPair u2 TO a b := e2.extBut _ _ D.TOi1 (e1.extBut _ _ D.TOz ho)
 refine wpAny_bind (wpAny_seqItems o2 rfl (wpAny_bind (wpAny_updateSeq_pair o2 fun u3 o3 e3 => wpAny_bind (wpAny_letGo (wpAny_pure ?_)))))
 replace o3 : IsPair u3 TO x b := o3
 refine wpAny_bind (wpAny_bind (wpAny_onRaise ?_))
 show wpAny _ _ (Builtin.SmallTypes.nextOf (Value.ref i2) >>= _) _ _ _
 refine wpAny_bind (F2.item (F2.moveI a2 fun o e => e3.extBut _ _ D.TOi2.symm (e2.extBut _ _ D.i12.symm (e1.extBut _ _ D.i2z e))) (F2.moveS g2 fun o e => e3.extBut _ _ D.l2TO (e2.extBut _ _ D.l2i1 (e1.extBut _ _ D.l2z e))) ey fun u4 b2 e4 => wpAny_pure ?_)
 have o4 : IsPair u4 TO x b := e4.extBut _ _ D.TOi2 o3
 refine wpAny_bind (wpAny_seqItems o4 rfl (wpAny_bind (wpAny_updateSeq_pair o4 fun u5 o5 e5 => wpAny_bind (wpAny_letGo (wpAny_pure (wpAny_pure ?_))))))
 replace o5 : IsPair u5 TO x y := o5
 refine wpAny_bind (wpAny_seqItems o5 rfl (wpAny_bind (wpAny_newTuple ?_)))
 have n5 : u5.objs.size = s.heap.objs.size := by rw [e5.1, e4.1, e3.1, e2.1, e1.1]
 have y5 : IsZip u5 z TI TO .ellipsis := e5.extBut _ _ D.TOz.symm (e4.extBut _ _ D.i2z.symm (e3.extBut _ _ D.TOz.symm (e2.extBut _ _ D.i1z.symm y1)))
 have k5 : ∀ c o, c ≠ z → c ≠ TO → c ≠ i1 → c ≠ i2 → s.heap.get? c = some o → u5.get? c = some o := fun c o d1 d2 d3 d4 e => e5.extBut _ _ d2 (e4.extBut _ _ d4 (e3.extBut _ _ d2 (e2.extBut _ _ d3 (e1.extBut _ _ d1 e))))
 have j5 : I1 (j + 1) u5 := F1.moveI b1 fun o e => e5.extBut _ _ D.TOi1.symm (e4.extBut _ _ D.i12 (e3.extBut _ _ D.TOi1.symm e))
 have m5 : I2 (k + 1) u5 := F2.moveI b2 fun o e => e5.extBut _ _ D.TOi2.symm e
 have zlt : z < u5.objs.size := Heap.lt_size y5
 show wpAny _ _ (Builtin.SmallTypes.ownedTupleHandOut (Value.ref z) (Value.ref u5.objs.size) >>= _) _ _ _
 unfold Builtin.SmallTypes.ownedTupleHandOut
 have y6 : IsZip (u5.push { cls := .type "tuple", data := .seq #[x, y] }) z TI TO .ellipsis := Heap.get?_push_of_some _ y5
 refine wpAny_bind (wpAny_bind (wpAny_setField_rec y6 (by simp) fun u7 y7 e7 => ?_))
 replace y7 : IsZip u7 z TI TO (rawInt u5.objs.size) := y7
 refine wpAny_setField_rec y7 (by simp) fun u8 y8 e8 => ?_
 replace y8 : IsZip u8 z TI TO (rawInt u5.objs.size) := y8
 have k8 : ∀ c o, c ≠ z → u5.get? c = some o → u8.get? c = some o := fun c o d1 e => e8.extBut _ _ d1 (e7.extBut _ _ d1 (Heap.get?_push_of_some _ e))
 have t8 : IsPair u8 u5.objs.size x y := e8.extBut _ _ (Nat.ne_of_gt zlt) (e7.extBut _ _ (Nat.ne_of_gt zlt) (Heap.get?_push_size _ rfl))
 rw [n5] at y8 t8
 refine wpAny_pure ⟨_, rfl, ?_⟩
 show Q (Value.ref u5.objs.size) _
 rw [n5]
 exact q u8 y8 (k8 _ _ D.TOz o5) (F1.moveI j5 fun o e => k8 _ o D.i1z e) (F2.moveI m5 fun o e => k8 _ o D.i2z e) t8 fun c o d1 d2 d3 d4 e => k8 c o d1 (k5 c o d1 d2 d3 d4 e)
theorem zipG_stop {j k : Nat} {a b : Value} {Q : Fin → Shared → Prop} (hA : A.handled = none) (D : ZipApart z TI TO i1 i2 l1 l2) (F1 : Stp P w i1 l1 xs I1 S1) (F2 : Stp P w i2 l2 ys I2 S2)
   (hz : IsZip s.heap z TI TO .none) (hi : IsPair s.heap TI (.ref i1) (.ref i2)) (ho : IsPair s.heap TO a b) (a1 : I1 j s.heap) (a2 : I2 k s.heap) (g1 : S1 s.heap) (g2 : S2 s.heap) (en : xs[j]? = none)
   (q : ∀ h' e, (∀ c o, c ≠ z → c ≠ TO → c ≠ i1 → c ≠ i2 → s.heap.get? c = some o → h'.get? c = some o) → (∃ o, h'.get? e = some o ∧ o.cls = .type "StopIteration") → E (.ref e) { s with heap := h' }) :
   wpAny (model P w) A (Builtin.«zip.__next__» ⟨[.ref z], []⟩) Q E s := by
 show wpAny _ _ (field (Value.ref z) 2 >>= _) _ _ _
 refine wpAny_bind (wpAny_field hz rfl (x := Value.bool false) rfl ?_)
 show wpAny _ _ (field (Value.ref z) 3 >>= _) _ _ _
 refine wpAny_bind (wpAny_field hz rfl (x := Value.ref TI) rfl (wpAny_bind (wpAny_seqItems hi rfl ?_)))
 show wpAny _ _ (Builtin.SmallTypes.ownedTupleIsFree (Value.ref z) >>= _) _ _ _
 unfold Builtin.SmallTypes.ownedTupleIsFree
 refine wpAny_bind (wpAny_bind (wpAny_field hz rfl (x := Value.none) rfl (wpAny_pure ?_)))
 simp only [if_true]
 refine wpAny_bind (wpAny_rule (wpAny_bind (wpAny_field hz rfl (x := Value.ref TO) rfl (wpAny_bind (wpAny_setField_rec hz (by simp) fun u1 y1 e1 => ?_)))))
 replace y1 : IsZip u1 z TI TO .ellipsis := y1
 refine wpAny_bind ?_
 simp only [List.forIn_cons, List.forIn_nil, List.zipIdx_cons, List.zipIdx_nil]
 refine wpAny_bind (wpAny_bind (wpAny_onRaise ?_))
 show wpAny _ _ (Builtin.SmallTypes.nextOf (Value.ref i1) >>= _) _ _ _
 refine wpAny_bind (F1.stop hA (F1.moveI a1 fun o e => e1.extBut _ _ D.i1z e) (F1.moveS g1 fun o e => e1.extBut _ _ D.l1z e) en fun u2 ev e2 hev => ?_)
 obtain ⟨oe, hoe, hce⟩ := hev
 have y2 : IsZip u2 z TI TO .ellipsis := e2 _ _ D.i1z.symm y1
 have nez : ev ≠ z := fun c => by
   subst c
   rw [y2] at hoe
   cases hoe
   simp at hce
 exact wpAny_setField_rec y2 (by simp) fun u3 _ e3 => q u3 ev (fun c o d1 _ d3 _ e => e3.extBut _ _ d1 (e2 _ _ d3 (e1.extBut _ _ d1 e))) ⟨oe, e3.extBut _ _ nez hoe, hce⟩
theorem nextZ_item {j k : Nat} {x y a b : Value} {Q : Option Value → Shared → Prop} (D : ZipApart z TI TO i1 i2 l1 l2) (F1 : Stp P w i1 l1 xs I1 S1) (F2 : Stp P w i2 l2 ys I2 S2)
   (hz : IsZip s.heap z TI TO .none) (hi : IsPair s.heap TI (.ref i1) (.ref i2)) (ho : IsPair s.heap TO a b) (a1 : I1 j s.heap) (a2 : I2 k s.heap) (g1 : S1 s.heap) (g2 : S2 s.heap) (ex : xs[j]? = some x) (ey : ys[k]? = some y)
   (q : ∀ h', IsZip h' z TI TO (rawInt s.heap.objs.size) → IsPair h' TO x y → I1 (j + 1) h' → I2 (k + 1) h' → IsPair h' s.heap.objs.size x y → (∀ c o, c ≠ z → c ≠ TO → c ≠ i1 → c ≠ i2 → s.heap.get? c = some o → h'.get? c = some o) → Q (some (.ref s.heap.objs.size)) { s with heap := h' }) :
   wpAny (model P w) A (pyNext (.ref z)) Q E s := by
 have ty : s.TypeIs (.ref z) "zip" := ⟨_, hz, rfl⟩
 unfold pyNext
 exact wpAny_bind (wpAny_attempt (wpAny_callSpecial?_slot (name := Str.ofString "__next__") ty F.slot_zip_next (wpAny_call_entry F.slot_zip_next ty F.entry_zip_next (zipG_item D F1 F2 hz hi ho a1 a2 g1 g2 ex ey fun h' c1 c2 c3 c4 c5 c6 => wpAny_pure (q h' c1 c2 c3 c4 c5 c6)) (F.args_zip_next_1 _))))
theorem nextZ_stop {j k : Nat} {a b : Value} {Q : Option Value → Shared → Prop} (hA : A.handled = none) (D : ZipApart z TI TO i1 i2 l1 l2) (F1 : Stp P w i1 l1 xs I1 S1) (F2 : Stp P w i2 l2 ys I2 S2)
   (hz : IsZip s.heap z TI TO .none) (hi : IsPair s.heap TI (.ref i1) (.ref i2)) (ho : IsPair s.heap TO a b) (a1 : I1 j s.heap) (a2 : I2 k s.heap) (g1 : S1 s.heap) (g2 : S2 s.heap) (en : xs[j]? = none)
   (q : ∀ h', (∀ c o, c ≠ z → c ≠ TO → c ≠ i1 → c ≠ i2 → s.heap.get? c = some o → h'.get? c = some o) → Q none { s with heap := h' }) : wpAny (model P w) A (pyNext (.ref z)) Q E s := by
 have ty : s.TypeIs (.ref z) "zip" := ⟨_, hz, rfl⟩
 unfold pyNext
 refine wpAny_bind (wpAny_attempt (wpAny_callSpecial?_slot (name := Str.ofString "__next__") ty F.slot_zip_next (wpAny_call_entry F.slot_zip_next ty F.entry_zip_next (zipG_stop hA D F1 F2 hz hi ho a1 a2 g1 g2 en fun h' ev hk hev => ?_) (F.args_zip_next_1 _))))
 obtain ⟨oe, hoe, hce⟩ := hev
 exact wpAny_bind (wpAny_isInstance (T := "StopIteration") (b := true) ⟨oe, hoe, hce⟩ isSubtype_stop (wpAny_pure (q _ hk)))
end
theorem wr_sub {n c : Addr} (hc : c ∈ [n + 4, n + 3, n, n + 1]) : c ∈ zipFp n := by
 simp only [zipFp, List.mem_cons, List.not_mem_nil, or_false] at hc ⊢
 rcases hc with z | z | z | z <;> simp [z]
theorem wr_not {n c : Addr} (hc : c ∉ [n + 4, n + 3, n, n + 1]) : c ≠ n + 4 ∧ c ≠ n + 3 ∧ c ≠ n ∧ c ≠ n + 1 := by
 simp only [List.mem_cons, List.not_mem_nil, or_false, not_or] at hc
 exact hc
section
variable {X : Cx} {elts : List Expr} {k : Nat} {tpos : Pos}
end
end L2
set_option Elab.async false
set_option linter.all false
set_option maxRecDepth 100000
set_option maxHeartbeats 16000000
namespace L2
open PySem PySem.Spec PyProof.Rows PySem.W
noncomputable def RawAt (h : Heap) (d : Addr) (es : Array DictEntry) (ep : Nat) : Prop := ∃ o, h.get? d = some o ∧ o.ExactDict ∧ o.data = .dict es ep
section
variable {P : Program} {w : World} {A : Around} {E : Value → Shared → Prop} {s : Shared} {d : Addr} {es : Array DictEntry} {ep : Nat}
theorem RawAt.ty (r : RawAt s.heap d es ep) : s.TypeIs (.ref d) "dict" := by
 obtain ⟨ob, e, c, _⟩ := r
 exact ⟨ob, e, c.1⟩
theorem raw_iter {Q : Value → Shared → Prop} (lo : (d == sysModules) = false) (r : RawAt s.heap d es ep)
   (q : Q (.ref s.heap.objs.size) { s with heap := s.heap.push { cls := .type "dict_keyiterator", data := .fields #[.ref d, .int 0 0, .int es.size 0, .int ep 0] } }) : wpAny (model P w) A (pyIter (.ref d)) Q E s := by
 have ty := r.ty
 obtain ⟨ob, eb, cb, db⟩ := r
 refine wpAny_pyIter_slot ty F.slot_dict_iter (wpAny_call_entry F.slot_dict_iter ty F.entry_dict_iter ?_ (F.args_dict_iter_1 _))
 unfold Builtin.«dict.__iter__» Builtin.Dict.dictSlotNone
 refine wpAny_bind (wpAny_bind (wpAny_notOrdered_dict ty ?_))
 show wpAny _ _ (pure (Value.ref d)) _ _ s
 refine wpAny_pure ?_
 show wpAny _ _ (Builtin.Dict.showsAll d >>= _) _ _ s
 unfold Builtin.Dict.showsAll
 rw [if_neg (fun z => by rw [lo] at z; exact Bool.false_ne_true z)]
 refine wpAny_bind (wpAny_pure (wpAny_bind (wpAny_dictEntries eb db (wpAny_bind (wpAny_dictEpoch eb db ?_)))))
 refine wpAny_bind (wpAny_newObj_type (wpAny_pure ⟨_, rfl, "dict_keyiterator", _, ⟨_, Heap.get?_push_size _ rfl, rfl⟩, F.slot_dict_keyiterator_next.lookup, ?_⟩))
 simpa [rawInt] using q
theorem raw_item {it : Addr} {i : Nat} {e : DictEntry} {Q : Option Value → Shared → Prop} (hi : s.heap.IsKeyIter it d i es.size ep) (r : RawAt s.heap d es ep) (he : es[i]? = some e)
   (q : ∀ h', h'.IsKeyIter it d (i + 1) es.size ep → Heap.SameBut it s.heap h' → Q (some e.key) { s with heap := h' }) : wpAny (model P w) A (pyNext (.ref it)) Q E s := by
 obtain ⟨oi, ei, ci, di⟩ := id hi
 obtain ⟨ob, eb, cb, db⟩ := r
 unfold pyNext
 refine wpAny_bind (wpAny_attempt (wpAny_callSpecial?_slot (name := Str.ofString "__next__") hi.typeIs F.slot_dict_keyiterator_next (wpAny_call_entry F.slot_dict_keyiterator_next hi.typeIs F.entry_dict_keyiterator_next ?_ (F.args_dict_keyiterator_next_1 _))))
 refine wpAny_bind (wpAny_pure (wpAny_bind (wpAny_bind ?_)))
 first | refine wpAny_bind (wpAny_typeNameOfWhole_keyiter hi.typeIs (wpAny_pure (wpAny_bind (wpAny_fieldsOf ei di ?_)))) | refine wpAny_bind (wpAny_typeNameOf_keyiter hi.typeIs (wpAny_pure (wpAny_bind (wpAny_fieldsOf ei di ?_))))
 simp only [show Builtin.Dict_items.ownsTuple "dict_keyiterator" = false by decide, Bool.false_eq_true, if_false]
 show wpAny _ _ (ite ((Value.ref d == Value.none) = true) _ _) _ _ s
 rw [if_neg (by exact Bool.false_ne_true)]
 refine wpAny_bind (wpAny_pure (wpAny_bind (wpAny_dictEntries eb db ?_)))
 rw [if_neg (by simp)]
 refine wpAny_bind (wpAny_pure (wpAny_bind (wpAny_dictEpoch eb db ?_)))
 rw [if_neg (by simp)]
 refine wpAny_pure ?_
 simp only [show ¬ ((i : Int) < 0) from by omega, if_false, Int.toNat_natCast, he]
 refine wpAny_bind ?_
 first | refine wpAny_bind (wpAny_typeNameOfWhole_keyiter hi.typeIs (wpAny_pure (wpAny_bind (wpAny_isOneOf_keyiter hi.typeIs ?_)))) | refine wpAny_bind (wpAny_typeNameOf_keyiter hi.typeIs (wpAny_pure (wpAny_bind (wpAny_isOneOf_keyiter hi.typeIs ?_))))
 show wpAny _ _ (setField (Value.ref it) 1 (rawInt ((i : Int) + 1)) >>= _) _ _ s
 refine wpAny_bind (wpAny_setField ei di (by simp) ?_)
 have hi2 : (s.heap.update it (Obj.mapFields (·.setIfInBounds 1 (rawInt ((i : Int) + 1))))).IsKeyIter it d (i + 1) es.size ep := ⟨_, Heap.get?_update_self _ ei (Obj.isFreed_of_fields (Obj.data_mapFields di _)), (Obj.cls_mapFields ..).trans ci, by
   rw [Obj.data_mapFields di]
   simp [rawInt]⟩
 refine wpAny_bind (wpAny_holding (wpAny_bind (wpAny_isOneOf_keyiter (s := { s with heap := s.heap.update it (Obj.mapFields (·.setIfInBounds 1 (rawInt ((i : Int) + 1)))) }) hi2.typeIs ?_)))
 show wpAny _ _ (pure e.key) _ _ _
 exact wpAny_pure (wpAny_pure ⟨_, rfl, wpAny_pure (q _ hi2 (Heap.SameBut.update ..))⟩)
theorem raw_stop {it : Addr} {i : Nat} {Q : Option Value → Shared → Prop} (hA : A.handled = none) (hi : s.heap.IsKeyIter it d i es.size ep) (r : RawAt s.heap d es ep) (he : es[i]? = none)
   (q : ∀ h', Heap.ExtBut it s.heap h' → Q none { s with heap := h' }) : wpAny (model P w) A (pyNext (.ref it)) Q E s := by
 obtain ⟨oi, ei, ci, di⟩ := id hi
 obtain ⟨ob, eb, cb, db⟩ := r
 unfold pyNext
 refine wpAny_bind (wpAny_attempt (wpAny_callSpecial?_slot (name := Str.ofString "__next__") hi.typeIs F.slot_dict_keyiterator_next (wpAny_call_entry F.slot_dict_keyiterator_next hi.typeIs F.entry_dict_keyiterator_next ?_ (F.args_dict_keyiterator_next_1 _))))
 refine wpAny_bind (wpAny_pure (wpAny_bind (wpAny_bind ?_)))
 first | refine wpAny_bind (wpAny_typeNameOfWhole_keyiter hi.typeIs (wpAny_pure (wpAny_bind (wpAny_fieldsOf ei di ?_)))) | refine wpAny_bind (wpAny_typeNameOf_keyiter hi.typeIs (wpAny_pure (wpAny_bind (wpAny_fieldsOf ei di ?_))))
 simp only [show Builtin.Dict_items.ownsTuple "dict_keyiterator" = false by decide, Bool.false_eq_true, if_false]
 show wpAny _ _ (ite ((Value.ref d == Value.none) = true) _ _) _ _ s
 rw [if_neg (by exact Bool.false_ne_true)]
 refine wpAny_bind (wpAny_pure (wpAny_bind (wpAny_dictEntries eb db ?_)))
 rw [if_neg (by simp)]
 refine wpAny_bind (wpAny_pure (wpAny_bind (wpAny_dictEpoch eb db ?_)))
 rw [if_neg (by simp)]
 refine wpAny_pure ?_
 simp only [show ¬ ((i : Int) < 0) from by omega, if_false, Int.toNat_natCast, he]
 refine wpAny_bind ?_
 first | refine wpAny_bind (wpAny_typeNameOfWhole_keyiter hi.typeIs (wpAny_pure ?_)) | refine wpAny_bind (wpAny_typeNameOf_keyiter hi.typeIs (wpAny_pure ?_))
 show wpAny _ _ (setField (Value.ref it) 0 .none >>= _) _ _ s
 refine wpAny_bind (wpAny_setField ei di (by simp) ?_)
 show wpAny _ _ (newExc (Value.type "StopIteration") [] >>= _) _ _ _
 refine wpAny_bind ?_
 simp only [newTuple, newExc]
 refine wpAny_bind (wpAny_newObj_type (wpAny_bind (m := firstArgMember _ _) (wpAny_of_eq (a := Value.none) (by first | rfl | (simp only [firstArgMember]; rfl)) (wpAny_newObj_type ?_ (by size_fits)))) (by size_fits))
 simp only [raiseNew]
 refine wpAny_bind (wpAny_handled ?_)
 rw [show A.in1.handled = none from hA]
 refine wpAny_bind (wpAny_pure (wpAny_throw ?_))
 exact wpAny_bind (wpAny_isInstance (T := "StopIteration") (b := true) ⟨_, Heap.get?_push_size _ rfl, rfl⟩ isSubtype_stop (wpAny_pure (q _ (((Heap.SameBut.update ..).extBut.push _).push _))))
end
section
variable {X : Cx}
end
end L2
set_option Elab.async false
set_option linter.all false
set_option maxRecDepth 100000
set_option maxHeartbeats 16000000
namespace L2
open PySem PySem.Spec PyProof.Rows
section
variable {X : Cx}
end
end L2
set_option Elab.async false
set_option linter.all false
set_option maxRecDepth 100000
set_option maxHeartbeats 16000000
namespace RG
open PySem PySem.Spec PyProof.Rows
section
variable {prog : Program} {w : World} {A : Around} {E : Value → Shared → Prop} {s : Shared}
variable {I : Addr} {fp : List Addr} {n : Nat} {P : Nat → Value → Prop} {St : Nat → Heap → Prop} {T : String}
end
end RG
set_option Elab.async false
set_option linter.all false
set_option maxRecDepth 100000
set_option maxHeartbeats 16000000
namespace RG
open PySem PySem.Spec PyProof.Rows
section
variable {prog : Program} {w : World} {A : Around} {E : Value → Shared → Prop} {s : Shared}
end
end RG
namespace L2
open PySem PySem.Spec PyProof.Rows PySem.W RG
section
variable {X : Cx} {e : Expr} {te : TE} {pos pos2 pos3 p p2 p3 : Pos}
end
end L2
set_option Elab.async false
set_option linter.all false
set_option maxRecDepth 100000
set_option maxHeartbeats 16000000
namespace L2
open PySem PySem.Spec PyProof.Rows PySem.W RG
open AutoSeq1 (wpAny_loadPart')
section
variable {prog : Program} {w : World} {A : Around} {E : Value → Shared → Prop} {s : Shared}
end
section
variable {X : Cx} {e : Expr} {te : TE} {pos pos3 p p3 : Pos}
end
end L2
set_option Elab.async false
set_option linter.all false
set_option maxRecDepth 100000
set_option maxHeartbeats 16000000
namespace L2
open PySem PySem.Spec PyProof.Rows PySem.W
section
variable {X : Cx} {e : Expr} {te : TE} {pos pos3 p p3 : Pos}
end
end L2
set_option Elab.async false
set_option linter.all false
set_option maxRecDepth 100000
set_option maxHeartbeats 16000000
namespace L2
open PySem PySem.Spec PyProof.Rows PySem.W
section
variable {prog : Program} {w : World} {A : Around} {R : Result → Shared → Prop} {it best : Addr} {fp wr : List Addr} {n : Nat} {P : Nat → Value → Prop} {St : Nat → Heap → Prop}
noncomputable def KeptBut (wr : List Addr) (best : Addr) (h h' : Heap) : Prop := ∀ b o, b ∉ wr → b ≠ best → h.get? b = some o → h'.get? b = some o
theorem KeptBut.trans {wr : List Addr} {best : Addr} {h1 h2 h3 : Heap} (a : KeptBut wr best h1 h2) (b : KeptBut wr best h2 h3) : KeptBut wr best h1 h3 := fun x o m1 m2 e => b x o m1 m2 (a x o m1 m2 e)
structure MinW (prog : Program) (w : World) (A : Around) (it best : Addr) (fp wr : List Addr) (n : Nat) (P : Nat → Value → Prop) (St : Nat → Heap → Prop) (G : Heap → Prop) (lt : Nat → Nat → Bool) : Prop where
 wk : Walks prog w A it fp wr n P St
 out : best ∉ fp
 keep : ∀ h h', KeptBut wr best h h' → G h → G h'
 cmp : ∀ i j x y (s : Shared) (Q E : Value → Shared → Prop), G s.heap → P i x → P j y → Q (.bool (lt i j)) s → wpAny (model prog w) A (richCompare .Lt x y) Q E s
noncomputable def bestObj (vs : Array Value) (c : Nat) : Obj := { cls := .type "list", dict := none, data := .seq vs c, slots := #[] }
theorem name_min : (toString "min" ++ toString ".loop" : String) = "min.loop" := by decide
theorem min_rest {G : Heap → Prop} {lt : Nat → Nat → Bool} (M : MinW prog w A.in1 it best fp wr n P St G lt) : ∀ (m j c : Nat) (v : Value) (s : Shared), j + 1 + m = n → G s.heap → St (j + 1) s.heap → P (argBest lt j) v → s.heap.get? best = some (bestObj #[v, v] c) →
   (∀ u h' tk, P (argBest lt (n - 1)) u → KeptBut wr best s.heap h' → R (.ok (.ret u)) { s with heap := h', toks := tk }) → codeAny (model prog w) A (.builtin "min.loop" ⟨[.ref it, .none, .ref best], []⟩) R s
 | 0, j, c, v, s, hm, hG, hst, hv, hb, q => by
   have hbw : best ∉ wr := fun z => M.out (M.wk.sub _ z)
   refine codeAny_builtin PySem.F.entry_min_loop ?_
   rw [Around.under_plainId PySem.F.plain_min_loop _]
   show wpAny _ A.in1 (seqItems? (.ref best) >>= _) _ _ s
   refine wpAny_bind (wpAny_seqItems hb rfl ?_)
   show wpAny _ A.in1 (tryCatch (pyNext (.ref it)) _ >>= _) _ _ s
   have en : j + 1 = n := by omega
   refine wpAny_bind (wpAny_tryCatch (M.wk.done s _ _ (by rw [← en]; exact hst) fun h1 tk k1 => ?_))
   show wpAny _ A.in1 (updateSeq best (fun _ => #[]) >>= _) _ _ _
   refine wpAny_bind (wpAny_updateSeq (k1 best _ hbw hb) rfl (wpAny_bind (wpAny_letGo (wpAny_pure ?_))))
   refine q v _ tk (by rw [← en]; exact hv) fun b o m1 m2 e => ?_
   exact (Heap.get?_update_other _ _ (Ne.symm m2)).trans (k1 b o m1 e)
 | m + 1, j, c, v, s, hm, hG, hst, hv, hb, q => by
   have hbw : best ∉ wr := fun z => M.out (M.wk.sub _ z)
   refine codeAny_builtin PySem.F.entry_min_loop ?_
   rw [Around.under_plainId PySem.F.plain_min_loop _]
   show wpAny _ A.in1 (seqItems? (.ref best) >>= _) _ _ s
   refine wpAny_bind (wpAny_seqItems hb rfl ?_)
   show wpAny _ A.in1 (tryCatch (pyNext (.ref it)) _ >>= _) _ _ s
   refine wpAny_bind (wpAny_tryCatch (M.wk.item (j + 1) s _ _ (by omega) hst fun x h1 tk hx st1 k1 => ?_))
   have kb1 : KeptBut wr best s.heap h1 := fun b o m1 _ e => k1 b o m1 e
   have hb1 := k1 best _ hbw hb
   have hG1 := M.keep _ _ kb1 hG
   show wpAny _ A.in1 (tryCatch (holding [x, x] (richCompare .Lt x v >>= _)) _ >>= _) _ _ _
   refine wpAny_bind (wpAny_tryCatch (wpAny_holding (wpAny_bind (M.cmp (j + 1) (argBest lt j) x v _ _ _ hG1 hx hv ?_))))
   refine wpAny_bind (wpAny_holding (wpAny_truthy_bool ?_))
   refine wpAny_bind (wpAny_letGo (wpAny_pure ?_))
   by_cases hl : lt (j + 1) (argBest lt j) = true
   · rw [hl]
     simp only [if_true]
     refine wpAny_bind (wpAny_updateSeq hb1 rfl (wpAny_bind (wpAny_letGo ?_)))
     rw [name_min]
     have k2 : KeptBut wr best h1 (h1.update best fun _ => bestObj #[x, x] (c + 1)) := fun b o m1 m2 e => (Heap.get?_update_other _ _ (Ne.symm m2)).trans e
     refine wpAny_pure ⟨plainId_quiet PySem.F.plain_min_loop _, min_rest M m (j + 1) _ x _ (by omega) (M.keep _ _ ?_ hG1) (M.wk.frame _ _ _ st1 fun b hf o e => ?_) ?_ (Heap.get?_update_self _ hb1 rfl) fun u h2 tk2 hu k3 => ?_⟩
     · exact fun b o m1 m2 e => (Heap.get?_update_other _ _ (Ne.symm m2)).trans e
     · exact (Heap.get?_update_other _ _ (fun z : best = b => M.out (by rw [z]; exact hf))).trans e
     · show P (if lt (j + 1) (argBest lt j) then j + 1 else argBest lt j) x
       rw [hl]
       exact hx
     · exact q u h2 tk2 hu fun b o m1 m2 e => k3 b o m1 m2 ((Heap.get?_update_other _ _ (Ne.symm m2)).trans (kb1 b o m1 m2 e))
   · have hl' : lt (j + 1) (argBest lt j) = false := Bool.not_eq_true _ ▸ hl
     rw [hl']
     simp only [Bool.false_eq_true, if_false]
     refine wpAny_bind (wpAny_letGo ?_)
     rw [name_min]
     refine wpAny_pure ⟨plainId_quiet PySem.F.plain_min_loop _, min_rest M m (j + 1) c v _ (by omega) hG1 st1 ?_ hb1 fun u h2 tk2 hu k3 => q u h2 tk2 hu (kb1.trans k3)⟩
     show P (if lt (j + 1) (argBest lt j) then j + 1 else argBest lt j) v
     rw [hl']
     exact hv
theorem min_first {G : Heap → Prop} {lt : Nat → Nat → Bool} (M : MinW prog w A.in1 it best fp wr n P St G lt) (hn : 0 < n) {c : Nat} {s : Shared} (hG : G s.heap) (hst : St 0 s.heap) (hb : s.heap.get? best = some (bestObj #[] c))
   (q : ∀ u h' tk, P (argBest lt (n - 1)) u → KeptBut wr best s.heap h' → R (.ok (.ret u)) { s with heap := h', toks := tk }) : codeAny (model prog w) A (.builtin "min.loop" ⟨[.ref it, .none, .ref best], []⟩) R s := by
 have hbw : best ∉ wr := fun z => M.out (M.wk.sub _ z)
 refine codeAny_builtin PySem.F.entry_min_loop ?_
 rw [Around.under_plainId PySem.F.plain_min_loop _]
 show wpAny _ A.in1 (seqItems? (.ref best) >>= _) _ _ s
 refine wpAny_bind (wpAny_seqItems hb rfl ?_)
 show wpAny _ A.in1 (tryCatch (pyNext (.ref it)) _ >>= _) _ _ s
 refine wpAny_bind (wpAny_tryCatch (M.wk.item 0 s _ _ hn hst fun x h1 tk hx st1 k1 => ?_))
 have kb1 : KeptBut wr best s.heap h1 := fun b o m1 _ e => k1 b o m1 e
 have hb1 := k1 best _ hbw hb
 show wpAny _ A.in1 (updateSeq best (fun _ => #[x, x]) >>= _) _ _ _
 refine wpAny_bind (wpAny_updateSeq hb1 rfl ?_)
 rw [name_min]
 refine wpAny_pure ⟨plainId_quiet PySem.F.plain_min_loop _, min_rest M (n - 1) 0 _ x _ (by omega) (M.keep _ _ ?_ (M.keep _ _ kb1 hG)) (M.wk.frame _ _ _ st1 fun b hf o e => ?_) hx (Heap.get?_update_self _ hb1 rfl) fun u h2 tk2 hu k3 => ?_⟩
 · exact fun b o m1 m2 e => (Heap.get?_update_other _ _ (Ne.symm m2)).trans e
 · exact (Heap.get?_update_other _ _ (fun z : best = b => M.out (by rw [z]; exact hf))).trans e
 · exact q u h2 tk2 hu fun b o m1 m2 e => k3 b o m1 m2 ((Heap.get?_update_other _ _ (Ne.symm m2)).trans (kb1 b o m1 m2 e))
end
section
variable {X : Cx}
noncomputable def PrI2 (K : PySem.W.Frag) (H : Hp) (v : V) (n : Int × Int) : Prop := ∃ t, v = .ref t ∧ SqT K H t [.int n.1, .int n.2]
noncomputable def prI2 (ns : List (Int × Int)) (i j : Nat) : Bool := HT.lexLt [(ns.getD i (0, 0)).1, (ns.getD i (0, 0)).2] [(ns.getD j (0, 0)).1, (ns.getD j (0, 0)).2]
theorem prI2_t {ns : List (Int × Int)} {i j : Nat} (h : prI2 ns i j = true) : (ns.getD i (0, 0)).1 ≤ (ns.getD j (0, 0)).1 := by
 unfold prI2 at h
 rw [HT.lexLt_cons] at h
 split at h
 · omega
 · exact Int.le_of_lt (of_decide_eq_true h)
theorem prI2_f {ns : List (Int × Int)} {i j : Nat} (h : prI2 ns i j = false) : (ns.getD j (0, 0)).1 ≤ (ns.getD i (0, 0)).1 := by
 unfold prI2 at h
 rw [HT.lexLt_cons] at h
 split at h
 · omega
 · exact Int.not_lt.mp (of_decide_eq_false h)
theorem best_le (ns : List (Int × Int)) : ∀ k, argBest (prI2 ns) k ≤ k ∧ ∀ i, i ≤ k → (ns.getD (argBest (prI2 ns) k) (0, 0)).1 ≤ (ns.getD i (0, 0)).1
 | 0 => ⟨Nat.le_refl _, fun i hi => by rw [Nat.le_zero.mp hi]; exact Int.le_refl _⟩
 | k + 1 => by
   obtain ⟨h1, h2⟩ := best_le ns k
   cases hl : prI2 ns (k + 1) (argBest (prI2 ns) k) with
   | true =>
     have e : argBest (prI2 ns) (k + 1) = k + 1 := by simp only [argBest, hl, if_true]
     rw [e]
     refine ⟨Nat.le_refl _, fun i hi => ?_⟩
     have h3 := prI2_t hl
     by_cases z : i = k + 1
     · rw [z]; exact Int.le_refl _
     · exact Int.le_trans h3 (h2 i (by omega))
   | false =>
     have e : argBest (prI2 ns) (k + 1) = argBest (prI2 ns) k := by simp only [argBest, hl, Bool.false_eq_true, if_false]
     rw [e]
     refine ⟨by omega, fun i hi => ?_⟩
     by_cases z : i = k + 1
     · rw [z]; exact prI2_f hl
     · exact h2 i (by omega)
theorem call_minP (hc : X.calm = true) (hu : X.A.units + 1 < cLine) : CallR X (.builtin "min") (fun xs H Q => ∃ (p : Addr) (vs : List V) (ns : List (Int × Int)), xs = [.ref p] ∧ SqL X.K H p vs ∧ Paired (PrI2 X.K H) vs ns ∧ ns ≠ [] ∧
   ∀ (i : Nat) (v : V) (n : Int × Int), vs[i]? = some v → ns[i]? = some n → (∀ m ∈ ns, n.1 ≤ m.1) → Q v H) := by
 intro pins s σ H xs us Q I r h
 obtain ⟨p, vs, ns, rfl, hq, hps, hne, q⟩ := h
 obtain ⟨u, rfl, rx⟩ := vals1 r
 cases rx
 obtain ⟨its, r', pl, hz⟩ := I.list hq
 have hl := pl.isList
 have hlt : p < s.heap.objs.size := by
   obtain ⟨_, e, _⟩ := hl
   exact Heap.lt_size e
 have hln : vs.length = ns.length := Paired.length hps
 have hlv : its.length = vs.length := r'.length.symm
 have hn0 : 0 < ns.length := List.length_pos_iff.mpr hne
 have hg : ∀ (i : Nat) (v : Value), its.toArray[i]? = some v → ∃ x n, vs[i]? = some x ∧ ns[i]? = some n ∧ RelV x v ∧ PrI2 X.K H x n := fun i v e => by
   have e' : its[(i : Nat)]? = some v := by rw [← e]; simp
   obtain ⟨x, hx, rv⟩ := Paired.get?' r' e'
   obtain ⟨n, hn, hp⟩ := Paired.get? hps hx
   exact ⟨x, n, hx, hn, rv, hp⟩
 refine call_function_tree PySem.F.kind_min PySem.F.plain_min PySem.F.entry_min (PySem.F.args_min1 _) ?_
 show wpAny _ X.A.in1 (Builtin.Builtins.bindParams "min" ["key", "default"] 0 ⟨[], []⟩ >>= _) _ _ s
 refine wpAny_bind (wpAny_of_eq (show Builtin.Builtins.bindParams "min" ["key", "default"] 0 ⟨[], []⟩ = pure [none, none] from rfl) ?_)
 refine wpAny_bind (wpAny_pure (wpAny_bind (wpAny_pyIter_list hl ?_)))
 refine wpAny_bind (wpAny_newObj_type ?_)
 rw [name_min]
 have hh : X.A.in1.handled = none := by simp [I.ok.hd hc]
 have hne1 : p ≠ s.heap.objs.size := Nat.ne_of_lt hlt
 refine wpAny_pure ⟨plainId_quiet PySem.F.plain_min_loop _, min_first (c := 0) (G := fun h => ∀ b o, s.heap.get? b = some o → h.get? b = some o) (lt := prI2 ns)
   ⟨Walks.list hh s.heap.objs.size p hne1 its.toArray, ?_, ?_, ?_⟩ (by rw [List.size_toArray]; omega) (fun b o e => Heap.get?_push_of_some _ (Heap.get?_push_of_some _ e)) ⟨⟨_, Heap.get?_push_of_some _ (Heap.get?_push_size _ rfl), rfl, rfl⟩, (hl.push _).push _⟩ (Heap.get?_push_size _ rfl) fun u h' tk hu' k => ?_⟩
 · rw [Heap.size_push]
   simp only [List.mem_cons, List.mem_singleton, List.not_mem_nil, or_false, not_or]
   exact ⟨Nat.ne_of_gt (Nat.lt_succ_self _), Nat.ne_of_gt (Nat.lt_succ_of_lt hlt)⟩
 · intro h h' k hG b o e
   have hb := Heap.lt_size e
   refine k b o ?_ ?_ (hG b o e)
   · rw [List.mem_singleton]; exact Nat.ne_of_lt hb
   · rw [Heap.size_push]; exact Nat.ne_of_lt (Nat.lt_succ_of_lt hb)
 · intro i j x y s' Q' E' hG hx hy q'
   obtain ⟨x1, n1, hx1, hn1, rx1, t1, rfl, st1⟩ := hg i x hx
   obtain ⟨x2, n2, hx2, hn2, rx2, t2, rfl, st2⟩ := hg j y hy
   cases rx1
   cases rx2
   obtain ⟨its1, r1, p1, _⟩ := I.tuple st1
   obtain ⟨its2, r2, p2, _⟩ := I.tuple st2
   have i1 : IntsAre its1.toArray.toList [n1.1, n1.2] := intsAre_of (ns := [n1.1, n1.2]) r1
   have i2 : IntsAre its2.toArray.toList [n2.1, n2.2] := intsAre_of (ns := [n2.1, n2.2]) r2
   have q1 : IsTup s'.heap t1 its1.toArray := by
     obtain ⟨o, e, rest⟩ := p1
     exact ⟨o, hG _ _ e, rest⟩
   have q2 : IsTup s'.heap t2 its2.toArray := by
     obtain ⟨o, e, rest⟩ := p2
     exact ⟨o, hG _ _ e, rest⟩
   have el : prI2 ns i j = HT.lexLt [n1.1, n1.2] [n2.1, n2.2] := by
     unfold prI2
     rw [List.getD_eq_getElem?_getD, List.getD_eq_getElem?_getD, hn1, hn2]
     rfl
   rw [el] at q'
   exact HT.lt_tupInts q1 q2 i1 i2 (by show X.A.in1.units < cLine; simpa using hu) q'
 · obtain ⟨x, n, hx, hn, rx, _⟩ := hg _ u hu'
   have hk : ∀ b o, s.heap.get? b = some o → h'.get? b = some o := fun b o e => by
     have hb := Heap.lt_size e
     refine k b o ?_ ?_ (Heap.get?_push_of_some _ (Heap.get?_push_of_some _ e))
     · rw [List.mem_singleton]; exact Nat.ne_of_lt hb
     · rw [Heap.size_push]; exact Nat.ne_of_lt (Nat.lt_succ_of_lt hb)
   refine ⟨x, H, I.kept hk, rx, q _ x n hx hn fun m hm => ?_⟩
   obtain ⟨i, hi⟩ := List.getElem?_of_mem hm
   have hil := (List.getElem?_eq_some_iff.mp hi).1
   have h1 := (best_le ns (its.toArray.size - 1)).2 i (by rw [List.size_toArray]; omega)
   rw [List.getD_eq_getElem?_getD, List.getD_eq_getElem?_getD, hn, hi] at h1
   exact h1
end
end L2
set_option Elab.async false
set_option linter.all false
set_option maxRecDepth 100000
set_option maxHeartbeats 16000000
namespace L2
open PySem PySem.Spec PyProof.Rows PySem.W
section
variable {X : Cx} {pins : List (Addr × Obj)} {σ : List (Option V)} {H : Hp} {s : Shared}
theorem Inv.freeze {d : Addr} {o : Obj} {u : HO} (I : Inv X pins σ H s) (h : H d = some u) (n1 : ∀ xs, u ≠ .tup xs) (n2 : ∀ o' u', u ≠ .frz o' u') (n3 : ∀ ps, u ≠ .tbl ps) (n4 : ∀ a, u ≠ .own a) (ho : s.heap.get? d = some o) : Inv X pins σ (upd H d (.frz o u)) s := by
 have ne : ∀ {b : Addr} {v : HO}, H b = some v → v ≠ u → b ≠ d := fun {b v} e hv z => by
   rw [z, h] at e
   exact hv (Option.some.inj e).symm
 have kt : ∀ (b : Addr) (xs : List V), H b = some (.tup xs) → upd H d (.frz o u) b = some (.tup xs) := fun b xs e => by
   rw [upd_ne (ne e fun z => n1 xs z.symm)]
   exact e
 have ko : ∀ (a b : Addr), H b = some (.own a) → upd H d (.frz o u) b = some (.own a) := fun a b e => by
   rw [upd_ne (ne e fun z => n4 a z.symm)]
   exact e
 refine I.step (h' := s.heap) (g' := s.gens) (d' := s.drawn) (t' := s.toks) (ch := []) (fun _ z => nomatch z) (fun b ob _ _ _ e _ => e) (fun b ob _ _ _ e _ => ⟨ob.slots, e⟩)
   (fun b ob _ _ n => by rw [upd_ne (fun z => by rw [z, h] at n; cases n)]; exact n) (fun b ob _ e => ⟨ob, e⟩) kt
   (fun b ob v e => by rw [upd_ne (ne e fun z => n2 ob v z.symm)]; exact e) (fun b ps e => ⟨#[], by rw [upd_ne (ne e fun z => n3 ps z.symm), e]; simp⟩) (fun m hm => hm) (fun b v e => ?_) I.bare
 by_cases hb : b = d
 · subst hb
   rw [upd_same] at e
   cases e
   exact ⟨ho, (I.hok b u h).stay (fun c w _ q => q) (fun c q => ko b c q) kt⟩
 · rw [upd_ne hb] at e
   exact (I.hok b v e).stay (fun c w _ q => q) (fun c q => ko b c q) kt
end
noncomputable def ItD (d : Addr) (o : Obj) (u : HO) (ks : List V) : It := ⟨fun i H => H d = some (.frz o u) ∧ i < ks.length, fun i H x H' => H' = H ∧ ks[i]? = some x, fun i H => H d = some (.frz o u) ∧ ks.length ≤ i⟩
theorem turn_dict {P : Program} {w : World} {K : PySem.W.Frag} {tg : Expr} {d it : Addr} {o : Obj} {u : HO} {ks : List V} {es : Array DictEntry} {ep : Nat} (hx : o.ExactDict) (hd : o.data = .dict es ep) (hl : ks.length = es.size) (hk : ∀ (i : Nat) (k : V), ks[i]? = some k → ∃ e : DictEntry, es[i]? = some e ∧ RelV k e.key) :
   Turn P w K tg (ItD d o u ks) [it] it (fun i h => h.IsKeyIter it d i es.size ep) where
 mem := by simp
 obj := fun i h st b hb => by
   have z : b = it := by simpa using hb
   subst z
   obtain ⟨oi, ei, ci, di⟩ := st
   exact ⟨oi, ei, fun v y => by rw [di] at y; cases y⟩
 keep := fun i h h' st kp => st.at fun ob e => kp it (by simp) ob e
 item := by
   intro X hP hw hK hc i pins s σ H E I hf st hg
   subst hP hw hK
   obtain ⟨hfz, hi⟩ := hg
   have hod : s.heap.get? d = some o := (show ObjOk X.prog X.w H s.heap d (.frz o u) from I.hok d _ hfz).1
   obtain ⟨k, hki⟩ : ∃ k, ks[i]? = some k := ⟨ks[i], by simp [hi]⟩
   obtain ⟨e, he, hr⟩ := hk i k hki
   obtain ⟨f0, f1, f2, f3, f4, f5⟩ := hf it (by simp)
   refine raw_item st ⟨o, hod, hx, hd⟩ he fun h' st' sb => ?_
   have I1 : Inv X pins σ H { s with heap := h' } := I.turned (t' := s.toks) (fun b ob hb e => (sb.2 b hb).trans e) f0 f1 f3 f4 f5
   obtain ⟨oi, ei, ci, di⟩ := id st'
   exact ⟨e.key, rfl, go_of (s := { s with heap := h' }) ei ci di (by decide) ⟨k, H, I1, hr, ⟨rfl, hki⟩, st', fun b hb => (hf b hb).1⟩⟩
 done := by
   intro X hP hw hK hc i pins s σ H E I hf st hg
   subst hP hw hK
   obtain ⟨hfz, hi⟩ := hg
   have hod : s.heap.get? d = some o := (show ObjOk X.prog X.w H s.heap d (.frz o u) from I.hok d _ hfz).1
   obtain ⟨f0, f1, f2, f3, f4, f5⟩ := hf it (by simp)
   exact raw_stop (I.ok.hd hc) st ⟨o, hod, hx, hd⟩ (by simp; omega) fun h' eb => ⟨rfl, I.turned (t' := s.toks) (fun b ob hb e => eb b ob hb e) f0 f1 f3 f4 f5⟩
 self := fun _ _ _ _ _ st h => wpAny_pyIter_keyiter st h
section
variable {X : Cx} {tg : Expr}
theorem keys_rawK {H : Hp} {h : Heap} {d : Addr} {kvs : List (Key × V)} (ok : ObjOk X.prog X.w H h d (.dK kvs)) : ∃ (o : Obj) (es : Array DictEntry) (ep : Nat), h.get? d = some o ∧ o.ExactDict ∧ o.data = .dict es ep ∧ (d == sysModules) = false ∧ (keysV kvs).length = es.size ∧ ∀ (i : Nat) (k : V), (keysV kvs)[i]? = some k → ∃ e : DictEntry, es[i]? = some e ∧ RelV k e.key := by
 obtain ⟨z, lo, vs, rel, o, es, ep, h1, h2, h3, h4, h5, h6⟩ := ok
 have l1 := rel.length
 have l2 : es.size = vs.length := by rw [← h5.length]; simp
 refine ⟨o, es, ep, h1, h2, h3, lo, by rw [length_keysV]; omega, fun i k e => ?_⟩
 unfold keysV at e
 rw [List.getElem?_map] at e
 cases hkv : kvs[i]? with
 | none => rw [hkv] at e; cases e
 | some kv =>
   rw [hkv] at e
   have ek : kV kv.1 = k := Option.some.inj e
   obtain ⟨v, hv, hrel⟩ := Paired.get? rel hkv
   have hi : i < es.size := by rw [l2]; exact (List.getElem?_eq_some_iff.mp hv).1
   have h7 := (h5.get? (e := es[i]) (k := v.1) (v := v.2) (by simp [hi]) hv).1
   refine ⟨es[i], by simp [hi], ?_⟩
   rw [← ek, show kv.1 = v.1 from hrel.1]
   exact is_kV h7
noncomputable def iDictK (te : TE) : TI := fun σ H R => te σ H fun x H1 => ∃ d kvs, x = .ref d ∧ ((H1 d = some (.dK kvs) ∧ ∀ o, R (ItD d o (.dK kvs) (keysV kvs)) (upd H1 d (.frz o (.dK kvs)))) ∨ ∃ o, H1 d = some (.frz o (.dK kvs)) ∧ R (ItD d o (.dK kvs) (keysV kvs)) H1)
theorem pi_dictK {l : Expr} {tl : TE} (hl : PE X l tl) : PI X tg l (iDictK tl) := by
 intro pins s σ H R I h
 refine thn (hl pins s σ H _ I h) fun v s1 ⟨x, H1, I1, r1, q1⟩ => ?_
 obtain ⟨d, kvs, e, q⟩ := q1
 subst e
 cases r1
 have ok : ObjOk X.prog X.w H1 s1.heap d (.dK kvs) := by
   rcases q with ⟨hd, _⟩ | ⟨o, hd, _⟩
   · exact I1.hok d _ hd
   · exact (show ObjOk X.prog X.w H1 s1.heap d (.frz o (.dK kvs)) from I1.hok d _ hd).2
 obtain ⟨o, es, ep, h1, h2, h3, lo, hlen, hks⟩ := keys_rawK ok
 have fin : ∀ H2 : Hp, Inv X pins σ H2 s1 → R (ItD d o (.dK kvs) (keysV kvs)) H2 → wpAny (model X.prog X.w) X.A (pyIter (.ref d)) (PIE X pins σ tg R) X.xe s1 := fun H2 I2 q2 => by
   refine raw_iter lo ⟨o, h1, h2, h3⟩ ?_
   refine ⟨s1.heap.objs.size, [s1.heap.objs.size], _, _, H2, rfl, I2.kept (t' := s1.toks) fun b ob e => Heap.get?_push_of_some _ e, turn_dict h2 h3 hlen hks, ⟨_, Heap.get?_push_size _ rfl, rfl, rfl⟩, fun b hb => ?_, q2⟩
   have z : b = s1.heap.objs.size := by simpa using hb
   subst z
   exact I2.fpOk (Nat.le_refl _) (I2.hok.fresh (Nat.le_refl _))
 rcases q with ⟨hd, q⟩ | ⟨o', hd, q⟩
 · exact fin _ (I1.freeze hd (fun _ z => nomatch z) (fun _ _ z => nomatch z) (fun _ z => nomatch z) (fun _ z => nomatch z) h1) (q o)
 · have ho := (show ObjOk X.prog X.w H1 s1.heap d (.frz o' (.dK kvs)) from I1.hok d _ hd).1
   have eo : o' = o := Option.some.inj (ho.symm.trans h1)
   subst eo
   exact fin H1 I1 q
end
theorem for_dict {d : Addr} {o : Obj} {u : HO} {ks : List V} {g : TG} {tb : TS} {D : Ends} {σ : St} {H : Hp} (Pv : Nat → St → Hp → Prop) (h0 : Pv 0 σ H) (hl : ∀ i σ H, i ≤ ks.length → Pv i σ H → H d = some (.frz o u)) (hs : ∀ (i : Nat) (k : V) σ H, ks[i]? = some k → Pv i σ H → g k σ H fun σ2 H2 => tb { D with nx := Pv (i + 1), ct := Pv (i + 1), bk := D.nx } σ2 H2) (hd : ∀ σ H, Pv ks.length σ H → D.nx σ H) :
   ∃ W : Nat → Nat → St → Hp → Prop, (∃ m, W 0 m σ H) ∧ ∀ i m σ H, W i m σ H →
     ((ItD d o u ks).stop i H ∧ D.nx σ H) ∨ ((ItD d o u ks).go i H ∧ ∃ N : St → Hp → Prop, (∀ σ' H', N σ' H' → ∃ m', m' < m ∧ W (i + 1) m' σ' H') ∧ ∀ y H', (ItD d o u ks).yld i H y H' → g y σ H' fun σ2 H2 => tb { D with nx := N, ct := N, bk := D.nx } σ2 H2) := by
 refine ⟨fun i m σ H => m = ks.length - i ∧ i ≤ ks.length ∧ Pv i σ H, ⟨_, rfl, Nat.zero_le _, h0⟩, ?_⟩
 rintro i m σ H ⟨rfl, hi, p⟩
 have q := hl i σ H hi p
 by_cases hlt : i < ks.length
 · refine .inr ⟨⟨q, hlt⟩, Pv (i + 1), fun σ' H' p' => ⟨ks.length - (i + 1), by omega, rfl, hlt, p'⟩, ?_⟩
   rintro y H' ⟨rfl, hy⟩
   exact hs i y σ _ hy p
 · have e : i = ks.length := by omega
   subst e
   exact .inl ⟨⟨q, Nat.le_refl _⟩, hd σ H p⟩
end L2
set_option Elab.async false
set_option linter.all false
set_option maxRecDepth 100000
set_option maxHeartbeats 16000000
namespace L2
open PySem PySem.Spec PyProof.Rows
section
variable {X : Cx}
end
end L2
set_option Elab.async false
set_option linter.all false
set_option maxRecDepth 100000
set_option maxHeartbeats 16000000
namespace L2
open PySem PySem.Spec PyProof.Rows
section
variable {X : Cx}
end
end L2
set_option Elab.async false
set_option linter.all false
set_option maxRecDepth 100000
set_option maxHeartbeats 16000000
namespace L2
open PySem PySem.Spec PyProof.Rows
theorem zipTT_new (a b : Addr) (xs ys : Array Value) : Meets (Builtin.«zip.__new__» ⟨[.type "zip", .ref a, .ref b], []⟩) (fun _ R s => s.heap.IsTuple a xs ∧ s.heap.IsTuple b ys ∧
   ∀ h', h' = ((((s.heap.push { cls := .type "tuple_iterator", data := .fields #[.ref a, .int 0 0] }).push { cls := .type "tuple_iterator", data := .fields #[.ref b, .int 0 0] }).push { cls := .type "tuple", data := .seq #[.ref s.heap.objs.size, .ref (s.heap.objs.size + 1)] }).push { cls := .type "tuple", data := .seq #[.none, .none] }).push { cls := .type "zip", data := .fields #[.none, .bool false, .bool false, .ref (s.heap.objs.size + 2), .ref (s.heap.objs.size + 3)] } →
     R (.ok (.ret (.ref (s.heap.objs.size + 4)))) { s with heap := h' }) :=
 .of_wp fun P w A R s h => by
   obtain ⟨hp, g, d, tk, os⟩ := s
   obtain ⟨t1, t2, h⟩ := h
   have hsub := sub_zip
   have T1 : Heap.IsTuple (Shared.heap ⟨hp, g, d, tk, os⟩) a xs := t1
   have T2 : Heap.IsTuple (Shared.heap ⟨hp.push { cls := .type "tuple_iterator", data := .fields #[.ref a, .int 0 0] }, g, d, tk, os⟩) b ys := Heap.IsTuple.push t2 _
   have n1 : (hp.push { cls := .type "tuple_iterator", data := .fields #[.ref a, .int 0 0] }).objs.size = hp.objs.size + 1 := Heap.size_push ..
   wp_walk using wpAny_pyIter_tuple T1, wpAny_pyIter_tuple T2
   simp only [Heap.size_push] at h ⊢
   exact ⟨_, rfl, h _ rfl⟩
theorem call_zipTT {P : Program} {w : World} {A : Around} {E : Value → Shared → Prop} {s : Shared} {a b : Addr} {xs ys : Array Value} {Q : Value → Shared → Prop} (t1 : s.heap.IsTuple a xs) (t2 : s.heap.IsTuple b ys)
   (q : ∀ h', IsZip h' (s.heap.objs.size + 4) (s.heap.objs.size + 2) (s.heap.objs.size + 3) .none → IsPair h' (s.heap.objs.size + 2) (.ref s.heap.objs.size) (.ref (s.heap.objs.size + 1)) → IsPair h' (s.heap.objs.size + 3) .none .none →
     h'.IsTupleIter s.heap.objs.size a 0 → h'.IsTupleIter (s.heap.objs.size + 1) b 0 → (∀ c o, s.heap.get? c = some o → h'.get? c = some o) → Q (.ref (s.heap.objs.size + 4)) { s with heap := h' }) :
   wpAny (model P w) A (call (.type "zip") [.ref a, .ref b]) Q E s := by
 refine callType_new F.called_zip (by decide) (F.typeCall_zip_2 _ _) (F.newCall_zip_2 _ _) (fun ob => F.args_object_init_3 ob _ _) F.entry_zip_new (zipTT_new a b xs ys) ⟨t1, t2, fun h' e => ?_⟩
 let u1 := s.heap.push { cls := .type "tuple_iterator", data := .fields #[.ref a, .int 0 0] }
 let u2 := u1.push { cls := .type "tuple_iterator", data := .fields #[.ref b, .int 0 0] }
 let u3 := u2.push { cls := .type "tuple", data := .seq #[.ref s.heap.objs.size, .ref (s.heap.objs.size + 1)] }
 let u4 := u3.push { cls := .type "tuple", data := .seq #[.none, .none] }
 let u5 := u4.push { cls := .type "zip", data := .fields #[.none, .bool false, .bool false, .ref (s.heap.objs.size + 2), .ref (s.heap.objs.size + 3)] }
 have n1 : u1.objs.size = s.heap.objs.size + 1 := Heap.size_push ..
 have n2 : u2.objs.size = s.heap.objs.size + 2 := by show (u1.push _).objs.size = _; rw [Heap.size_push, n1]
 have n3 : u3.objs.size = s.heap.objs.size + 3 := by show (u2.push _).objs.size = _; rw [Heap.size_push, n2]
 have n4 : u4.objs.size = s.heap.objs.size + 4 := by show (u3.push _).objs.size = _; rw [Heap.size_push, n3]
 have eh : h' = u5 := e
 have w5 : u5.get? u4.objs.size = some { cls := .type "zip", data := .fields #[.none, .bool false, .bool false, .ref (s.heap.objs.size + 2), .ref (s.heap.objs.size + 3)] } := Heap.get?_push_size _ rfl
 have w4 : u5.get? u3.objs.size = some { cls := .type "tuple", data := .seq #[.none, .none] } := Heap.get?_push_of_some _ (Heap.get?_push_size _ rfl)
 have w3 : u5.get? u2.objs.size = some { cls := .type "tuple", data := .seq #[.ref s.heap.objs.size, .ref (s.heap.objs.size + 1)] } := Heap.get?_push_of_some _ (Heap.get?_push_of_some _ (Heap.get?_push_size _ rfl))
 have w2 : u5.get? u1.objs.size = some { cls := .type "tuple_iterator", data := .fields #[.ref b, .int 0 0] } := Heap.get?_push_of_some _ (Heap.get?_push_of_some _ (Heap.get?_push_of_some _ (Heap.get?_push_size _ rfl)))
 have w1 : u5.get? s.heap.objs.size = some { cls := .type "tuple_iterator", data := .fields #[.ref a, .int 0 0] } := Heap.get?_push_of_some _ (Heap.get?_push_of_some _ (Heap.get?_push_of_some _ (Heap.get?_push_of_some _ (Heap.get?_push_size _ rfl))))
 rw [n1] at w2
 rw [n2] at w3
 rw [n3] at w4
 rw [n4] at w5
 rw [← eh] at w1 w2 w3 w4 w5
 refine ⟨⟨_, w5, rfl⟩, q h' w5 w3 w4 ⟨_, w1, rfl, rfl⟩ ⟨_, w2, rfl, rfl⟩ fun c o ec => ?_⟩
 rw [eh]
 exact Heap.get?_push_of_some _ (Heap.get?_push_of_some _ (Heap.get?_push_of_some _ (Heap.get?_push_of_some _ (Heap.get?_push_of_some _ ec))))
noncomputable def ItTT (K : PySem.W.Frag) (a b : Addr) : It :=
 ⟨fun i H => ∃ xs ys x y, SqT K H a xs ∧ SqT K H b ys ∧ xs[i]? = some x ∧ ys[i]? = some y,
  fun i H x H' => ∃ p u v, (∀ xs, SqT K H a xs → xs[i]? = some u) ∧ (∀ ys, SqT K H b ys → ys[i]? = some v) ∧ H p = none ∧ x = .ref p ∧ H' = upd H p (.tup [u, v]),
  fun i H => ∃ xs ys, SqT K H a xs ∧ SqT K H b ys ∧ xs.length = i ∧ ys.length = i⟩
section
variable {X : Cx} {elts : List Expr} {k : Nat} {tpos : Pos}
noncomputable def iZipTT (K : PySem.W.Frag) (ta : TA) : TI := fun σ H R => ta σ H fun vs H1 => ∃ a b, vs = [.ref a, .ref b] ∧ (∃ xs, SqT K H1 a xs) ∧ (∃ ys, SqT K H1 b ys) ∧ R (ItTT K a b) H1
end
end L2
set_option Elab.async false
set_option linter.all false
set_option maxRecDepth 100000
set_option maxHeartbeats 16000000
namespace L2
open PySem PySem.Spec PyProof.Rows
noncomputable abbrev IsZipB (h : Heap) (z TI TO t : Addr) (fb : Bool) : Prop := h.get? z = some { cls := .type "zip", data := .fields #[rawInt t, .bool fb, .bool false, .ref TI, .ref TO] }
theorem wpAny_alive {M : Model} {A : Around} {E : Value → Shared → Prop} {s : Shared} {a : Addr} {o : Obj} {Q : Option Obj → Shared → Prop} (h : s.heap.get? a = some o) (q : Q (some o) s) : wpAny M A (loadIfAlive a) Q E s := fun Γ p hΓ => by
 unfold loadIfAlive
 rw [Sem.wp_loadIfAlive, h]
 exact (wpAny_pure q : wpAny M A (pure (some o)) Q E s) Γ p hΓ
section
variable {P : Program} {w : World} {A : Around} {E : Value → Shared → Prop} {s : Shared} {z TI TO i1 i2 l1 l2 : Addr} {xs ys : Array Value} {I1 I2 : Nat → Heap → Prop} {S1 S2 : Heap → Prop}
theorem notFree {t : Addr} {fb : Bool} {o : Obj} {Q : Bool → Shared → Prop} (hz : IsZipB s.heap z TI TO t fb) (ht : s.heap.get? t = some o) (q : ∀ h', IsZipB h' z TI TO t true → Heap.SameBut z s.heap h' → Q false { s with heap := h' }) : wpAny (model P w) A (Builtin.SmallTypes.ownedTupleIsFree (.ref z)) Q E s := by
 unfold Builtin.SmallTypes.ownedTupleIsFree
 refine wpAny_bind (wpAny_field hz rfl (x := rawInt t) rfl ?_)
 show wpAny _ _ (loadIfAlive ((t : Int)).toNat >>= _) _ _ _
 refine wpAny_bind (wpAny_alive (o := o) (by rw [Int.toNat_natCast]; exact ht) ?_)
 show wpAny _ _ (field (Value.ref z) 1 >>= _) _ _ _
 refine wpAny_bind (wpAny_field hz rfl (x := Value.bool fb) rfl ?_)
 cases fb with
 | true => exact wpAny_pure (q s.heap hz (Heap.SameBut.refl _ _))
 | false =>
   show wpAny _ _ (setField (Value.ref z) 1 (.bool true) >>= _) _ _ _
   exact wpAny_bind (wpAny_setField_rec hz (by simp) fun u1 y1 e1 => wpAny_pure (q u1 y1 e1))
theorem zipN_item {j k : Nat} {x y : Value} {t : Addr} {fb : Bool} {o : Obj} {Q : Value → Shared → Prop} (D : ZipApart z TI TO i1 i2 l1 l2) (F1 : Stp P w i1 l1 xs I1 S1) (F2 : Stp P w i2 l2 ys I2 S2)
   (hz : IsZipB s.heap z TI TO t fb) (ht : s.heap.get? t = some o) (hi : IsPair s.heap TI (.ref i1) (.ref i2)) (a1 : I1 j s.heap) (a2 : I2 k s.heap) (g1 : S1 s.heap) (g2 : S2 s.heap) (ex : xs[j]? = some x) (ey : ys[k]? = some y)
   (q : ∀ h', IsZipB h' z TI TO t true → I1 (j + 1) h' → I2 (k + 1) h' → IsPair h' s.heap.objs.size x y → (∀ c o, c ≠ z → c ≠ i1 → c ≠ i2 → s.heap.get? c = some o → h'.get? c = some o) → Q (.ref s.heap.objs.size) { s with heap := h' }) :
   wpAny (model P w) A (Builtin.«zip.__next__» ⟨[.ref z], []⟩) (fun fin s' => ∃ v, fin = .done (.ret v) ∧ Q v s') E s := by
 show wpAny _ _ (field (Value.ref z) 2 >>= _) _ _ _
 refine wpAny_bind (wpAny_field hz rfl (x := Value.bool false) rfl ?_)
 show wpAny _ _ (field (Value.ref z) 3 >>= _) _ _ _
 refine wpAny_bind (wpAny_field hz rfl (x := Value.ref TI) rfl (wpAny_bind (wpAny_seqItems hi rfl ?_)))
 show wpAny _ _ (Builtin.SmallTypes.ownedTupleIsFree (Value.ref z) >>= _) _ _ _
 refine wpAny_bind (notFree hz ht fun u1 y1 e1 => ?_)
 simp only [Bool.false_eq_true, if_false]
 refine wpAny_bind ?_
 simp only [List.forIn_toArray, List.forIn_cons, List.forIn_nil]
 refine wpAny_bind (wpAny_bind (wpAny_holding ?_))
 show wpAny _ _ (Builtin.SmallTypes.nextOf (Value.ref i1) >>= _) _ _ _
 refine wpAny_bind (F1.item (F1.moveI a1 fun o e => e1.extBut _ _ D.i1z e) (F1.moveS g1 fun o e => e1.extBut _ _ D.l1z e) ex fun u2 b1 e2 => wpAny_pure ?_)
 refine wpAny_pure ?_
 refine wpAny_bind (wpAny_bind (wpAny_holding ?_))
 show wpAny _ _ (Builtin.SmallTypes.nextOf (Value.ref i2) >>= _) _ _ _
 refine wpAny_bind (F2.item (F2.moveI a2 fun o e => e2.extBut _ _ D.i12.symm (e1.extBut _ _ D.i2z e)) (F2.moveS g2 fun o e => e2.extBut _ _ D.l2i1 (e1.extBut _ _ D.l2z e)) ey fun u3 b2 e3 => wpAny_pure ?_)
 refine wpAny_pure (wpAny_pure ?_)
 refine wpAny_bind (wpAny_newTuple ?_ (by show 2 ≤ sizeLine; decide))
 have n3 : u3.objs.size = s.heap.objs.size := by rw [e3.1, e2.1, e1.1]
 have y3 : IsZipB u3 z TI TO t true := e3.extBut _ _ D.i2z.symm (e2.extBut _ _ D.i1z.symm y1)
 have k3 : ∀ c o, c ≠ z → c ≠ i1 → c ≠ i2 → s.heap.get? c = some o → u3.get? c = some o := fun c o d1 d3 d4 e => e3.extBut _ _ d4 (e2.extBut _ _ d3 (e1.extBut _ _ d1 e))
 refine wpAny_pure ⟨_, rfl, ?_⟩
 show Q (Value.ref u3.objs.size) _
 have t8 : IsPair (u3.push { cls := .type "tuple", data := .seq #[x, y] }) u3.objs.size x y := Heap.get?_push_size _ rfl
 rw [n3] at t8 ⊢
 refine q _ (Heap.get?_push_of_some _ y3) (F1.moveI b1 fun o e => Heap.get?_push_of_some _ (e3.extBut _ _ D.i12 e)) (F2.moveI b2 fun o e => Heap.get?_push_of_some _ e) t8 fun c o d1 d3 d4 e => Heap.get?_push_of_some _ (k3 c o d1 d3 d4 e)
theorem zipN_stop {j k : Nat} {t : Addr} {fb : Bool} {o : Obj} {Q : Fin → Shared → Prop} (hA : A.handled = none) (D : ZipApart z TI TO i1 i2 l1 l2) (F1 : Stp P w i1 l1 xs I1 S1) (F2 : Stp P w i2 l2 ys I2 S2)
   (hz : IsZipB s.heap z TI TO t fb) (ht : s.heap.get? t = some o) (hi : IsPair s.heap TI (.ref i1) (.ref i2)) (a1 : I1 j s.heap) (g1 : S1 s.heap) (en : xs[j]? = none)
   (q : ∀ h' e, (∀ c o, c ≠ z → c ≠ i1 → s.heap.get? c = some o → h'.get? c = some o) → (∃ o, h'.get? e = some o ∧ o.cls = .type "StopIteration") → E (.ref e) { s with heap := h' }) :
   wpAny (model P w) A (Builtin.«zip.__next__» ⟨[.ref z], []⟩) Q E s := by
 show wpAny _ _ (field (Value.ref z) 2 >>= _) _ _ _
 refine wpAny_bind (wpAny_field hz rfl (x := Value.bool false) rfl ?_)
 show wpAny _ _ (field (Value.ref z) 3 >>= _) _ _ _
 refine wpAny_bind (wpAny_field hz rfl (x := Value.ref TI) rfl (wpAny_bind (wpAny_seqItems hi rfl ?_)))
 show wpAny _ _ (Builtin.SmallTypes.ownedTupleIsFree (Value.ref z) >>= _) _ _ _
 refine wpAny_bind (notFree hz ht fun u1 y1 e1 => ?_)
 simp only [Bool.false_eq_true, if_false]
 refine wpAny_bind ?_
 simp only [List.forIn_toArray, List.forIn_cons, List.forIn_nil]
 refine wpAny_bind (wpAny_bind (wpAny_holding ?_))
 show wpAny _ _ (Builtin.SmallTypes.nextOf (Value.ref i1) >>= _) _ _ _
 refine wpAny_bind (F1.stop hA (F1.moveI a1 fun o e => e1.extBut _ _ D.i1z e) (F1.moveS g1 fun o e => e1.extBut _ _ D.l1z e) en fun u2 ev e2 hev => ?_)
 exact q u2 ev (fun c o d1 d3 e => e2 _ _ d3 (e1.extBut _ _ d1 e)) hev
theorem nextN_item {j k : Nat} {x y : Value} {t : Addr} {fb : Bool} {o : Obj} {Q : Option Value → Shared → Prop} (D : ZipApart z TI TO i1 i2 l1 l2) (F1 : Stp P w i1 l1 xs I1 S1) (F2 : Stp P w i2 l2 ys I2 S2)
   (hz : IsZipB s.heap z TI TO t fb) (ht : s.heap.get? t = some o) (hi : IsPair s.heap TI (.ref i1) (.ref i2)) (a1 : I1 j s.heap) (a2 : I2 k s.heap) (g1 : S1 s.heap) (g2 : S2 s.heap) (ex : xs[j]? = some x) (ey : ys[k]? = some y)
   (q : ∀ h', IsZipB h' z TI TO t true → I1 (j + 1) h' → I2 (k + 1) h' → IsPair h' s.heap.objs.size x y → (∀ c o, c ≠ z → c ≠ i1 → c ≠ i2 → s.heap.get? c = some o → h'.get? c = some o) → Q (some (.ref s.heap.objs.size)) { s with heap := h' }) :
   wpAny (model P w) A (pyNext (.ref z)) Q E s := by
 have ty : s.TypeIs (.ref z) "zip" := ⟨_, hz, rfl⟩
 unfold pyNext
 exact wpAny_bind (wpAny_attempt (wpAny_callSpecial?_slot (name := Str.ofString "__next__") ty F.slot_zip_next (wpAny_call_entry F.slot_zip_next ty F.entry_zip_next (zipN_item D F1 F2 hz ht hi a1 a2 g1 g2 ex ey fun h' c1 c3 c4 c5 c6 => wpAny_pure (q h' c1 c3 c4 c5 c6)) (F.args_zip_next_1 _))))
theorem nextN_stop {j k : Nat} {t : Addr} {fb : Bool} {o : Obj} {Q : Option Value → Shared → Prop} (hA : A.handled = none) (D : ZipApart z TI TO i1 i2 l1 l2) (F1 : Stp P w i1 l1 xs I1 S1) (F2 : Stp P w i2 l2 ys I2 S2)
   (hz : IsZipB s.heap z TI TO t fb) (ht : s.heap.get? t = some o) (hi : IsPair s.heap TI (.ref i1) (.ref i2)) (a1 : I1 j s.heap) (g1 : S1 s.heap) (en : xs[j]? = none)
   (q : ∀ h', (∀ c o, c ≠ z → c ≠ i1 → s.heap.get? c = some o → h'.get? c = some o) → Q none { s with heap := h' }) : wpAny (model P w) A (pyNext (.ref z)) Q E s := by
 have ty : s.TypeIs (.ref z) "zip" := ⟨_, hz, rfl⟩
 unfold pyNext
 refine wpAny_bind (wpAny_attempt (wpAny_callSpecial?_slot (name := Str.ofString "__next__") ty F.slot_zip_next (wpAny_call_entry F.slot_zip_next ty F.entry_zip_next (zipN_stop (k := k) hA D F1 F2 hz ht hi a1 g1 en fun h' ev hk hev => ?_) (F.args_zip_next_1 _))))
 obtain ⟨oe, hoe, hce⟩ := hev
 exact wpAny_bind (wpAny_isInstance (T := "StopIteration") (b := true) ⟨oe, hoe, hce⟩ isSubtype_stop (wpAny_pure (q _ hk)))
noncomputable abbrev IsZipC (h : Heap) (z TI TO : Addr) (f0 : Value) (fb : Bool) : Prop := h.get? z = some { cls := .type "zip", dict := none, data := .fields #[f0, .bool fb, .bool false, .ref TI, .ref TO], slots := #[] }
theorem wpAny_dead {M : Model} {A : Around} {E : Value → Shared → Prop} {s : Shared} {a : Addr} {Q : Option Obj → Shared → Prop} (h : s.heap.get? a = none) (q : Q none s) : wpAny M A (loadIfAlive a) Q E s := fun Γ p hΓ => by
 unfold loadIfAlive
 rw [Sem.wp_loadIfAlive, h]
 exact (wpAny_pure q : wpAny M A (pure none) Q E s) Γ p hΓ
theorem isFree {t : Addr} {fb : Bool} {Q : Bool → Shared → Prop} (hz : IsZipB s.heap z TI TO t fb) (ht : s.heap.get? t = none) (q : Q true s) : wpAny (model P w) A (Builtin.SmallTypes.ownedTupleIsFree (.ref z)) Q E s := by
 unfold Builtin.SmallTypes.ownedTupleIsFree
 refine wpAny_bind (wpAny_field hz rfl (x := rawInt t) rfl ?_)
 show wpAny _ _ (loadIfAlive ((t : Int)).toNat >>= _) _ _ _
 refine wpAny_bind (wpAny_dead (by rw [Int.toNat_natCast]; exact ht) ?_)
 exact wpAny_pure q
theorem zipA_item {j k : Nat} {x y a b : Value} {t : Addr} {fb : Bool} {Q : Value → Shared → Prop} (D : ZipApart z TI TO i1 i2 l1 l2) (F1 : Stp P w i1 l1 xs I1 S1) (F2 : Stp P w i2 l2 ys I2 S2)
   (hz : IsZipB s.heap z TI TO t fb) (hd : s.heap.get? t = none) (hi : IsPair s.heap TI (.ref i1) (.ref i2)) (ho : IsPair s.heap TO a b) (a1 : I1 j s.heap) (a2 : I2 k s.heap) (g1 : S1 s.heap) (g2 : S2 s.heap) (ex : xs[j]? = some x) (ey : ys[k]? = some y)
   (q : ∀ h', IsZip h' z TI TO (rawInt s.heap.objs.size) → IsPair h' TO x y → I1 (j + 1) h' → I2 (k + 1) h' → IsPair h' s.heap.objs.size x y → (∀ c o, c ≠ z → c ≠ TO → c ≠ i1 → c ≠ i2 → s.heap.get? c = some o → h'.get? c = some o) → Q (.ref s.heap.objs.size) { s with heap := h' }) :
   wpAny (model P w) A (Builtin.«zip.__next__» ⟨[.ref z], []⟩) (fun fin s' => ∃ v, fin = .done (.ret v) ∧ Q v s') E s := by
 show wpAny _ _ (field (Value.ref z) 2 >>= _) _ _ _
 refine wpAny_bind (wpAny_field hz rfl (x := Value.bool false) rfl ?_)
 show wpAny _ _ (field (Value.ref z) 3 >>= _) _ _ _
 refine wpAny_bind (wpAny_field hz rfl (x := Value.ref TI) rfl (wpAny_bind (wpAny_seqItems hi rfl ?_)))
 show wpAny _ _ (Builtin.SmallTypes.ownedTupleIsFree (Value.ref z) >>= _) _ _ _
 refine wpAny_bind (isFree hz hd ?_)
 simp only [if_true]
 refine wpAny_bind (wpAny_rule (wpAny_bind (wpAny_field hz rfl (x := Value.ref TO) rfl (wpAny_bind (wpAny_setField_rec hz (by simp) fun u1 y1 e1 => ?_)))))
 replace y1 : IsZipC u1 z TI TO .ellipsis fb := y1
 refine wpAny_bind ?_
 simp only [List.forIn_cons, List.forIn_nil, List.zipIdx_cons, List.zipIdx_nil]
 refine wpAny_bind (wpAny_bind (wpAny_onRaise ?_))
 show wpAny _ _ (Builtin.SmallTypes.nextOf (Value.ref i1) >>= _) _ _ _
 refine wpAny_bind (F1.item (F1.moveI a1 fun o e => e1.extBut _ _ D.i1z e) (F1.moveS g1 fun o e => e1.extBut _ _ D.l1z e) ex fun u2 b1 e2 => wpAny_pure ?_)
 have o2 : IsPair u2 TO a b := e2.extBut _ _ D.TOi1 (e1.extBut _ _ D.TOz ho)
 refine wpAny_bind (wpAny_seqItems o2 rfl (wpAny_bind (wpAny_updateSeq_pair o2 fun u3 o3 e3 => wpAny_bind (wpAny_letGo (wpAny_pure ?_)))))
 replace o3 : IsPair u3 TO x b := o3
 refine wpAny_bind (wpAny_bind (wpAny_onRaise ?_))
 show wpAny _ _ (Builtin.SmallTypes.nextOf (Value.ref i2) >>= _) _ _ _
 refine wpAny_bind (F2.item (F2.moveI a2 fun o e => e3.extBut _ _ D.TOi2.symm (e2.extBut _ _ D.i12.symm (e1.extBut _ _ D.i2z e))) (F2.moveS g2 fun o e => e3.extBut _ _ D.l2TO (e2.extBut _ _ D.l2i1 (e1.extBut _ _ D.l2z e))) ey fun u4 b2 e4 => wpAny_pure ?_)
 have o4 : IsPair u4 TO x b := e4.extBut _ _ D.TOi2 o3
 refine wpAny_bind (wpAny_seqItems o4 rfl (wpAny_bind (wpAny_updateSeq_pair o4 fun u5 o5 e5 => wpAny_bind (wpAny_letGo (wpAny_pure (wpAny_pure ?_))))))
 replace o5 : IsPair u5 TO x y := o5
 refine wpAny_bind (wpAny_seqItems o5 rfl (wpAny_bind (wpAny_newTuple ?_)))
 have n5 : u5.objs.size = s.heap.objs.size := by rw [e5.1, e4.1, e3.1, e2.1, e1.1]
 have y5 : IsZipC u5 z TI TO .ellipsis fb := e5.extBut _ _ D.TOz.symm (e4.extBut _ _ D.i2z.symm (e3.extBut _ _ D.TOz.symm (e2.extBut _ _ D.i1z.symm y1)))
 have k5 : ∀ c o, c ≠ z → c ≠ TO → c ≠ i1 → c ≠ i2 → s.heap.get? c = some o → u5.get? c = some o := fun c o d1 d2 d3 d4 e => e5.extBut _ _ d2 (e4.extBut _ _ d4 (e3.extBut _ _ d2 (e2.extBut _ _ d3 (e1.extBut _ _ d1 e))))
 have j5 : I1 (j + 1) u5 := F1.moveI b1 fun o e => e5.extBut _ _ D.TOi1.symm (e4.extBut _ _ D.i12 (e3.extBut _ _ D.TOi1.symm e))
 have m5 : I2 (k + 1) u5 := F2.moveI b2 fun o e => e5.extBut _ _ D.TOi2.symm e
 have zlt : z < u5.objs.size := Heap.lt_size y5
 show wpAny _ _ (Builtin.SmallTypes.ownedTupleHandOut (Value.ref z) (Value.ref u5.objs.size) >>= _) _ _ _
 unfold Builtin.SmallTypes.ownedTupleHandOut
 have y6 : IsZipC (u5.push { cls := .type "tuple", data := .seq #[x, y] }) z TI TO .ellipsis fb := Heap.get?_push_of_some _ y5
 refine wpAny_bind (wpAny_bind (wpAny_setField_rec y6 (by simp) fun u7 y7 e7 => ?_))
 replace y7 : IsZipC u7 z TI TO (rawInt u5.objs.size) fb := y7
 refine wpAny_setField_rec y7 (by simp) fun u8 y8 e8 => ?_
 replace y8 : IsZip u8 z TI TO (rawInt u5.objs.size) := y8
 have k8 : ∀ c o, c ≠ z → u5.get? c = some o → u8.get? c = some o := fun c o d1 e => e8.extBut _ _ d1 (e7.extBut _ _ d1 (Heap.get?_push_of_some _ e))
 have t8 : IsPair u8 u5.objs.size x y := e8.extBut _ _ (Nat.ne_of_gt zlt) (e7.extBut _ _ (Nat.ne_of_gt zlt) (Heap.get?_push_size _ rfl))
 rw [n5] at y8 t8
 refine wpAny_pure ⟨_, rfl, ?_⟩
 show Q (Value.ref u5.objs.size) _
 rw [n5]
 exact q u8 y8 (k8 _ _ D.TOz o5) (F1.moveI j5 fun o e => k8 _ o D.i1z e) (F2.moveI m5 fun o e => k8 _ o D.i2z e) t8 fun c o d1 d2 d3 d4 e => k8 c o d1 (k5 c o d1 d2 d3 d4 e)
theorem zipA_stop {j k : Nat} {a b : Value} {t : Addr} {fb : Bool} {Q : Fin → Shared → Prop} (hA : A.handled = none) (D : ZipApart z TI TO i1 i2 l1 l2) (F1 : Stp P w i1 l1 xs I1 S1) (F2 : Stp P w i2 l2 ys I2 S2)
   (hz : IsZipB s.heap z TI TO t fb) (hd : s.heap.get? t = none) (hi : IsPair s.heap TI (.ref i1) (.ref i2)) (ho : IsPair s.heap TO a b) (a1 : I1 j s.heap) (a2 : I2 k s.heap) (g1 : S1 s.heap) (g2 : S2 s.heap) (en : xs[j]? = none)
   (q : ∀ h' e, (∀ c o, c ≠ z → c ≠ TO → c ≠ i1 → c ≠ i2 → s.heap.get? c = some o → h'.get? c = some o) → (∃ o, h'.get? e = some o ∧ o.cls = .type "StopIteration") → E (.ref e) { s with heap := h' }) :
   wpAny (model P w) A (Builtin.«zip.__next__» ⟨[.ref z], []⟩) Q E s := by
 show wpAny _ _ (field (Value.ref z) 2 >>= _) _ _ _
 refine wpAny_bind (wpAny_field hz rfl (x := Value.bool false) rfl ?_)
 show wpAny _ _ (field (Value.ref z) 3 >>= _) _ _ _
 refine wpAny_bind (wpAny_field hz rfl (x := Value.ref TI) rfl (wpAny_bind (wpAny_seqItems hi rfl ?_)))
 show wpAny _ _ (Builtin.SmallTypes.ownedTupleIsFree (Value.ref z) >>= _) _ _ _
 refine wpAny_bind (isFree hz hd ?_)
 simp only [if_true]
 refine wpAny_bind (wpAny_rule (wpAny_bind (wpAny_field hz rfl (x := Value.ref TO) rfl (wpAny_bind (wpAny_setField_rec hz (by simp) fun u1 y1 e1 => ?_)))))
 replace y1 : IsZipC u1 z TI TO .ellipsis fb := y1
 refine wpAny_bind ?_
 simp only [List.forIn_cons, List.forIn_nil, List.zipIdx_cons, List.zipIdx_nil]
 refine wpAny_bind (wpAny_bind (wpAny_onRaise ?_))
 show wpAny _ _ (Builtin.SmallTypes.nextOf (Value.ref i1) >>= _) _ _ _
 refine wpAny_bind (F1.stop hA (F1.moveI a1 fun o e => e1.extBut _ _ D.i1z e) (F1.moveS g1 fun o e => e1.extBut _ _ D.l1z e) en fun u2 ev e2 hev => ?_)
 obtain ⟨oe, hoe, hce⟩ := hev
 have y2 : IsZipC u2 z TI TO .ellipsis fb := e2 _ _ D.i1z.symm y1
 have nez : ev ≠ z := fun c => by
   subst c
   rw [y2] at hoe
   cases hoe
   simp at hce
 exact wpAny_setField_rec y2 (by simp) fun u3 _ e3 => q u3 ev (fun c o d1 _ d3 _ e => e3.extBut _ _ d1 (e2 _ _ d3 (e1.extBut _ _ d1 e))) ⟨oe, e3.extBut _ _ nez hoe, hce⟩
theorem nextA_item {j k : Nat} {x y a b : Value} {t : Addr} {fb : Bool} {Q : Option Value → Shared → Prop} (D : ZipApart z TI TO i1 i2 l1 l2) (F1 : Stp P w i1 l1 xs I1 S1) (F2 : Stp P w i2 l2 ys I2 S2)
   (hz : IsZipB s.heap z TI TO t fb) (hd : s.heap.get? t = none) (hi : IsPair s.heap TI (.ref i1) (.ref i2)) (ho : IsPair s.heap TO a b) (a1 : I1 j s.heap) (a2 : I2 k s.heap) (g1 : S1 s.heap) (g2 : S2 s.heap) (ex : xs[j]? = some x) (ey : ys[k]? = some y)
   (q : ∀ h', IsZip h' z TI TO (rawInt s.heap.objs.size) → IsPair h' TO x y → I1 (j + 1) h' → I2 (k + 1) h' → IsPair h' s.heap.objs.size x y → (∀ c o, c ≠ z → c ≠ TO → c ≠ i1 → c ≠ i2 → s.heap.get? c = some o → h'.get? c = some o) → Q (some (.ref s.heap.objs.size)) { s with heap := h' }) :
   wpAny (model P w) A (pyNext (.ref z)) Q E s := by
 have ty : s.TypeIs (.ref z) "zip" := ⟨_, hz, rfl⟩
 unfold pyNext
 exact wpAny_bind (wpAny_attempt (wpAny_callSpecial?_slot (name := Str.ofString "__next__") ty F.slot_zip_next (wpAny_call_entry F.slot_zip_next ty F.entry_zip_next (zipA_item D F1 F2 hz hd hi ho a1 a2 g1 g2 ex ey fun h' c1 c2 c3 c4 c5 c6 => wpAny_pure (q h' c1 c2 c3 c4 c5 c6)) (F.args_zip_next_1 _))))
theorem nextA_stop {j k : Nat} {a b : Value} {t : Addr} {fb : Bool} {Q : Option Value → Shared → Prop} (hA : A.handled = none) (D : ZipApart z TI TO i1 i2 l1 l2) (F1 : Stp P w i1 l1 xs I1 S1) (F2 : Stp P w i2 l2 ys I2 S2)
   (hz : IsZipB s.heap z TI TO t fb) (hd : s.heap.get? t = none) (hi : IsPair s.heap TI (.ref i1) (.ref i2)) (ho : IsPair s.heap TO a b) (a1 : I1 j s.heap) (a2 : I2 k s.heap) (g1 : S1 s.heap) (g2 : S2 s.heap) (en : xs[j]? = none)
   (q : ∀ h', (∀ c o, c ≠ z → c ≠ TO → c ≠ i1 → c ≠ i2 → s.heap.get? c = some o → h'.get? c = some o) → Q none { s with heap := h' }) : wpAny (model P w) A (pyNext (.ref z)) Q E s := by
 have ty : s.TypeIs (.ref z) "zip" := ⟨_, hz, rfl⟩
 unfold pyNext
 refine wpAny_bind (wpAny_attempt (wpAny_callSpecial?_slot (name := Str.ofString "__next__") ty F.slot_zip_next (wpAny_call_entry F.slot_zip_next ty F.entry_zip_next (zipA_stop hA D F1 F2 hz hd hi ho a1 a2 g1 g2 en fun h' ev hk hev => ?_) (F.args_zip_next_1 _))))
 obtain ⟨oe, hoe, hce⟩ := hev
 exact wpAny_bind (wpAny_isInstance (T := "StopIteration") (b := true) ⟨oe, hoe, hce⟩ isSubtype_stop (wpAny_pure (q _ hk)))
end
theorem wpAny_pyIter_zipB {P : Program} {w : World} {A : Around} {E : Value → Shared → Prop} {s : Shared} {z TI TO t : Addr} {fb : Bool} {Q : Value → Shared → Prop} (hz : IsZipB s.heap z TI TO t fb) (h : Q (.ref z) s) : wpAny (model P w) A (pyIter (.ref z)) Q E s := by
 have hT : s.TypeIs (.ref z) "zip" := ⟨_, hz, rfl⟩
 refine wpAny_pyIter_slot hT F.slot_zip_iter (wpAny_call_entry F.slot_zip_iter hT F.entry_zip_iter ?_ (F.args_zip_iter_1 _))
 show wpAny _ _ (ret (.ref z)) _ _ s
 exact wpAny_pure ⟨_, rfl, "zip", _, hT, F.slot_zip_next.lookup, h⟩
noncomputable def ZipNm (n a b : Addr) (i : Nat) (h : Heap) : Prop := (IsZip h (n + 4) (n + 2) (n + 3) .none ∨ ∃ t fb, IsZipB h (n + 4) (n + 2) (n + 3) t fb) ∧ IsPair h (n + 2) (.ref n) (.ref (n + 1)) ∧ (∃ x y, IsPair h (n + 3) x y) ∧ h.IsTupleIter n a i ∧ h.IsTupleIter (n + 1) b i
theorem ZipNm.obj {n a b : Addr} {i : Nat} {h : Heap} (st : ZipNm n a b i h) : ∀ c ∈ zipFp n, ∃ o, h.get? c = some o ∧ ∀ v, o.data ≠ .cell v := by
 obtain ⟨h1, h2, ⟨x, y, h3⟩, ⟨o4, e4, c4, d4⟩, ⟨o5, e5, c5, d5⟩⟩ := st
 intro c hc
 simp only [zipFp, List.mem_cons, List.not_mem_nil, or_false] at hc
 rcases hc with rfl | rfl | rfl | rfl | rfl
 · rcases h1 with h1 | ⟨t, fb, h1⟩
   · exact ⟨_, h1, fun v z => nomatch z⟩
   · exact ⟨_, h1, fun v z => nomatch z⟩
 · exact ⟨_, h2, fun v z => nomatch z⟩
 · exact ⟨_, h3, fun v z => nomatch z⟩
 · exact ⟨o4, e4, fun v z => by rw [d4] at z; cases z⟩
 · exact ⟨o5, e5, fun v z => by rw [d5] at z; cases z⟩
theorem ZipNm.keep {n a b : Addr} {i : Nat} {h h' : Heap} (st : ZipNm n a b i h) (kk : ∀ c ∈ zipFp n, ∀ o, h.get? c = some o → h'.get? c = some o) : ZipNm n a b i h' := by
 obtain ⟨h1, h2, ⟨x, y, h3⟩, ⟨o4, e4, r4⟩, ⟨o5, e5, r5⟩⟩ := st
 refine ⟨?_, kk _ (by simp [zipFp]) _ h2, ⟨x, y, kk _ (by simp [zipFp]) _ h3⟩, ⟨o4, kk _ (by simp [zipFp]) _ e4, r4⟩, ⟨o5, kk _ (by simp [zipFp]) _ e5, r5⟩⟩
 rcases h1 with h1 | ⟨t, fb, h1⟩
 · exact .inl (kk _ (by simp [zipFp]) _ h1)
 · exact .inr ⟨t, fb, kk _ (by simp [zipFp]) _ h1⟩
theorem turn_zipNm {P : Program} {w : World} {K : PySem.W.Frag} {nm : Str} {pos : Pos} (n a b : Addr) (ha : a < n) (hb : b < n) :
   Turn P w K (.Name nm pos) (ItTT K a b) (zipFp n) (n + 4) (ZipNm n a b) where
 mem := by simp [zipFp]
 obj := fun i h st => st.obj
 keep := fun i h h' st kk => st.keep kk
 item := by
   intro X hP hw hK hc i pins s σ H E I hf st hg
   subst hP hw hK
   obtain ⟨xs, ys, x, y, hq1, hq2, hx, hy⟩ := hg
   obtain ⟨its1, rv1, p1, hz1⟩ := I.tuple hq1
   obtain ⟨its2, rv2, p2, hz2⟩ := I.tuple hq2
   obtain ⟨u1, hu1, ru1⟩ := rv1.get hx
   obtain ⟨u2, hu2, ru2⟩ := rv2.get hy
   have hfw : ∀ c ∈ [n + 4, n + 3, n, n + 1], FpOk X pins H c := fun c hc => hf c (wr_sub hc)
   have D := PySem.W.ktu_apart n a b ha hb
   obtain ⟨zz, zi, ⟨o1, o2, zo⟩, za, zb⟩ := id st
   have szT := Nat.le_refl s.heap.objs.size
   have fin : ∀ h', (∃ t fb, IsZipB h' (n + 4) (n + 2) (n + 3) t fb) → (∃ x y, IsPair h' (n + 3) x y) → h'.IsTupleIter n a (i + 1) → h'.IsTupleIter (n + 1) b (i + 1) → IsPair h' s.heap.objs.size u1 u2 → (∀ c o, c ≠ n + 4 → c ≠ n + 3 → c ≠ n → c ≠ n + 1 → s.heap.get? c = some o → h'.get? c = some o) →
       ∃ u, some (Value.ref s.heap.objs.size) = some u ∧ wpAny (model X.prog X.w) X.A (letOwnedTupleGo (.Name nm pos) (.ref (n + 4)) u) (fun _ s2 => ∃ x H', Inv X pins σ H' s2 ∧ RelV x u ∧ (ItTT X.K a b).yld i H x H' ∧ ZipNm n a b (i + 1) s2.heap ∧ ∀ b ∈ zipFp n, H' b = none) E { s with heap := h' } := by
     intro h' c1 c2 c3 c4 c5 c6
     have hk : ∀ c o, c ∉ [n + 4, n + 3, n, n + 1] → s.heap.get? c = some o → h'.get? c = some o := fun c o hc e => by
       obtain ⟨d1, d2, d3, d4⟩ := wr_not hc
       exact c6 c o d1 d2 d3 d4 e
     have I1 : Inv X pins σ H { s with heap := h' } := I.turnedL (t' := s.toks) hk hfw
     have hHT : H s.heap.objs.size = none := I.hok.fresh szT
     have fT : FpOk X pins H s.heap.objs.size := I.fpOk szT hHT
     have zi' : IsPair h' (n + 2) (.ref n) (.ref (n + 1)) := c6 _ _ D.TIz D.TITO D.TIi1 D.TIi2 zi
     have hT2 : h'.IsTuple s.heap.objs.size #[u1, u2] := ⟨_, c5, rfl, _, rfl⟩
     have I3 : Inv X pins σ (upd H s.heap.objs.size (.tup [x, y])) { s with heap := h' } :=
       I1.track fT ⟨by show 2 ≤ sizeLine; decide, [u1, u2], .cons ru1 (.cons ru2 .nil), hT2⟩
     refine ⟨_, rfl, wpAny_pure ⟨.ref s.heap.objs.size, _, I3, rfl, ⟨s.heap.objs.size, x, y, fun zs hz' => by rw [I.tuple_inj hz' hq1]; exact hx, fun zs hz' => by rw [I.tuple_inj hz' hq2]; exact hy, hHT, rfl, rfl⟩, ⟨.inr c1, zi', c2, c3, c4⟩, fun c hc' => ?_⟩⟩
     obtain ⟨o, ho, _⟩ := st.obj c hc'
     have hlt := Heap.lt_size ho
     rw [upd_ne (fun z => by rw [z] at hlt; exact absurd hlt (Nat.lt_irrefl _))]
     exact (hf c hc').1
   rcases zz with zz | ⟨t, fb, zz⟩
   · exact nextZ_item D (stp_tup n a its1.toArray) (stp_tup (n + 1) b its2.toArray) zz zi zo za zb p1 p2 (by simpa using hu1) (by simpa using hu2) fun h' c1 c2 c3 c4 c5 c6 => fin h' ⟨_, _, c1⟩ ⟨_, _, c2⟩ c3 c4 c5 c6
   · cases ht : s.heap.get? t with
     | none => exact nextA_item D (stp_tup n a its1.toArray) (stp_tup (n + 1) b its2.toArray) zz ht zi zo za zb p1 p2 (by simpa using hu1) (by simpa using hu2) fun h' c1 c2 c3 c4 c5 c6 => fin h' ⟨_, _, c1⟩ ⟨_, _, c2⟩ c3 c4 c5 c6
     | some o => exact nextN_item D (stp_tup n a its1.toArray) (stp_tup (n + 1) b its2.toArray) zz ht zi za zb p1 p2 (by simpa using hu1) (by simpa using hu2) fun h' c1 c3 c4 c5 c6 => fin h' ⟨_, _, c1⟩ ⟨_, _, c6 _ _ D.TOz D.TOi1 D.TOi2 zo⟩ c3 c4 c5 fun c o d1 _ d3 d4 e => c6 c o d1 d3 d4 e
 done := by
   intro X hP hw hK hc i pins s σ H E I hf st hg
   subst hP hw hK
   obtain ⟨xs, ys, hq1, hq2, hx, hy⟩ := hg
   obtain ⟨its1, rv1, p1, hz1⟩ := I.tuple hq1
   obtain ⟨its2, rv2, p2, hz2⟩ := I.tuple hq2
   have l1 := rv1.length
   have D := PySem.W.ktu_apart n a b ha hb
   obtain ⟨zz, zi, ⟨o1, o2, zo⟩, za, zb⟩ := id st
   have fin : ∀ h', (∀ c o, c ≠ n + 4 → c ≠ n + 3 → c ≠ n → c ≠ n + 1 → s.heap.get? c = some o → h'.get? c = some o) → (none : Option Value) = none ∧ Inv X pins σ H { s with heap := h' } := fun h' c6 => ⟨rfl, by
     refine I.turnedL (t' := s.toks) (ch := [n + 4, n + 3, n, n + 1]) (fun c o hc e => ?_) fun c hc => hf c (wr_sub hc)
     obtain ⟨d1, d2, d3, d4⟩ := wr_not hc
     exact c6 c o d1 d2 d3 d4 e⟩
   rcases zz with zz | ⟨t, fb, zz⟩
   · exact nextZ_stop (I.ok.hd hc) D (stp_tup n a its1.toArray) (stp_tup (n + 1) b its2.toArray) zz zi zo za zb p1 p2 (by simp; omega) fun h' c6 => fin h' c6
   · cases ht : s.heap.get? t with
     | none => exact nextA_stop (I.ok.hd hc) D (stp_tup n a its1.toArray) (stp_tup (n + 1) b its2.toArray) zz ht zi zo za zb p1 p2 (by simp; omega) fun h' c6 => fin h' c6
     | some o => exact nextN_stop (k := i) (I.ok.hd hc) D (stp_tup n a its1.toArray) (stp_tup (n + 1) b its2.toArray) zz ht zi za p1 (by simp; omega) fun h' c6 => fin h' fun c o d1 _ d3 _ e => c6 c o d1 d3 e
 self := fun _ _ _ _ _ st h => by
   rcases st.1 with z | ⟨t, fb, z⟩
   · exact wpAny_pyIter_zip z h
   · exact wpAny_pyIter_zipB z h
section
variable {X : Cx} {nm : Str} {tpos : Pos}
theorem pi_zipNm {e1 e2 : Expr} {ta : TA} {p pos : Pos} (hg : Gl X "zip") (hm : X.mg "zip" = none) (ha : PA X [e1, e2] ta) (hs : starEach [e1, e2] X.env = (false, eval e1 X.env) :: starEach [e2] X.env := by rfl) (hs2 : ∀ pos, (backTo pos (starEach [e2] X.env)).any (·.1) = false := by intro _; rfl) :
   PI X (.Name nm tpos) (.Call (.Name "zip" p) [e1, e2] [] pos) (iZipTT X.K ta) := by
 intro pins s σ H R I h
 refine Call_ (ld_blt I hg hm boot_zip (PyProof.Rows.callWith_type1 (thn (ha pos pins s σ H _ I h) fun us s1 ⟨vs, H1, I1, r1, q1⟩ => ?_) hs (hs2 _)))
 obtain ⟨a, b, e, ⟨xs, hq1⟩, ⟨ys, hq2⟩, q⟩ := q1
 subst e
 cases r1 with
 | cons ra rr =>
 cases rr with
 | cons rb rr =>
   cases rr
   cases ra
   cases rb
   obtain ⟨its1, rv1, p1, hz1⟩ := I1.tuple hq1
   obtain ⟨its2, rv2, p2, hz2⟩ := I1.tuple hq2
   have la : a < s1.heap.objs.size := by obtain ⟨o, ho, _⟩ := p1; exact Heap.lt_size ho
   have lb : b < s1.heap.objs.size := by obtain ⟨o, ho, _⟩ := p2; exact Heap.lt_size ho
   refine call_zipTT p1 p2 fun h' z1 z2 z3 z4 z5 hk => ?_
   have I2 : Inv X pins σ H1 { s1 with heap := h' } := I1.kept (t' := s1.toks) hk
   refine wpAny_pyIter_zip z1 ⟨s1.heap.objs.size + 4, zipFp s1.heap.objs.size, _, _, H1, rfl, I2, turn_zipNm s1.heap.objs.size a b la lb, ⟨.inl z1, z2, ⟨_, _, z3⟩, z4, z5⟩, fun c hc => ?_, q⟩
   have hc' : s1.heap.objs.size ≤ c := by
     simp only [zipFp, List.mem_cons, List.not_mem_nil, or_false] at hc
     rcases hc with z | z | z | z | z <;> rw [z] <;> first | exact Nat.le_refl _ | exact Nat.le_add_right _ _
   exact I1.fpOk hc' (I1.hok.fresh hc')
end
end L2
set_option Elab.async false
set_option linter.all false
set_option maxRecDepth 100000
set_option maxHeartbeats 16000000
namespace L2
open PySem PySem.Spec PyProof.Rows
theorem zipLT_new (a b : Addr) (xs ys : Array Value) : Meets (Builtin.«zip.__new__» ⟨[.type "zip", .ref a, .ref b], []⟩) (fun _ R s => s.heap.IsList a xs ∧ s.heap.IsTuple b ys ∧
   ∀ h', h' = ((((s.heap.push { cls := .type "list_iterator", data := .fields #[.ref a, .int 0 0] }).push { cls := .type "tuple_iterator", data := .fields #[.ref b, .int 0 0] }).push { cls := .type "tuple", data := .seq #[.ref s.heap.objs.size, .ref (s.heap.objs.size + 1)] }).push { cls := .type "tuple", data := .seq #[.none, .none] }).push { cls := .type "zip", data := .fields #[.none, .bool false, .bool false, .ref (s.heap.objs.size + 2), .ref (s.heap.objs.size + 3)] } →
     R (.ok (.ret (.ref (s.heap.objs.size + 4)))) { s with heap := h' }) :=
 .of_wp fun P w A R s h => by
   obtain ⟨hp, g, d, tk, os⟩ := s
   obtain ⟨t1, t2, h⟩ := h
   have hsub := sub_zip
   have T1 : Heap.IsList (Shared.heap ⟨hp, g, d, tk, os⟩) a xs := t1
   have T2 : Heap.IsTuple (Shared.heap ⟨hp.push { cls := .type "list_iterator", data := .fields #[.ref a, .int 0 0] }, g, d, tk, os⟩) b ys := Heap.IsTuple.push t2 _
   have n1 : (hp.push { cls := .type "list_iterator", data := .fields #[.ref a, .int 0 0] }).objs.size = hp.objs.size + 1 := Heap.size_push ..
   wp_walk using wpAny_pyIter_list T1, wpAny_pyIter_tuple T2
   simp only [Heap.size_push] at h ⊢
   exact ⟨_, rfl, h _ rfl⟩
theorem call_zipLT {P : Program} {w : World} {A : Around} {E : Value → Shared → Prop} {s : Shared} {a b : Addr} {xs ys : Array Value} {Q : Value → Shared → Prop} (t1 : s.heap.IsList a xs) (t2 : s.heap.IsTuple b ys)
   (q : ∀ h', IsZip h' (s.heap.objs.size + 4) (s.heap.objs.size + 2) (s.heap.objs.size + 3) .none → IsPair h' (s.heap.objs.size + 2) (.ref s.heap.objs.size) (.ref (s.heap.objs.size + 1)) → IsPair h' (s.heap.objs.size + 3) .none .none →
     h'.IsListIter s.heap.objs.size a 0 → h'.IsTupleIter (s.heap.objs.size + 1) b 0 → (∀ c o, s.heap.get? c = some o → h'.get? c = some o) → Q (.ref (s.heap.objs.size + 4)) { s with heap := h' }) :
   wpAny (model P w) A (call (.type "zip") [.ref a, .ref b]) Q E s := by
 refine callType_new F.called_zip (by decide) (F.typeCall_zip_2 _ _) (F.newCall_zip_2 _ _) (fun ob => F.args_object_init_3 ob _ _) F.entry_zip_new (zipLT_new a b xs ys) ⟨t1, t2, fun h' e => ?_⟩
 let u1 := s.heap.push { cls := .type "list_iterator", data := .fields #[.ref a, .int 0 0] }
 let u2 := u1.push { cls := .type "tuple_iterator", data := .fields #[.ref b, .int 0 0] }
 let u3 := u2.push { cls := .type "tuple", data := .seq #[.ref s.heap.objs.size, .ref (s.heap.objs.size + 1)] }
 let u4 := u3.push { cls := .type "tuple", data := .seq #[.none, .none] }
 let u5 := u4.push { cls := .type "zip", data := .fields #[.none, .bool false, .bool false, .ref (s.heap.objs.size + 2), .ref (s.heap.objs.size + 3)] }
 have n1 : u1.objs.size = s.heap.objs.size + 1 := Heap.size_push ..
 have n2 : u2.objs.size = s.heap.objs.size + 2 := by show (u1.push _).objs.size = _; rw [Heap.size_push, n1]
 have n3 : u3.objs.size = s.heap.objs.size + 3 := by show (u2.push _).objs.size = _; rw [Heap.size_push, n2]
 have n4 : u4.objs.size = s.heap.objs.size + 4 := by show (u3.push _).objs.size = _; rw [Heap.size_push, n3]
 have eh : h' = u5 := e
 have w5 : u5.get? u4.objs.size = some { cls := .type "zip", data := .fields #[.none, .bool false, .bool false, .ref (s.heap.objs.size + 2), .ref (s.heap.objs.size + 3)] } := Heap.get?_push_size _ rfl
 have w4 : u5.get? u3.objs.size = some { cls := .type "tuple", data := .seq #[.none, .none] } := Heap.get?_push_of_some _ (Heap.get?_push_size _ rfl)
 have w3 : u5.get? u2.objs.size = some { cls := .type "tuple", data := .seq #[.ref s.heap.objs.size, .ref (s.heap.objs.size + 1)] } := Heap.get?_push_of_some _ (Heap.get?_push_of_some _ (Heap.get?_push_size _ rfl))
 have w2 : u5.get? u1.objs.size = some { cls := .type "tuple_iterator", data := .fields #[.ref b, .int 0 0] } := Heap.get?_push_of_some _ (Heap.get?_push_of_some _ (Heap.get?_push_of_some _ (Heap.get?_push_size _ rfl)))
 have w1 : u5.get? s.heap.objs.size = some { cls := .type "list_iterator", data := .fields #[.ref a, .int 0 0] } := Heap.get?_push_of_some _ (Heap.get?_push_of_some _ (Heap.get?_push_of_some _ (Heap.get?_push_of_some _ (Heap.get?_push_size _ rfl))))
 rw [n1] at w2
 rw [n2] at w3
 rw [n3] at w4
 rw [n4] at w5
 rw [← eh] at w1 w2 w3 w4 w5
 refine ⟨⟨_, w5, rfl⟩, q h' w5 w3 w4 ⟨_, w1, rfl, rfl⟩ ⟨_, w2, rfl, rfl⟩ fun c o ec => ?_⟩
 rw [eh]
 exact Heap.get?_push_of_some _ (Heap.get?_push_of_some _ (Heap.get?_push_of_some _ (Heap.get?_push_of_some _ (Heap.get?_push_of_some _ ec))))
noncomputable def ItLT (K : PySem.W.Frag) (a b : Addr) : It :=
 ⟨fun i H => ∃ xs ys x y, SqL K H a xs ∧ SqT K H b ys ∧ xs[i]? = some x ∧ ys[i]? = some y,
  fun i H x H' => ∃ p u v, (∀ xs, SqL K H a xs → xs[i]? = some u) ∧ (∀ ys, SqT K H b ys → ys[i]? = some v) ∧ H p = none ∧ x = .ref p ∧ H' = upd H p (.tup [u, v]),
  fun i H => ∃ xs ys, SqL K H a xs ∧ SqT K H b ys ∧ xs.length = i ∧ ys.length = i⟩
noncomputable def ZipLT (n a b : Addr) (i : Nat) (h : Heap) : Prop := IsZip h (n + 4) (n + 2) (n + 3) .none ∧ IsPair h (n + 2) (.ref n) (.ref (n + 1)) ∧ (∃ x y, IsPair h (n + 3) x y) ∧ h.IsListIter n a i ∧ h.IsTupleIter (n + 1) b i
theorem ZipLT.obj {n a b : Addr} {i : Nat} {h : Heap} (st : ZipLT n a b i h) : ∀ c ∈ zipFp n, ∃ o, h.get? c = some o ∧ ∀ v, o.data ≠ .cell v := by
 obtain ⟨h1, h2, ⟨x, y, h3⟩, ⟨o4, e4, c4, d4⟩, ⟨o5, e5, c5, d5⟩⟩ := st
 intro c hc
 simp only [zipFp, List.mem_cons, List.not_mem_nil, or_false] at hc
 rcases hc with rfl | rfl | rfl | rfl | rfl
 · exact ⟨_, h1, fun v z => nomatch z⟩
 · exact ⟨_, h2, fun v z => nomatch z⟩
 · exact ⟨_, h3, fun v z => nomatch z⟩
 · exact ⟨o4, e4, fun v z => by rw [d4] at z; cases z⟩
 · exact ⟨o5, e5, fun v z => by rw [d5] at z; cases z⟩
theorem ZipLT.keep {n a b : Addr} {i : Nat} {h h' : Heap} (st : ZipLT n a b i h) (kk : ∀ c ∈ zipFp n, ∀ o, h.get? c = some o → h'.get? c = some o) : ZipLT n a b i h' := by
 obtain ⟨h1, h2, ⟨x, y, h3⟩, ⟨o4, e4, r4⟩, ⟨o5, e5, r5⟩⟩ := st
 exact ⟨kk _ (by simp [zipFp]) _ h1, kk _ (by simp [zipFp]) _ h2, ⟨x, y, kk _ (by simp [zipFp]) _ h3⟩, ⟨o4, kk _ (by simp [zipFp]) _ e4, r4⟩, ⟨o5, kk _ (by simp [zipFp]) _ e5, r5⟩⟩
theorem turn_zipLT {P : Program} {w : World} {K : PySem.W.Frag} {elts : List Expr} {k : Nat} {pos : Pos} (n a b : Addr) (ha : a < n) (hb : b < n) :
   Turn P w K (.Tuple elts k pos) (ItLT K a b) (zipFp n) (n + 4) (ZipLT n a b) where
 mem := by simp [zipFp]
 obj := fun i h st => st.obj
 keep := fun i h h' st kk => st.keep kk
 item := by
   intro X hP hw hK hc i pins s σ H E I hf st hg
   subst hP hw hK
   obtain ⟨xs, ys, x, y, hq1, hq2, hx, hy⟩ := hg
   obtain ⟨its1, rv1, p1, hz1⟩ := I.list hq1
   obtain ⟨its2, rv2, p2, hz2⟩ := I.tuple hq2
   obtain ⟨u1, hu1, ru1⟩ := rv1.get hx
   obtain ⟨u2, hu2, ru2⟩ := rv2.get hy
   have hfw : ∀ c ∈ [n + 4, n + 3, n, n + 1], FpOk X pins H c := fun c hc => hf c (wr_sub hc)
   have D := PySem.W.ktu_apart n a b ha hb
   obtain ⟨zz, zi, ⟨o1, o2, zo⟩, za, zb⟩ := id st
   have szT := Nat.le_refl s.heap.objs.size
   refine nextZ_item D (stp_list n a its1.toArray) (stp_tup (n + 1) b its2.toArray) zz zi zo za zb p1.isList p2 (by simpa using hu1) (by simpa using hu2) fun h' c1 c2 c3 c4 c5 c6 => ?_
   have hk : ∀ c o, c ∉ [n + 4, n + 3, n, n + 1] → s.heap.get? c = some o → h'.get? c = some o := fun c o hc e => by
     obtain ⟨d1, d2, d3, d4⟩ := wr_not hc
     exact c6 c o d1 d2 d3 d4 e
   have I1 : Inv X pins σ H { s with heap := h' } := I.turnedL (t' := s.toks) hk hfw
   have hHT : H s.heap.objs.size = none := I.hok.fresh szT
   have fT : FpOk X pins H s.heap.objs.size := I.fpOk szT hHT
   have lt4 : n + 4 < s.heap.objs.size := Heap.lt_size zz
   have zi' : IsPair h' (n + 2) (.ref n) (.ref (n + 1)) := c6 _ _ D.TIz D.TITO D.TIi1 D.TIi2 zi
   refine ⟨_, rfl, wpAny_letOwnedTupleGo_zip c1 fun h2 c7 c8 => ?_⟩
   have hk2 : ∀ c o, c ∉ [n + 4, n + 3, n, n + 1] → h'.get? c = some o → h2.get? c = some o := fun c o hc e => c8.extBut c o (wr_not hc).1 e
   have I2 : Inv X pins σ H { s with heap := h2 } := I1.turnedL (h' := h2) (t' := s.toks) hk2 hfw
   have hT2 : h2.IsTuple s.heap.objs.size #[u1, u2] := ⟨_, c8.extBut _ _ (Nat.ne_of_gt lt4) c5, rfl, _, rfl⟩
   have I3 : Inv X pins σ (upd H s.heap.objs.size (.tup [x, y])) { s with heap := h2 } :=
     I2.track fT ⟨by show 2 ≤ sizeLine; decide, [u1, u2], .cons ru1 (.cons ru2 .nil), hT2⟩
   refine ⟨.ref s.heap.objs.size, _, I3, rfl, ⟨s.heap.objs.size, x, y, fun zs hz' => by rw [I.list_inj hz' hq1]; exact hx, fun zs hz' => by rw [I.tuple_inj hz' hq2]; exact hy, hHT, rfl, rfl⟩, ⟨c7, c8.extBut _ _ D.TIz zi', ⟨_, _, c8.extBut _ _ D.TOz c2⟩, c3.at fun o e => c8.extBut _ o D.i1z e, c4.at fun o e => c8.extBut _ o D.i2z e⟩, fun c hc' => ?_⟩
   obtain ⟨o, ho, _⟩ := st.obj c hc'
   have hlt := Heap.lt_size ho
   rw [upd_ne (fun z => by rw [z] at hlt; exact absurd hlt (Nat.lt_irrefl _))]
   exact (hf c hc').1
 done := by
   intro X hP hw hK hc i pins s σ H E I hf st hg
   subst hP hw hK
   obtain ⟨xs, ys, hq1, hq2, hx, hy⟩ := hg
   obtain ⟨its1, rv1, p1, hz1⟩ := I.list hq1
   obtain ⟨its2, rv2, p2, hz2⟩ := I.tuple hq2
   have l1 := rv1.length
   have D := PySem.W.ktu_apart n a b ha hb
   obtain ⟨zz, zi, ⟨o1, o2, zo⟩, za, zb⟩ := id st
   refine nextZ_stop (I.ok.hd hc) D (stp_list n a its1.toArray) (stp_tup (n + 1) b its2.toArray) zz zi zo za zb p1.isList p2 (by simp; omega) fun h' c6 => ⟨rfl, ?_⟩
   refine I.turnedL (t' := s.toks) (ch := [n + 4, n + 3, n, n + 1]) (fun c o hc e => ?_) fun c hc => hf c (wr_sub hc)
   obtain ⟨d1, d2, d3, d4⟩ := wr_not hc
   exact c6 c o d1 d2 d3 d4 e
 self := fun _ _ _ _ _ st h => wpAny_pyIter_zip st.1 h
section
variable {X : Cx} {elts : List Expr} {k : Nat} {tpos : Pos}
noncomputable def iZipLT (K : PySem.W.Frag) (ta : TA) : TI := fun σ H R => ta σ H fun vs H1 => ∃ a b, vs = [.ref a, .ref b] ∧ (∃ xs, SqL K H1 a xs) ∧ (∃ ys, SqT K H1 b ys) ∧ R (ItLT K a b) H1
theorem pi_zipLT {e1 e2 : Expr} {ta : TA} {p pos : Pos} (hg : Gl X "zip") (hm : X.mg "zip" = none) (ha : PA X [e1, e2] ta) (hs : starEach [e1, e2] X.env = (false, eval e1 X.env) :: starEach [e2] X.env := by rfl) (hs2 : ∀ pos, (backTo pos (starEach [e2] X.env)).any (·.1) = false := by intro _; rfl) :
   PI X (.Tuple elts k tpos) (.Call (.Name "zip" p) [e1, e2] [] pos) (iZipLT X.K ta) := by
 intro pins s σ H R I h
 refine Call_ (ld_blt I hg hm boot_zip (PyProof.Rows.callWith_type1 (thn (ha pos pins s σ H _ I h) fun us s1 ⟨vs, H1, I1, r1, q1⟩ => ?_) hs (hs2 _)))
 obtain ⟨a, b, e, ⟨xs, hq1⟩, ⟨ys, hq2⟩, q⟩ := q1
 subst e
 cases r1 with
 | cons ra rr =>
 cases rr with
 | cons rb rr =>
   cases rr
   cases ra
   cases rb
   obtain ⟨its1, rv1, p1, hz1⟩ := I1.list hq1
   obtain ⟨its2, rv2, p2, hz2⟩ := I1.tuple hq2
   have la : a < s1.heap.objs.size := by obtain ⟨o, ho, _⟩ := p1.isList; exact Heap.lt_size ho
   have lb : b < s1.heap.objs.size := by obtain ⟨o, ho, _⟩ := p2; exact Heap.lt_size ho
   refine call_zipLT p1.isList p2 fun h' z1 z2 z3 z4 z5 hk => ?_
   have I2 : Inv X pins σ H1 { s1 with heap := h' } := I1.kept (t' := s1.toks) hk
   refine wpAny_pyIter_zip z1 ⟨s1.heap.objs.size + 4, zipFp s1.heap.objs.size, _, _, H1, rfl, I2, turn_zipLT s1.heap.objs.size a b la lb, ⟨z1, z2, ⟨_, _, z3⟩, z4, z5⟩, fun c hc => ?_, q⟩
   have hc' : s1.heap.objs.size ≤ c := by
     simp only [zipFp, List.mem_cons, List.not_mem_nil, or_false] at hc
     rcases hc with z | z | z | z | z <;> rw [z] <;> first | exact Nat.le_refl _ | exact Nat.le_add_right _ _
   exact I1.fpOk hc' (I1.hok.fresh hc')
end
theorem for_zipLT {K : PySem.W.Frag} {a b : Addr} {xs ys : List V} {g : TG} {tb : TS} {D : Ends} {σ : St} {H : Hp} (Pv : Nat → St → Hp → Prop) (hlen : xs.length = ys.length) (h0 : Pv 0 σ H) (hl : ∀ i σ H, i ≤ xs.length → Pv i σ H → SqL K H a xs ∧ SqT K H b ys)
   (hs : ∀ i x y p σ H, xs[i]? = some x → ys[i]? = some y → Pv i σ H → H p = none → g (.ref p) σ (upd H p (.tup [x, y])) fun σ2 H2 => tb { D with nx := Pv (i + 1), ct := Pv (i + 1), bk := D.nx } σ2 H2) (hd : ∀ σ H, Pv xs.length σ H → D.nx σ H) :
   ∃ W : Nat → Nat → St → Hp → Prop, (∃ m, W 0 m σ H) ∧ ∀ i m σ H, W i m σ H →
     ((ItLT K a b).stop i H ∧ D.nx σ H) ∨ ((ItLT K a b).go i H ∧ ∃ N : St → Hp → Prop, (∀ σ' H', N σ' H' → ∃ m', m' < m ∧ W (i + 1) m' σ' H') ∧ ∀ x H', (ItLT K a b).yld i H x H' → g x σ H' fun σ2 H2 => tb { D with nx := N, ct := N, bk := D.nx } σ2 H2) := by
 refine ⟨fun i m σ H => m = xs.length - i ∧ i ≤ xs.length ∧ Pv i σ H, ⟨xs.length, by simp, Nat.zero_le _, h0⟩, ?_⟩
 rintro i m σ H ⟨rfl, hi, p⟩
 have q := hl i σ H hi p
 by_cases hlt : i < xs.length
 · have hlt2 : i < ys.length := by omega
   refine .inr ⟨⟨xs, ys, xs[i], ys[i], q.1, q.2, by simp [hlt], by simp [hlt2]⟩, Pv (i + 1), fun σ' H' p' => ⟨xs.length - (i + 1), by omega, rfl, hlt, p'⟩, fun x H' y => ?_⟩
   obtain ⟨pp, u, v, y1, y2, hn, e1, e2⟩ := y
   subst e1 e2
   exact hs i u v pp σ _ (y1 xs q.1) (y2 ys q.2) p hn
 · have e : i = xs.length := by omega
   subst e
   exact .inl ⟨⟨xs, ys, q.1, q.2, rfl, hlen.symm⟩, hd σ H p⟩
end L2
set_option Elab.async false
set_option linter.all false
set_option maxRecDepth 100000
set_option maxHeartbeats 16000000
namespace L2
open PySem PySem.Spec PyProof.Rows
theorem all_get {α : Type} [DecidableEq α] {d d' : List α} (h : d.length = d'.length) : ((List.range d.length).all fun j => decide (d[j]? = d'[j]?)) = decide (d = d') := by
 rw [Bool.eq_iff_iff]
 simp only [List.all_eq_true, List.mem_range, decide_eq_true_eq]
 refine ⟨fun z => List.ext_getElem? fun i => ?_, fun z => by rw [z]; simp⟩
 rcases Nat.lt_or_ge i d.length with c | c
 · exact z i c
 · rw [List.getElem?_eq_none c, List.getElem?_eq_none (by omega)]
theorem all_getM {α : Type} [DecidableEq α] {d d' : List α} : (((List.range (min d.length d'.length)).all fun j => decide (d[j]? = d'[j]?)) && d.length == d'.length) = decide (d = d') := by
 by_cases h : d.length = d'.length
 · rw [← h, Nat.min_self, all_get h]
   simp
 · have : ¬ d = d' := fun z => h (by rw [z])
   simp [h, this]
theorem vals_atJ {xs : List V} {its : List Value} (r : Vals xs its) {j : Nat} {x : V} (h : xs[j]? = some x) (hj : j < its.toArray.size) : RelV x its.toArray[j] := by
 obtain ⟨w1, g1, rw1⟩ := r.get h
 have : its[j]? = some its.toArray[j] := by simp at hj; simp [hj]
 rw [g1] at this
 rw [← Option.some.inj this]
 exact rw1
theorem rel_ref {t : Addr} {w : Value} (h : RelV (.ref t) w) : w = .ref t := by cases h; rfl
end L2
set_option Elab.async false
set_option linter.all false
set_option maxRecDepth 100000
set_option maxHeartbeats 16000000
namespace L2
open PySem PySem.Spec PyProof.Rows
section
variable {X : Cx}
end
end L2
set_option Elab.async false
set_option linter.all false
set_option maxRecDepth 100000
set_option maxHeartbeats 16000000
namespace L2
open PySem PySem.Spec PyProof.Rows
section
variable {P : Program} {w : World} {K : PySem.W.Frag} {mg : Str → Option Value} {base : Heap}
end
section
variable {X : Cx} {j k : Nat} {C : Addr} {x m : Str} {ps : List Str} {sp : Sp} {o e : Expr} {es : List Expr} {ta : TE} {t : TA} {p pos apos : Pos}
end
end L2
set_option Elab.async false
set_option linter.all false
set_option maxRecDepth 100000
set_option maxHeartbeats 16000000
namespace L2
open PySem PySem.Spec PyProof.Rows PySem.W RV
end L2
set_option Elab.async false
set_option linter.all false
set_option maxRecDepth 100000
set_option maxHeartbeats 16000000
namespace L2
open PySem PySem.Spec PyProof.Rows
section
variable {A : GA} {tk : Int} {ft : V} {rd md : Addr}
end
noncomputable abbrev Wx := Str × Nat × Rw
noncomputable abbrev Dd := Str × Int × Str × Nat
noncomputable abbrev Ft := Str × Str × Nat × Int
section
variable {CP CG : Addr} {H : Hp} {g : Addr} {A : GA} {N : Nt} {ns : List Int} {S : GS}
end
end L2
set_option Elab.async false
set_option linter.all false
set_option maxRecDepth 100000
set_option maxHeartbeats 16000000
namespace L2
open PySem PySem.Spec PyProof.Rows
noncomputable def TupIs (H : Hp) (v : V) (d : List V) : Prop := ∃ t, v = .ref t ∧ H t = some (.tup d)
theorem op_eqL_tups {X : Cx} (hu : X.A.units + 1 < cLine) : OpR X (compareOp .Eq) (fun x y H Q => ∃ a b xs ys ds, x = .ref a ∧ y = .ref b ∧ SqL X.K H a xs ∧ SqL X.K H b ys ∧ Paired (TupIs H) xs ds ∧ Paired (TupIs H) ys ds ∧ (∀ d ∈ ds, d.all flatV = true) ∧ Q (.bl true) H) := by
 intro pins s σ H x y v u Q I rx ry h
 obtain ⟨a, b, xs, ys, ds, rfl, rfl, ha, hb, h1, h2, hf, q⟩ := h
 cases rx
 cases ry
 obtain ⟨its, r1, p1, _⟩ := I.list ha
 obtain ⟨its2, r2, p2, _⟩ := I.list hb
 have hl1 := r1.length
 have hl2 := r2.length
 have hx := Paired.length h1
 have hy := Paired.length h2
 refine SeqAt.eq_listAt (e := fun _ => true) p1.isList p2.isList (by simp; omega) (by omega) (fun j j1 j2 => ?_) ?_
 · have k1 : j < xs.length := by simp at j1; omega
   have k2 : j < ys.length := by simp at j2; omega
   obtain ⟨d, hd, t, e1, ht⟩ := Paired.get? h1 (List.getElem?_eq_getElem k1)
   obtain ⟨d', hd', t', e1', ht'⟩ := Paired.get? h2 (List.getElem?_eq_getElem k2)
   rw [hd] at hd'
   cases hd'
   obtain ⟨w1, g1, rw1⟩ := r1.get (List.getElem?_eq_getElem k1)
   obtain ⟨w2, g2, rw2⟩ := r2.get (List.getElem?_eq_getElem k2)
   rw [e1] at rw1
   rw [e1'] at rw2
   cases rw1
   cases rw2
   have f1 : its.toArray[j] = Value.ref t := by
     have : its[j]? = some its.toArray[j] := by simp at j1; simp [j1]
     rw [g1] at this; exact (Option.some.inj this).symm
   have f2 : its2.toArray[j] = Value.ref t' := by
     have : its2[j]? = some its2.toArray[j] := by simp at j2; simp [j2]
     rw [g2] at this; exact (Option.some.inj this).symm
   rw [f1, f2]
   by_cases ett : t = t'
   · subst ett
     exact SeqAt.EqAt.same _
   · obtain ⟨js, q1, pt1, _⟩ := I.tuple (SqT.of ht)
     obtain ⟨js2, q2, pt2, _⟩ := I.tuple (SqT.of ht')
     have hdf := hf d (List.mem_of_getElem? hd)
     have m1 := q1.length
     have m2 := q2.length
     have R := SeqAt.RcAt.tuples (A := X.A.in1) (e := fun _ => true) (show s.heap.IsTuple t js.toArray from pt1) (show s.heap.IsTuple t' js2.toArray from pt2) (by show X.A.units + 1 < cLine; exact hu) (same_items q1 q2 hdf)
     have e : ((List.range (min js.toArray.size js2.toArray.size)).all (fun _ => true) && js.toArray.size == js2.toArray.size) = true := by
       have : js.toArray.size = js2.toArray.size := by simp; omega
       simp [this]
     rw [e] at R
     exact SeqAt.EqAt.of_refs ett R
 · have e : ((List.range its.toArray.size).all (fun _ => true)) = true := by simp
   rw [e]
   exact ⟨.bl true, H, I, rfl, q⟩
end L2
set_option Elab.async false
set_option linter.all false
set_option maxRecDepth 100000
set_option maxHeartbeats 16000000
namespace L2
open PySem PySem.Spec PyProof.Rows
noncomputable def TS2 (H : Hp) (v : V) (d : Str × Str) : Prop := ∃ t, v = .ref t ∧ H t = some (.tup [.str d.1, .str d.2])
theorem TS2.mono {H H' : Hp} (s : ∀ a xs, H a = some (.tup xs) → H' a = some (.tup xs)) {v : V} {d : Str × Str} (h : TS2 H v d) : TS2 H' v d := by
 obtain ⟨t, e, h⟩ := h
 exact ⟨t, e, s _ _ h⟩
theorem TS2.inj {H : Hp} {v : V} {a b : Str × Str} (h : TS2 H v a) (g : TS2 H v b) : a = b := by
 obtain ⟨t, rfl, h1⟩ := h
 obtain ⟨t', e, h2⟩ := g
 cases e
 rw [h1] at h2
 have e := HO.tup.inj (Option.some.inj h2)
 simp only [List.cons.injEq, V.str.injEq, and_true] at e
 exact Prod.ext e.1 e.2
theorem mapStr_inj {a b : List Str} (h : a.map V.str = b.map V.str) : a = b := by
 induction a generalizing b with
 | nil => cases b with
   | nil => rfl
   | cons _ _ => simp at h
 | cons x r ih => cases b with
   | nil => simp at h
   | cons y q =>
     simp only [List.map_cons, List.cons.injEq] at h
     rw [ih h.2, V.str.inj h.1]
theorem tstr_eq {X : Cx} {pins : List (Addr × Obj)} {s : Shared} {σ : St} {H : Hp} {A : Around} {t t' : Addr} {d d' : List Str} (I : Inv X pins σ H s) (hu : A.units < cLine) (h : H t = some (.tup (d.map V.str))) (h' : H t' = some (.tup (d'.map V.str))) : SeqAt.EqAt A s (.ref t) (.ref t') (decide (d = d')) := by
 by_cases ett : t = t'
 · subst ett
   rw [h] at h'
   have e : d = d' := mapStr_inj (HO.tup.inj (Option.some.inj h'))
   rw [decide_eq_true e]
   exact SeqAt.EqAt.same _
 · obtain ⟨js, q1, pt1, _⟩ := I.tuple (SqT.of h)
   obtain ⟨js2, q2, pt2, _⟩ := I.tuple (SqT.of h')
   have m1 := q1.length
   have m2 := q2.length
   rw [List.length_map] at m1 m2
   have R := SeqAt.RcAt.tuples (A := A) (e := fun j => decide (d[j]? = d'[j]?)) (show s.heap.IsTuple t js.toArray from pt1) (show s.heap.IsTuple t' js2.toArray from pt2) hu fun j j1 j2 => by
     have k1 : j < d.length := by simp at j1; omega
     have k2 : j < d'.length := by simp at j2; omega
     have r1 := vals_atJ q1 (x := .str d[j]) (by rw [List.getElem?_map, List.getElem?_eq_getElem k1]; rfl) j1
     have r2 := vals_atJ q2 (x := .str d'[j]) (by rw [List.getElem?_map, List.getElem?_eq_getElem k2]; rfl) j2
     have := eqAt_V (A := A.in1) (s := s) r1 r2 rfl rfl
     have e : eqV (.str d[j]) (.str d'[j]) = decide (d[j]? = d'[j]?) := by
       rw [List.getElem?_eq_getElem k1, List.getElem?_eq_getElem k2]
       show (d[j] == d'[j]) = _
       rw [Bool.eq_iff_iff]
       simp
     rw [e] at this
     exact this
   have e1 : js.toArray.size = d.length := by simp; omega
   have e2 : js2.toArray.size = d'.length := by simp; omega
   rw [e1, e2, all_getM] at R
   exact SeqAt.EqAt.of_refs ett R
theorem ts2_eq {X : Cx} {pins : List (Addr × Obj)} {s : Shared} {σ : St} {H : Hp} {A : Around} {t t' : Addr} {d d' : Str × Str} (I : Inv X pins σ H s) (hu : A.units < cLine) (h : H t = some (.tup [.str d.1, .str d.2])) (h' : H t' = some (.tup [.str d'.1, .str d'.2])) : SeqAt.EqAt A s (.ref t) (.ref t') (decide (d = d')) := by
 have := tstr_eq (d := [d.1, d.2]) (d' := [d'.1, d'.2]) I hu h h'
 have e : decide ([d.1, d.2] = [d'.1, d'.2]) = decide (d = d') := by
   refine decide_eq_decide.mpr ⟨fun z => ?_, fun z => by rw [z]⟩
   simp only [List.cons.injEq, and_true] at z
   exact Prod.ext z.1 z.2
 rw [e] at this
 exact this
open Classical in
noncomputable def isP (H : Hp) (d : Str × Str) (u : Value) : Bool := decide (∃ b, u = .ref b ∧ TS2 H (.ref b) d)
open Classical in
theorem isP_t {H : Hp} {d : Str × Str} {u : Value} (h : ∃ b, u = .ref b ∧ TS2 H (.ref b) d) : isP H d u = true := by unfold isP; exact decide_eq_true h
open Classical in
theorem isP_f {H : Hp} {d : Str × Str} {u : Value} (h : ¬ ∃ b, u = .ref b ∧ TS2 H (.ref b) d) : isP H d u = false := by unfold isP; exact decide_eq_false h
theorem isP_any {H : Hp} {its : List Value} {ys : List V} {d : Str × Str} {ds : List (Str × Str)} (r : Vals ys its) (hys : Paired (TS2 H) ys ds) : its.toArray.any (isP H d) = decide (d ∈ ds) := by
 rw [List.any_toArray, Bool.eq_iff_iff, List.any_eq_true, decide_eq_true_iff]
 constructor
 · rintro ⟨w, hw, e⟩
   obtain ⟨j, hj, ej⟩ := List.getElem_of_mem hw
   have hjy : j < ys.length := by have := r.length; omega
   obtain ⟨d', g1, t, u1, w1⟩ := Paired.get? hys (List.getElem?_eq_getElem hjy)
   obtain ⟨w', g, rw1⟩ := r.get (List.getElem?_eq_getElem hjy)
   rw [u1] at rw1
   have f1 : w' = Value.ref t := by cases rw1; rfl
   have f2 : w = Value.ref t := by
     rw [List.getElem?_eq_getElem hj] at g
     rw [← f1, ← Option.some.inj g, ej]
   by_cases z : d' = d
   · rw [← z]; exact List.mem_of_getElem? g1
   · exfalso
     have := isP_f (H := H) (d := d) (u := w) (fun ⟨b, eb, hb⟩ => z (by
       rw [f2] at eb
       cases eb
       exact TS2.inj ⟨t, rfl, w1⟩ hb))
     rw [this] at e
     cases e
 · intro hd
   obtain ⟨j, hj⟩ := List.getElem?_of_mem hd
   obtain ⟨y, hy, t, u1, w1⟩ := Paired.get?' hys hj
   obtain ⟨w, g, rw1⟩ := r.get hy
   rw [u1] at rw1
   have f1 : w = Value.ref t := by cases rw1; rfl
   exact ⟨w, List.mem_of_getElem? g, by rw [f1]; exact isP_t ⟨t, rfl, t, rfl, w1⟩⟩
theorem isP_eq {X : Cx} {pins : List (Addr × Obj)} {s : Shared} {σ : St} {H : Hp} (I : Inv X pins σ H s) (hu : X.A.units + 1 < cLine) {a : Addr} {its : List Value} {ys : List V} {d : Str × Str} {ds : List (Str × Str)} (ha : H a = some (.tup [.str d.1, .str d.2])) (r : Vals ys its) (hys : Paired (TS2 H) ys ds) : ∀ w, w ∈ its.toArray → SeqAt.EqAt X.A.in1 s w (.ref a) (isP H d w) := by
 intro w hw
 obtain ⟨j, hj, e⟩ := List.getElem_of_mem (show w ∈ its by simpa using hw)
 have hj2 : j < its.toArray.size := by simpa using hj
 have hjy : j < ys.length := by have := r.length; omega
 obtain ⟨d', g1, t, u1, w1⟩ := Paired.get? hys (List.getElem?_eq_getElem hjy)
 have r1 := vals_atJ r (List.getElem?_eq_getElem hjy) hj2
 rw [u1] at r1
 have f1 : w = Value.ref t := by
   have : its.toArray[j] = Value.ref t := rel_ref r1
   rw [← this, ← e]
   simp
 have ee : isP H d w = decide (d' = d) := by
   rw [f1]
   by_cases z : d' = d
   · rw [decide_eq_true z]
     exact isP_t ⟨t, rfl, t, rfl, z ▸ w1⟩
   · rw [decide_eq_false z]
     refine isP_f fun ⟨b, eb, hb⟩ => z ?_
     cases eb
     exact TS2.inj ⟨t, rfl, w1⟩ hb
 rw [ee, f1]
 exact ts2_eq (A := X.A.in1) I (by show X.A.units + 1 < cLine; exact hu) w1 ha
noncomputable def rInP (K : PySem.W.Frag) (neg : Bool) : V → V → Hp → VK → Prop := fun x y H Q => ∃ a l ys d ds, x = .ref a ∧ y = .ref l ∧ H a = some (.tup [.str d.1, .str d.2]) ∧ (SqL K H l ys ∨ SqT K H l ys) ∧ Paired (TS2 H) ys ds ∧ Q (.bl (if neg = true then !decide (d ∈ ds) else decide (d ∈ ds))) H
theorem op_inP {X : Cx} {K : PySem.W.Frag} (hK : X.K = K) (hu : X.A.units + 1 < cLine) : OpR X (compareOp .In) (rInP K false) := by
 subst hK
 intro pins s σ H x y v u Q I rx ry h
 obtain ⟨a, l, ys, d, ds, rfl, rfl, ha, hl, hys, q⟩ := h
 cases rx
 cases ry
 rcases hl with hl | hl
 · obtain ⟨its, r, pl, _⟩ := I.list hl
   refine SeqAt.in_listAt (isP H d) pl.isList (isP_eq I hu ha r hys) ⟨.bl _, H, I, ?_, q⟩
   rw [isP_any r hys]
   rfl
 · obtain ⟨its, r, pl, _⟩ := I.tuple hl
   refine SeqAt.in_tupleAt (isP H d) (show s.heap.IsTuple l its.toArray from pl) (isP_eq I hu ha r hys) ⟨.bl _, H, I, ?_, q⟩
   rw [isP_any r hys]
   rfl
theorem op_notInP {X : Cx} {K : PySem.W.Frag} (hK : X.K = K) (hu : X.A.units + 1 < cLine) : OpR X (compareOp .NotIn) (rInP K true) := by
 subst hK
 intro pins s σ H x y v u Q I rx ry h
 obtain ⟨a, l, ys, d, ds, rfl, rfl, ha, hl, hys, q⟩ := h
 cases rx
 cases ry
 rcases hl with hl | hl
 · obtain ⟨its, r, pl, _⟩ := I.list hl
   refine SeqAt.notIn_listAt (isP H d) pl.isList (isP_eq I hu ha r hys) ⟨.bl _, H, I, ?_, q⟩
   rw [isP_any r hys]
   rfl
 · obtain ⟨its, r, pl, _⟩ := I.tuple hl
   refine SeqAt.notIn_tupleAt (isP H d) (show s.heap.IsTuple l its.toArray from pl) (isP_eq I hu ha r hys) ⟨.bl _, H, I, ?_, q⟩
   rw [isP_any r hys]
   rfl
end L2
set_option Elab.async false
set_option linter.all false
set_option maxRecDepth 100000
set_option maxHeartbeats 16000000
namespace L2
open PySem PySem.Spec PyProof.Rows
end L2
set_option Elab.async false
set_option linter.all false
set_option maxRecDepth 100000
set_option maxHeartbeats 16000000
namespace L2
open PySem PySem.Spec PyProof.Rows
noncomputable def EqD (K : PySem.W.Frag) (H : Hp) : Nat → V → V → Prop
 | 0, x, y => x = y ∧ flatV x = true
 | n + 1, x, y => (x = y ∧ flatV x = true) ∨ ∃ a b xs ys, x = .ref a ∧ y = .ref b ∧ SqT K H a xs ∧ SqT K H b ys ∧ Paired (EqD K H n) xs ys
theorem val_at {xs : List V} {its : List Value} (r : Vals xs its) {j : Nat} {x : V} (h : xs[j]? = some x) (hj : j < its.toArray.size) : RelV x its.toArray[j] := by
 obtain ⟨w1, g1, rw1⟩ := r.get h
 have : its[j]? = some its.toArray[j] := by simp at hj; simp [hj]
 rw [g1] at this
 rw [← Option.some.inj this]
 exact rw1
theorem eqD_items {X : Cx} {pins : List (Addr × Obj)} {s : Shared} {σ : St} {H : Hp} {A : Around} {n : Nat} {xs ys : List V} {js js2 : List Value} (hP : Paired (EqD X.K H n) xs ys) (q1 : Vals xs js) (q2 : Vals ys js2)
   (ih : ∀ x y v u, EqD X.K H n x y → RelV x v → RelV y u → SeqAt.EqAt A s v u true) : ∀ j (j1 : j < js.toArray.size) (j2 : j < js2.toArray.size), SeqAt.EqAt A s js.toArray[j] js2.toArray[j] true := by
 intro j j1 j2
 have m1 := q1.length
 have m2 := q2.length
 have k1 : j < xs.length := by simp at j1; omega
 obtain ⟨y, hy, hd⟩ := Paired.get? hP (List.getElem?_eq_getElem k1)
 exact ih _ _ _ _ hd (val_at q1 (List.getElem?_eq_getElem k1) j1) (val_at q2 hy j2)
theorem eqD_at {X : Cx} {pins : List (Addr × Obj)} {s : Shared} {σ : St} {H : Hp} (I : Inv X pins σ H s) : ∀ (n : Nat) (A : Around), A.units + n < cLine → ∀ x y v u, EqD X.K H n x y → RelV x v → RelV y u → SeqAt.EqAt A s v u true
 | 0, A, hu, x, y, v, u, h, rx, ry => by
   obtain ⟨rfl, f⟩ := h
   have := eqAt_V (A := A) (s := s) rx ry f f
   rw [eqV_refl f] at this
   exact this
 | n + 1, A, hu, x, y, v, u, h, rx, ry => by
   rcases h with ⟨rfl, f⟩ | ⟨a, b, xs, ys, rfl, rfl, ha, hb, hP⟩
   · have := eqAt_V (A := A) (s := s) rx ry f f
     rw [eqV_refl f] at this
     exact this
   · cases rx
     cases ry
     by_cases e : a = b
     · subst e
       exact SeqAt.EqAt.same _
     · obtain ⟨js, q1, pt1, _⟩ := I.tuple ha
       obtain ⟨js2, q2, pt2, _⟩ := I.tuple hb
       have m1 := q1.length
       have m2 := q2.length
       have hl := Paired.length hP
       have R := SeqAt.RcAt.tuples (A := A) (e := fun _ => true) (show s.heap.IsTuple a js.toArray from pt1) (show s.heap.IsTuple b js2.toArray from pt2) (by omega) (eqD_items (X := X) (pins := pins) (σ := σ) hP q1 q2 (eqD_at I n A.in1 (by show A.units + 1 + n < cLine; omega)))
       have e2 : ((List.range (min js.toArray.size js2.toArray.size)).all (fun _ => true) && js.toArray.size == js2.toArray.size) = true := by
         have : js.toArray.size = js2.toArray.size := by simp; omega
         simp [this]
       rw [e2] at R
       exact SeqAt.EqAt.of_refs e R
theorem op_neD {X : Cx} (n : Nat) (hu : X.A.units + 1 + n < cLine) : OpR X (compareOp .NotEq) (fun x y H Q => ∃ a b xs ys, x = .ref a ∧ y = .ref b ∧ SqT X.K H a xs ∧ SqT X.K H b ys ∧ Paired (EqD X.K H n) xs ys ∧ Q (.bl false) H) := by
 intro pins s σ H x y v u Q I rx ry h
 obtain ⟨a, b, xs, ys, rfl, rfl, ha, hb, hP, q⟩ := h
 cases rx
 cases ry
 obtain ⟨its, r1, p1, _⟩ := I.tuple ha
 obtain ⟨its2, r2, p2, _⟩ := I.tuple hb
 have hl1 := r1.length
 have hl2 := r2.length
 have hl := Paired.length hP
 refine SeqAt.RcNeAt.tuples (e := fun _ => true) (show s.heap.IsTuple a its.toArray from p1) (show s.heap.IsTuple b its2.toArray from p2) (by omega) (eqD_items (X := X) (pins := pins) (σ := σ) hP r1 r2 (eqD_at I n X.A.in1 hu)) X.prog X.w _ _ ?_
 have e : (!((List.range (min its.toArray.size its2.toArray.size)).all (fun _ => true) && its.toArray.size == its2.toArray.size)) = false := by
   have : its.toArray.size = its2.toArray.size := by simp; omega
   simp [this]
 rw [e]
 exact ⟨.bl false, H, I, rfl, q⟩
theorem getItem_tuple_all {prog : Program} {w : World} {A : Around} {E : Value → Shared → Prop} {s : Shared} {t sl : Addr} {items : Array Value} {vl vu : Value} {lo hi : Option Int} {Q : Value → Shared → Prop} (ht : IsTup s.heap t items) (hs : s.heap.IsSliceOf sl vl vu .none) (pl : IsPart vl lo) (pu : IsPart vu hi)
   (h0 : HT.sIx items.size 0 lo = 0) (h1 : HT.sIx items.size items.size hi = items.size) (h : Q (.ref t) s) : wpAny (model prog w) A (getItem (.ref t) (.ref sl)) Q E s := by
 obtain ⟨os, hos, hcs, hds⟩ := id hs
 have hTs : s.TypeIs (.ref sl) "slice" := ⟨os, hos, hcs⟩
 unfold getItem
 try with_reducible refine wpAny_holding ?_
 first | refine wpAny_bind (wpAny_pure ?_) | skip
 refine wpAny_bind (wpAny_sequenceKey ht.typeIs (by decide) ?_)
 refine wpAny_bind (wpAny_callSpecial?_slot (name := Str.ofString "__getitem__") ht.typeIs PyProof.Rows.slot_tuple_getitem
   (wpAny_call_entry PyProof.Rows.slot_tuple_getitem ht.typeIs entry_tuple_getitem ?_ (args_tuple_getitem _ _)))
 show wpAny _ _ (Builtin.Tuple.tupleItemsOf (.ref t) >>= _) _ _ s
 refine wpAny_bind (tupleItemsOf_ ht ?_)
 refine wpAny_bind (wpAny_typeOf hTs ?_)
 rw [if_pos (by decide)]
 refine wpAny_bind (HT.sliceApplied_gen hs pl pu ?_)
 show wpAny _ _ (if (((HT.sIx items.size 0 lo : Nat) : Int) == 0 && (1 : Int) == 1 && (HT.sIx items.size items.size hi - HT.sIx items.size 0 lo) == items.size) = true then _ else _) _ _ s
 rw [h0, h1, if_pos (by simp)]
 unfold Builtin.Tuple.tupleIsExact
 refine wpAny_bind (wpAny_bind (wpAny_typeOf ht.typeIs (wpAny_pure ?_)))
 rw [if_pos (by decide)]
 refine wpAny_bind (wpAny_rule ?_)
 first
   | exact wpAny_pure ⟨_, rfl, wpAny_pure h⟩
   | exact wpAny_bind (wpAny_pure ⟨_, rfl, wpAny_pure h⟩)
   | exact wpAny_bind (wpAny_pure (wpAny_pure ⟨_, rfl, wpAny_pure h⟩))
noncomputable def rSlA (K : PySem.W.Frag) : V → Option Int → Option Int → Hp → VK → Prop := fun x lo hi H Q => ∃ a xs, x = .ref a ∧ SqT K H a xs ∧
 ((HT.sIx xs.length 0 lo = 0 ∧ HT.sIx xs.length xs.length hi = xs.length ∧ Q (.ref a) H) ∨ (¬ (HT.sIx xs.length 0 lo = 0 ∧ HT.sIx xs.length xs.length hi = xs.length) ∧ ∀ p, H p = none → Q (.ref p) (upd H p (.tup (cutV xs lo hi)))))
theorem sl_tupA {X : Cx} : SlR X (rSlA X.K) := by
 intro pins s σ H x v vl vu lo hi sl Q I rx hs pl pu h
 obtain ⟨a, xs, rfl, hx, h⟩ := h
 rcases h with ⟨h0, h1, q⟩ | ⟨hw, q⟩
 · cases rx
   obtain ⟨its, r, ht, hz⟩ := I.tuple hx
   have hlen : its.toArray.size = xs.length := by rw [List.size_toArray]; exact r.length.symm
   refine ⟨"tuple", _, PyProof.Rows.slot_tuple_getitem.lookup, ht.typeIs, ?_⟩
   exact getItem_tuple_all ht hs pl pu (by rw [hlen]; exact h0) (by rw [hlen]; exact h1) ⟨.ref a, H, I, rfl, q⟩
 · exact sl_tup pins s σ H _ v vl vu lo hi sl Q I rx hs pl pu ⟨a, xs, rfl, hx, hw, q⟩
end L2
set_option Elab.async false
set_option linter.all false
set_option maxRecDepth 100000
set_option maxHeartbeats 16000000
namespace L2
open PySem PySem.Spec PyProof.Rows
theorem op_neP {X : Cx} (hu : X.A.units + 1 < cLine) : OpR X (compareOp .NotEq) (fun x y H Q => ∃ (a b : Addr) (d d' : Str × Str), x = .ref a ∧ y = .ref b ∧ H a = some (.tup [.str d.1, .str d.2]) ∧ H b = some (.tup [.str d'.1, .str d'.2]) ∧ Q (.bl (!decide (d = d'))) H) := by
 intro pins s σ H x y v u Q I rx ry h
 obtain ⟨a, b, d, d', rfl, rfl, ha, hb, q⟩ := h
 cases rx
 cases ry
 have ha' : H a = some (.tup ([d.1, d.2].map V.str)) := ha
 have hb' : H b = some (.tup ([d'.1, d'.2].map V.str)) := hb
 obtain ⟨its, r1, p1, _⟩ := I.tuple (SqT.of ha')
 obtain ⟨its2, r2, p2, _⟩ := I.tuple (SqT.of hb')
 have hl1 := r1.length
 have hl2 := r2.length
 rw [List.length_map] at hl1 hl2
 refine SeqAt.RcNeAt.tuples (e := fun j => decide ([d.1, d.2][j]? = [d'.1, d'.2][j]?)) (show s.heap.IsTuple a its.toArray from p1) (show s.heap.IsTuple b its2.toArray from p2) (by omega) (fun j j1 j2 => ?_) X.prog X.w _ _ ?_
 · have k1 : j < [d.1, d.2].length := by simp at j1; omega
   have k2 : j < [d'.1, d'.2].length := by simp at j2; omega
   have q1 := vals_atJ r1 (x := .str [d.1, d.2][j]) (by rw [List.getElem?_map, List.getElem?_eq_getElem k1]; rfl) j1
   have q2 := vals_atJ r2 (x := .str [d'.1, d'.2][j]) (by rw [List.getElem?_map, List.getElem?_eq_getElem k2]; rfl) j2
   have := eqAt_V (A := X.A.in1) (s := s) q1 q2 rfl rfl
   have e : eqV (.str [d.1, d.2][j]) (.str [d'.1, d'.2][j]) = decide ([d.1, d.2][j]? = [d'.1, d'.2][j]?) := by
     rw [List.getElem?_eq_getElem k1, List.getElem?_eq_getElem k2]
     show ([d.1, d.2][j] == [d'.1, d'.2][j]) = _
     rw [Bool.eq_iff_iff]
     simp
   rw [e] at this
   exact this
 · have e1 : its.toArray.size = [d.1, d.2].length := by simp at hl1 ⊢; omega
   have e2 : its2.toArray.size = [d'.1, d'.2].length := by simp at hl2 ⊢; omega
   rw [e1, e2, all_getM]
   have e : decide ([d.1, d.2] = [d'.1, d'.2]) = decide (d = d') := by
     refine decide_eq_decide.mpr ⟨fun z => ?_, fun z => by rw [z]⟩
     simp only [List.cons.injEq, and_true] at z
     exact Prod.ext z.1 z.2
   rw [e]
   exact ⟨.bl _, H, I, rfl, q⟩
end L2
set_option Elab.async false
set_option linter.all false
set_option maxRecDepth 100000
set_option maxHeartbeats 16000000
namespace K88
open PySem L2 PyProof.Rows
noncomputable def top (i : Nat) : Stmt := PySem.Challenge.pw_bundlehouse_k88_whole_rings_cut.main.body.getD i (.Pass ⟨0, 0, 0, 0⟩)
noncomputable abbrev s_numbers_in : Stmt := top 4
theorem sc_numbers_in : FnScope ["whole"] ["whole"] (defScope s_numbers_in) := ⟨rfl, rfl, rfl, by decide +kernel, rfl, by decide +kernel, by decide +kernel⟩
noncomputable abbrev s_brings : Stmt := top 6
theorem sc_brings : FnScope ["parts", "part"] ["parts", "part"] (defScope s_brings) := ⟨rfl, rfl, rfl, by decide +kernel, rfl, by decide +kernel, by decide +kernel⟩
noncomputable abbrev s_bringings : Stmt := top 7
theorem sc_bringings : FnScope ["parts", "onward", "part", "rows"] ["parts"] (defScope s_bringings) := ⟨rfl, rfl, rfl, by decide +kernel, rfl, by decide +kernel, by decide +kernel⟩
noncomputable abbrev s_named_parts : Stmt := top 8
theorem sc_named_parts : FnScope ["parts", "part", "kind", "found", "row"] ["parts", "part", "kind"] (defScope s_named_parts) := ⟨rfl, rfl, rfl, by decide +kernel, rfl, by decide +kernel, by decide +kernel⟩
noncomputable abbrev s_knots_in : Stmt := top 10
theorem sc_knots_in : FnScope ["onward", "backward", "found", "part", "knot"] ["onward"] (defScope s_knots_in) := ⟨rfl, rfl, rfl, by decide +kernel, rfl, by decide +kernel, by decide +kernel⟩
noncomputable abbrev s_knot_around : Stmt := top 11
theorem sc_knot_around : FnScope ["onward", "backward", "part", "ahead", "behind"] ["onward", "backward", "part"] (defScope s_knot_around) := ⟨rfl, rfl, rfl, by decide +kernel, rfl, by decide +kernel, by decide +kernel⟩
noncomputable abbrev s_turned : Stmt := top 12
theorem sc_turned : FnScope ["onward", "backward", "part", "other"] ["onward"] (defScope s_turned) := ⟨rfl, rfl, rfl, by decide +kernel, rfl, by decide +kernel, by decide +kernel⟩
noncomputable abbrev s_spread : Stmt := top 13
theorem sc_spread : FnScope ["onward", "some", "found", "waiting", "part"] ["onward", "some"] (defScope s_spread) := ⟨rfl, rfl, rfl, by decide +kernel, rfl, by decide +kernel, by decide +kernel⟩
noncomputable abbrev s_tangles : Stmt := top 16
theorem sc_tangles : FnScope ["parts"] ["parts"] (defScope s_tangles) := ⟨rfl, rfl, rfl, by decide +kernel, rfl, by decide +kernel, by decide +kernel⟩
noncomputable abbrev s_steps_within : Stmt := top 17
theorem sc_steps_within : FnScope ["parts", "tangle", "onward"] ["parts", "tangle"] (defScope s_steps_within) := ⟨rfl, rfl, rfl, by decide +kernel, rfl, by decide +kernel, by decide +kernel⟩
noncomputable abbrev s_place_of : Stmt := top 18
theorem sc_place_of : FnScope ["tangle", "some"] ["tangle", "some"] (defScope s_place_of) := ⟨rfl, rfl, rfl, by decide +kernel, rfl, by decide +kernel, by decide +kernel⟩
noncomputable abbrev s_best_lasts : Stmt := top 19
theorem sc_best_lasts : FnScope ["steps", "best", "place"] ["steps"] (defScope s_best_lasts) := ⟨rfl, rfl, rfl, by decide +kernel, rfl, by decide +kernel, by decide +kernel⟩
noncomputable abbrev s_count_with_last : Stmt := top 20
theorem sc_count_with_last : FnScope ["steps", "best", "place", "last"] ["steps", "best", "place", "last"] (defScope s_count_with_last) := ⟨rfl, rfl, rfl, by decide +kernel, rfl, by decide +kernel, by decide +kernel⟩
noncomputable abbrev s_fewest : Stmt := top 21
theorem sc_fewest : FnScope ["parts", "cut", "tangle", "pair", "found", "part", "rows"] ["parts"] (defScope s_fewest) := ⟨rfl, rfl, rfl, by decide +kernel, rfl, by decide +kernel, by decide +kernel⟩
noncomputable abbrev s_fewest_within : Stmt := top 22
theorem sc_fewest_within : FnScope ["parts", "tangle", "steps", "best", "left", "cut", "last"] ["parts", "tangle"] (defScope s_fewest_within) := ⟨rfl, rfl, rfl, by decide +kernel, rfl, by decide +kernel, by decide +kernel⟩
noncomputable abbrev s_broken : Stmt := top 24
theorem sc_broken : FnScope ["parts", "folders", "rules", "onward", "found", "number", "rule", "way"] ["parts", "folders", "rules"] (defScope s_broken) := ⟨rfl, rfl, rfl, by decide +kernel, rfl, by decide +kernel, by decide +kernel⟩
noncomputable abbrev s_laid_in : Stmt := top 25
theorem sc_laid_in : FnScope ["folders", "name"] ["folders", "name"] (defScope s_laid_in) := ⟨rfl, rfl, rfl, by decide +kernel, rfl, by decide +kernel, by decide +kernel⟩
noncomputable abbrev s_shortest_way : Stmt := top 26
theorem sc_shortest_way : FnScope ["onward", "starts", "ends", "seen", "ways", "longer", "way", "part"] ["onward", "starts", "ends"] (defScope s_shortest_way) := ⟨rfl, rfl, rfl, by decide +kernel, rfl, by decide +kernel, by decide +kernel⟩
noncomputable abbrev s_law_cell_at : Stmt := top 28
theorem sc_law_cell_at : FnScope ["_law_script", "_law_k"] ["_law_script", "_law_k"] (defScope s_law_cell_at) := ⟨rfl, rfl, rfl, by decide +kernel, rfl, by decide +kernel, by decide +kernel⟩
noncomputable abbrev s_law_mixed : Stmt := top 29
theorem sc_law_mixed : FnScope ["_law_cell", "_law_k", "_law_prime"] ["_law_cell", "_law_k", "_law_prime"] (defScope s_law_mixed) := ⟨rfl, rfl, rfl, by decide +kernel, rfl, by decide +kernel, by decide +kernel⟩
noncomputable abbrev s_law_names : Stmt := top 30
theorem sc_law_names : FnScope ["_law_cell", "_law_many", "_law_letters", "_law_signs", "_law_base", "_law_names_here", "_law_long", "_law_at", "_law_step", "_law_k", "_law_sign"] ["_law_cell", "_law_many"] (defScope s_law_names) := ⟨rfl, rfl, rfl, by decide +kernel, rfl, by decide +kernel, by decide +kernel⟩
noncomputable abbrev s_law_other : Stmt := top 31
theorem sc_law_other : FnScope ["_law_here", "_law_many", "_law_mix", "_law_mode"] ["_law_here", "_law_many", "_law_mix", "_law_mode"] (defScope s_law_other) := ⟨rfl, rfl, rfl, by decide +kernel, rfl, by decide +kernel, by decide +kernel⟩
noncomputable abbrev s_law_pairs_of : Stmt := top 33
theorem sc_law_pairs_of : FnScope ["_law_parts", "_law_found", "_law_name", "_law_rows", "_law_others"] ["_law_parts"] (defScope s_law_pairs_of) := ⟨rfl, rfl, rfl, by decide +kernel, rfl, by decide +kernel, by decide +kernel⟩
noncomputable abbrev s_law_is_cut : Stmt := top 34
theorem sc_law_is_cut : FnScope ["_law_found", "_law_pairs", "_law_pair"] ["_law_found", "_law_pairs"] (defScope s_law_is_cut) := ⟨rfl, rfl, rfl, by decide +kernel, rfl, by decide +kernel, by decide +kernel⟩
noncomputable abbrev s_law_plain : Stmt := top 35
theorem sc_law_plain : FnScope ["_law_script", "_law_names_here", "_law_mode", "_law_many", "_law_rows", "_law_k", "_law_mix", "_law_here", "_law_at"] ["_law_script", "_law_names_here", "_law_mode"] (defScope s_law_plain) := ⟨rfl, rfl, rfl, by decide +kernel, rfl, by decide +kernel, by decide +kernel⟩
noncomputable abbrev s_law_without : Stmt := top 36
theorem sc_law_without : FnScope ["_law_parts", "_law_gone", "_law_found", "_law_name", "_law_rows", "_law_kept"] ["_law_parts", "_law_gone"] (defScope s_law_without) := ⟨rfl, rfl, rfl, by decide +kernel, rfl, by decide +kernel, by decide +kernel⟩
noncomputable abbrev s_law_round : Stmt := top 37
theorem sc_law_round : FnScope ["_law_pairs", "_law_name", "_law_seen", "_law_at", "_law_one", "_law_other_here"] ["_law_pairs", "_law_name"] (defScope s_law_round) := ⟨rfl, rfl, rfl, by decide +kernel, rfl, by decide +kernel, by decide +kernel⟩
noncomputable abbrev s_law_rounds : Stmt := top 38
theorem sc_law_rounds : FnScope ["_law_found", "_law_names_here", "_law_pairs", "_law_due", "_law_number", "_law_row", "_law_way"] ["_law_found", "_law_names_here", "_law_pairs"] (defScope s_law_rounds) := ⟨rfl, rfl, rfl, by decide +kernel, rfl, by decide +kernel, by decide +kernel⟩
noncomputable abbrev s_law : Stmt := top 39
theorem sc_law : FnScope ["_law_script", "_law_many", "_law_names_here", "_law_parts", "_law_folders", "_law_rules", "_law_pairs", "_law_cut", "_law_left", "_law_at", "_law_pair", "_law_more"] ["_law_script"] (defScope s_law) := ⟨rfl, rfl, rfl, by decide +kernel, rfl, by decide +kernel, by decide +kernel⟩
structure Txt (K : PySem.W.Frag) (mg : Str → Option Value) : Prop where
 n_len : mg "len" = none
 n_range : mg "range" = none
 n_str : mg "str" = none
 n_tuple : mg "tuple" = none
 n_dict : mg "dict" = none
 n_list : mg "list" = none
 n_isinstance : mg "isinstance" = none
 n_min : mg "min" = none
 n_max : mg "max" = none
 n_zip : mg "zip" = none
 n_sum : mg "sum" = none
 n_enumerate : mg "enumerate" = none
 g_MOST_PARTS : ∃ u, mg "MOST_PARTS" = some u ∧ RelV (.int 8) u
 d_brings : HasDef K mg "brings" s_brings
 d_bringings : HasDef K mg "bringings" s_bringings
 d_named_parts : HasDef K mg "named_parts" s_named_parts
 d_knots_in : HasDef K mg "knots_in" s_knots_in
 d_knot_around : HasDef K mg "knot_around" s_knot_around
 d_turned : HasDef K mg "turned" s_turned
 d_spread : HasDef K mg "spread" s_spread
 d_tangles : HasDef K mg "tangles" s_tangles
 d_numbers_in : HasDef K mg "numbers_in" s_numbers_in
 d_steps_within : HasDef K mg "steps_within" s_steps_within
 d_place_of : HasDef K mg "place_of" s_place_of
 d_best_lasts : HasDef K mg "best_lasts" s_best_lasts
 d_count_with_last : HasDef K mg "count_with_last" s_count_with_last
 d_fewest : HasDef K mg "fewest" s_fewest
 d_fewest_within : HasDef K mg "fewest_within" s_fewest_within
 d_broken : HasDef K mg "broken" s_broken
 d_laid_in : HasDef K mg "laid_in" s_laid_in
 d_shortest_way : HasDef K mg "shortest_way" s_shortest_way
 d_law_cell_at : HasDef K mg "_law_cell_at" s_law_cell_at
 d_law_mixed : HasDef K mg "_law_mixed" s_law_mixed
 d_law_names : HasDef K mg "_law_names" s_law_names
 d_law_other : HasDef K mg "_law_other" s_law_other
 d_law_pairs_of : HasDef K mg "_law_pairs_of" s_law_pairs_of
 d_law_is_cut : HasDef K mg "_law_is_cut" s_law_is_cut
 d_law_plain : HasDef K mg "_law_plain" s_law_plain
 d_law_without : HasDef K mg "_law_without" s_law_without
 d_law_round : HasDef K mg "_law_round" s_law_round
 d_law_rounds : HasDef K mg "_law_rounds" s_law_rounds
noncomputable def spNamedParts : Sp := fun vs H Q _ => ∃ (a : Addr) (ps : List Pt) (n k : Str) (rs : List Rw), vs = [.ref a, .str n, .str k] ∧ (k = "bring" ∨ k = "ask") ∧ PartsF H a ps ∧ (ps.map (·.1)).Nodup ∧ (n, rs) ∈ ps ∧ ps.length ≤ 1000 ∧ rs.length ≤ 900 ∧
 ∀ (p : Addr) (H' : Hp), Same H H' → H' p = some (.tup ((namedOf k rs).map V.str)) → Q (.ref p) H'
noncomputable def spNames (k : Str) : Sp := fun vs H Q _ => ∃ (a : Addr) (ps : List Pt) (n : Str) (rs : List Rw), vs = [.ref a, .str n] ∧ PartsF H a ps ∧ (ps.map (·.1)).Nodup ∧ (n, rs) ∈ ps ∧ ps.length ≤ 1000 ∧ rs.length ≤ 900 ∧
 ∀ (p : Addr) (H' : Hp), Same H H' → H' p = some (.tup ((namedOf k rs).map V.str)) → Q (.ref p) H'
theorem parts_pairs {K : PySem.W.Frag} {H : Hp} : ∀ {vs : List V} {ps : List Pt}, Paired (PartAt H) vs ps → ∃ qs : List (Str × V), Paired (fun v (p : Str × V) => ∃ t, v = .ref t ∧ SqT K H t [.str p.1, p.2]) vs qs ∧ qs.map (·.1) = ps.map (·.1) ∧ ∀ n rs, (n, rs) ∈ ps → ∃ u ws, (n, V.ref u) ∈ qs ∧ H u = some (.tup ws) ∧ RowsAt H ws rs
 | _, _, .nil => ⟨[], .nil, rfl, fun n rs h => by simp at h⟩
 | _, _, .cons (b := p) ⟨t, u, ws, e, h1, h2, h3⟩ hr => by
   obtain ⟨qs, g1, g2, g3⟩ := parts_pairs (K := K) hr
   refine ⟨(p.1, .ref u) :: qs, .cons ⟨t, e, SqT.of h1⟩ g1, by rw [List.map_cons, List.map_cons, g2], fun n rs h => ?_⟩
   rcases List.mem_cons.mp h with z | z
   · rw [← z] at h1 h3 ⊢
     exact ⟨u, ws, List.mem_cons_self, h2, h3⟩
   · obtain ⟨u', ws', k1, k2⟩ := g3 n rs z
     exact ⟨u', ws', List.mem_cons_of_mem _ k1, k2⟩
theorem Tups.dK {H : Hp} {l : Addr} {kvs kvs' : List (Key × V)} (h : H l = some (.dK kvs)) : Tups H (upd H l (.dK kvs')) := fun b zs q => by
 rw [upd_ne (ne_of q h (by intro z; cases z))]
 exact q
section
variable {P : Program} {w : World} {K : PySem.W.Frag} {mg : Str → Option Value} {base : Heap}
theorem ok_named_parts (T : Txt K mg) : L2.Cl P w K mg base 1 "named_parts" ["parts", "part", "kind"] spNamedParts := by
 refine Cl.of T.d_named_parts sc_named_parts (fun vs H Q E h => ?_) (fun _ _ _ _ _ _ us hl => by obtain ⟨a, b, c, rfl⟩ := len3 hl; rfl) (fun f cdv A outer s H vs Q E hr h => ?_)
 · obtain ⟨a, ps, n, k, rs, rfl, _⟩ := h
   rfl
 · obtain ⟨a, ps, n, k, rs, rfl, hk, ⟨o, vs, ha, ho, hps⟩, hnd, hmem, hl1, hl2, q⟩ := h
   have hu := hu_of hr
   refine ⟨_, (pss_cons (ps_set (i := 3) sc_named_parts.nd rfl (Or.inl rfl) pe_dnewK)
     (pss_cons (ps_for PassesOwn.never rfl (pi_tup (pe_dget hu (pe_callTy (call_dictT rfl) (by rfl) T.n_dict boot_dict (pa_cons (pv 0) pa_nil)) (pv 1) (fun _ _ => rfl))) (pg_name (i := 4) sc_named_parts.nd rfl (Or.inl rfl))
       (pss_one (ps_if (pt_cmpR op_eq (pe_ix ix_tup (pv 4) pe_int (fun _ _ => rfl)) (pv 2) (nomark _))
         (pss_one (ps_dput hu (pv 3) (pe_ix ix_tup (pv 4) pe_int (fun _ _ => rfl)) pe_bl rfl)) pss_nil)))
     (pss_one (ps_ret (pe_callTy (call_tupleD rfl) (by rfl) T.n_tuple boot_tuple (pa_cons (pv 3) pa_nil)))))), ?_⟩
   intro d gd
   have s1 : Same H (upd H d (.dK [])) := (Same.refl H).new gd
   obtain ⟨qs, g1, g2, g3⟩ := parts_pairs (K := K) (Paired.mapP hps fun _ _ z => z.mono s1.tups)
   obtain ⟨u, ws, k1, k2, k3⟩ := g3 n rs hmem
   have hql : qs.length = ps.length := by
     have := congrArg List.length g2
     simpa using this
   refine ⟨_, rfl, a, o, vs, qs, rfl, s1 _ _ ha, ho, g1, (by omega), fun e ge => ?_⟩
   have s2 := s1.new (o := .dK (foldP qs [])) ge
   refine ⟨_, rfl, e, .ref u, rfl, ?_, ?_⟩
   · have hg := DGet.k (k := Sum.inr n) (upd_same (H := upd H d (.dK [])) (a := e) (o := .dK (foldP qs [])))
     rw [foldP_get qs [] n (.ref u) (by rw [g2]; exact hnd) (.inl k1)] at hg
     exact hg
   · have s2 : Same H (upd (upd H d (.dK [])) e (.dK (foldP qs []))) := s1.new ge
     have hde : d ≠ e := ne_of_none (upd_same (H := H) (a := d) (o := .dK [])) ge
     have hwl : ws.length = rs.length := Paired.length k3
     refine ⟨u, rfl, ⟨_, SqT.of (upd_keep k2 ge)⟩, for_tup (K := K) (a := u) (xs := ws) (fun i σ H2 => ∃ v4 : Option V, σ = [some (.ref a), some (.str n), some (.str k), some (.ref d), v4] ∧ Same H H2 ∧ H2 d = some (.dK (setD (namedOf k (rs.take i)))) ∧ H2 u = some (.tup ws) ∧ RowsAt H2 ws rs)
       ⟨none, rfl, s2, ?_, upd_keep k2 ge, k3.mono (Tups.new ge)⟩ (fun i σ H2 _ ⟨_, _, _, _, e2, _⟩ => SqT.of e2) ?_ ?_⟩
     · rw [upd_ne hde, upd_same]; rfl
     · rintro i y σ H2 hx ⟨v4, rfl, s3, hd3, hu3, hr3⟩
       have hi : i < ws.length := (List.getElem?_eq_some_iff.mp hx).1
       obtain ⟨rw, hrw, r, er, hra⟩ := Paired.get? hr3 hx
       subst er
       have hlt : (namedOf k (rs.take i)).length ≤ 900 := by
         have h1 := namedOf_len k (rs.take i) []
         have h2 : (rs.take i).length ≤ rs.length := List.length_take_le' ..
         unfold namedOf
         simp only [List.length_nil] at h1
         omega
       have htk : rs.take (i + 1) = rs.take i ++ [rw] := take_succ_get hrw
       rcases hra.named hk with ⟨e1, p, rest, e2, h2⟩ | ⟨e1, e2⟩
       · have z0 : atI (V.str k :: V.str p :: rest) 0 = some (.str k) := atI_nat (j := 0) rfl
         have z1 : atI (V.str k :: V.str p :: rest) 1 = some (.str p) := atI_nat (j := 1) rfl
         refine ⟨_, rfl, r, _, _, _, rfl, rfl, SqT.of h2, z0, _, rfl, rfl, _, rfl, iteSE ?_⟩
         refine ⟨_, rfl, _, rfl, r, _, _, _, rfl, rfl, SqT.of h2, z1, d, _, rfl, DPut.k (k := Sum.inr p) hd3 (small1000 (by rw [setD_len]; omega)), ?_⟩
         refine ⟨_, rfl, s3.put gd, ?_, ?_, hr3.mono (Tups.dK hd3)⟩
         · rw [upd_same, setD_put, htk, namedOf_snoc]
           unfold stepN
           rw [e2]
         · exact Tups.dK hd3 _ _ hu3
       · obtain ⟨x, rest, h2⟩ := hra.kind
         have z0 : atI (V.str (kindS rw) :: x :: rest) 0 = some (.str (kindS rw)) := atI_nat (j := 0) rfl
         refine ⟨_, rfl, r, _, _, _, rfl, rfl, SqT.of h2, z0, _, rfl, rfl, _, rfl, iteSN e1 ?_⟩
         refine ⟨_, rfl, s3, ?_, hu3, hr3⟩
         rw [htk, namedOf_snoc]
         unfold stepN
         rw [e2]
         exact hd3
     · rintro σ H2 ⟨v4, rfl, s3, hd3, hu3, hr3⟩
       rw [hwl, List.take_length] at hd3
       refine ⟨_, rfl, d, _, rfl, .inl hd3, fun t gt => ?_⟩
       refine q t _ (s3.new gt) ?_
       rw [upd_same, setD_keys]
theorem ok_brings (T : Txt K mg) : L2.Cl P w K mg base 2 "brings" ["parts", "part"] (spNames "bring") := by
 have C_named_parts := ok_named_parts (P := P) (w := w) (base := base) T
 refine Cl.of T.d_brings sc_brings (fun vs H Q E h => ?_) (fun _ _ _ _ _ _ us hl => by obtain ⟨a, b, rfl⟩ := len2 hl; rfl) (fun f cdv A outer s H vs Q E hr h => ?_)
 · obtain ⟨a, ps, n, rs, rfl, _⟩ := h
   rfl
 · obtain ⟨a, ps, n, rs, rfl, h1, h2, h3, h4, h5, q⟩ := h
   refine ⟨_, (pss_one (ps_ret (pe_fn C_named_parts hr (by rfl) (pa_cons (pv 0) (pa_cons (pv 1) (pa_cons pe_str pa_nil)))))), ?_⟩
   exact ⟨_, rfl, _, rfl, a, ps, n, "bring", rs, rfl, .inl rfl, h1, h2, h3, h4, h5, q⟩
theorem pe_globS {X : Cx} {x : Str} {v : V} {pos : Pos} (h : ∃ u, X.mg x = some u ∧ RelV v u) (hg : Gl X x) (hd : (x == ("__debug__" : Str)) = false := by decide) : PE X (.Name x pos) (tC v) := by
 obtain ⟨u, hm, r⟩ := h
 exact pe_glob hg hm r hd
theorem mt_joinK {X : Cx} {K : PySem.W.Frag} (h : X.K = K) : MtR X "str.join" (fun x vs H Q => ∃ sep p ys, x = .str sep ∧ vs = [.ref p] ∧ (SqT K H p (ys.map V.str) ∨ SqL K H p (ys.map V.str)) ∧ sep.length ≤ 16 ∧ (ys.map (·.length)).sum + ys.length ≤ 1048576 ∧ Q (.str (Str.join sep ys)) H) := h ▸ mt_join
theorem pe_bmK {X : Cx} {K : PySem.W.Frag} (hK : X.K = K) {o e : Expr} {es : List Expr} {to : TE} {t : TA} {name : Str} {apos cpos : Pos} {T id : String} {r : V → List V → Hp → VK → Prop} (pa : PlainAttrs T) (slot : Slot T name id) (hty : typeOf (.builtin id) = pure (.type "method_descriptor")) (hm : MtR X id r) (ho : PE X o to) (ha : PA X (e :: es) t)
   (hbase : attributeBase o name X.env (eval o X.env) = eval o X.env := by rfl)
   (hfew : ((backTo cpos (starEach (e :: es) X.env)).all (fun x => !x.1) && (backToKw cpos (keywordEach [] X.env)).all (fun x => x.1.isSome) && decide ((e :: es).length + ([] : List Keyword).length + (if ([] : List Keyword).isEmpty then 0 else 1) < 30)) = true := by rfl)
   (hline : (apos.endLine == cpos.line) = true := by rfl) (hs : starEach (e :: es) X.env = (false, eval e X.env) :: starEach es X.env := by rfl) (hplain : (backTo cpos (starEach es X.env)).any (·.1) = false := by rfl) :
   PE X (.Call (.Attribute o name apos) (e :: es) [] cpos) (tBM K T r to t) := by
 subst hK
 exact pe_bm pa slot hty hm ho ha hbase hfew hline hs hplain
theorem tand_pure {t u : TT} {σ : L2.St} {H : Hp} {a b : Bool} (ht : ∀ Q : Bool → Hp → Prop, Q a H → t σ H Q) (hu : ∀ Q : Bool → Hp → Prop, Q b H → u σ H Q) : ∀ Q : Bool → Hp → Prop, Q (a && b) H → tAnd t u σ H Q := fun Q h => by
 refine ht _ ?_
 cases a with
 | true => exact iteT (hu _ h)
 | false => exact iteF h
theorem tor_pure {t u : TT} {σ : L2.St} {H : Hp} {a b : Bool} (ht : ∀ Q : Bool → Hp → Prop, Q a H → t σ H Q) (hu : ∀ Q : Bool → Hp → Prop, Q b H → u σ H Q) : ∀ Q : Bool → Hp → Prop, Q (a || b) H → tOr t u σ H Q := fun Q h => by
 refine ht _ ?_
 cases a with
 | true => exact iteT h
 | false => exact iteF (hu _ h)
theorem g_if_p {t : TT} {A B R : TS} {D : Ends} {r : VK} {b k : L2.St → Hp → Prop} {i : Nat} {v : V} {σ : L2.St} {H : Hp} {a : Bool} (ht : ∀ Q : Bool → Hp → Prop, Q a H → t (σ.set i (some v)) H Q) (h : if a = true then A { D with nx := R D } (σ.set i (some v)) H else B { D with nx := R D } (σ.set i (some v)) H) : gName i v σ H (Ends.nx ⟨tSeq (tIfS t A B) R D, r, b, k⟩) := ht _ h
theorem s_if_p {t : TT} {A B R : TS} {D : Ends} {σ : L2.St} {H : Hp} {a : Bool} (ht : ∀ Q : Bool → Hp → Prop, Q a H → t σ H Q) (h : if a = true then A { D with nx := R D } σ H else B { D with nx := R D } σ H) : tSeq (tIfS t A B) R D σ H := ht _ h
noncomputable def ch (c : Nat) : Str := ⟨#[c]⟩
noncomputable def chs (l : List Nat) : List V := (l.map ch).map V.str
theorem chs_snoc (l : List Nat) (c : Nat) : chs (l ++ [c]) = chs l ++ [.str (ch c)] := by unfold chs; simp
theorem chs_len (l : List Nat) : (chs l).length = l.length := by unfold chs; simp
theorem chs_take (l : List Nat) (k : Nat) : (chs l).take k = chs (l.take k) := by unfold chs; rw [List.map_take, List.map_take]
theorem chs_drop (l : List Nat) (k : Nat) : (chs l).drop k = chs (l.drop k) := by unfold chs; rw [List.map_drop, List.map_drop]
theorem ch_sum : ∀ l : List Nat, ((l.map ch).map (·.length)).sum = l.length
 | [] => rfl
 | c :: r => by
   have ih := ch_sum r
   simp only [List.map_cons, List.sum_cons, List.length_cons]
   rw [ih]
   show 1 + r.length = _
   omega
theorem no_signs : ("" : Str).cps.toList = [] := by decide +kernel
theorem join0 : ∀ l : List Nat, (Str.join "" (l.map ch)).cps.toList = l
 | [] => by decide +kernel
 | [c] => rfl
 | c :: d :: r => by
   have ih := join0 (d :: r)
   show (ch c ++ "" ++ Str.join "" ((d :: r).map ch)).cps.toList = _
   rw [cps_app, cps_app, ih, no_signs]
   rfl
noncomputable def lS (l : List Nat) : Str := ⟨l.toArray⟩
theorem lS_cps (l : List Nat) : (lS l).cps.toList = l := by unfold lS; simp
theorem join0S (l : List Nat) : Str.join "" (l.map ch) = lS l := str_ext (by rw [join0, lS_cps])
theorem lS_inj {a b : List Nat} (h : lS a = lS b) : a = b := by
 have := congrArg (fun x : Str => x.cps.toList) h
 simpa [lS_cps] using this
theorem lS_app (a b : List Nat) : lS a ++ lS b = lS (a ++ b) := str_ext (by rw [cps_app, lS_cps, lS_cps, lS_cps])
theorem ch_lS (c : Nat) : ch c = lS [c] := rfl
theorem lS_len (a : List Nat) : (lS a).length = a.length := by unfold lS Str.length; simp
noncomputable def mixM (c k p : Int) : Int := (c * 48271 + 7919 * k * k + 101 * k) % p
noncomputable def baseN (c : Int) (i : Nat) : List Nat := (List.range i).map fun (j : Nat) => letAt (mixM c (j : Int) 65519 % 26)
theorem baseN_succ (c : Int) (i : Nat) : baseN c (i + 1) = baseN c i ++ [letAt (mixM c (i : Int) 65519 % 26)] := by unfold baseN; rw [List.range_succ, List.map_append]; rfl
theorem baseN_len (c : Int) (i : Nat) : (baseN c i).length = i := by unfold baseN; simp
noncomputable def nmP (c : Int) (k : Nat) : Str := lS ((baseN c 8).take (k + 1))
noncomputable def nmA (b : List Nat) (at' long : Nat) (c : Nat) : Str := lS (b.take at' ++ [c] ++ (b.drop (at' + 1)).take (long - (at' + 1)))
theorem nmP_inj {c : Int} {k l : Nat} (hk : k < 8) (hl : l < 8) (h : nmP c k = nmP c l) : k = l := by
 have := congrArg List.length (lS_inj h)
 rw [List.length_take, List.length_take, baseN_len] at this
 omega
theorem nmA_inj {b : List Nat} {at' long c d : Nat} (h : nmA b at' long c = nmA b at' long d) : c = d := by
 have h1 := lS_inj h
 rw [List.append_assoc, List.append_assoc] at h1
 have h2 := List.append_cancel_left h1
 simpa using h2
noncomputable def sg36 : Str := "abcdefghijklmnopqrstuvwxyz0123456789"
theorem sg36_len : sg36.cps.toList.length = 36 := by decide +kernel
theorem sg36_eq : lets ++ ("0123456789" : Str) = sg36 := by decide +kernel
theorem sgAt_inj0 : ∀ i : Nat, i < 36 → ∀ j : Nat, j < 36 → sg36.cps.toList.getD i 0 = sg36.cps.toList.getD j 0 → i = j := by decide +kernel
theorem sgAt_inj {i j : Int} (hi : 0 ≤ i) (hi2 : i < 36) (hj : 0 ≤ j) (hj2 : j < 36) (h : sgAt i = sgAt j) : i = j := by
 have := sgAt_inj0 i.toNat (by omega) j.toNat (by omega) h
 omega
noncomputable def stepL : List Int := [1, 5, 7, 11, 17, 25]
noncomputable def stepM (c : Int) : Int := stepL.getD (mixM c 9 65521 % 6).toNat 0
theorem stepM_in (c : Int) : stepM c = 1 ∨ stepM c = 5 ∨ stepM c = 7 ∨ stepM c = 11 ∨ stepM c = 17 ∨ stepM c = 25 := by
 unfold stepM
 generalize hz : (mixM c 9 65521 % 6).toNat = z
 have : z < 6 := by omega
 match z, this with
 | 0, _ => decide
 | 1, _ => decide
 | 2, _ => decide
 | 3, _ => decide
 | 4, _ => decide
 | 5, _ => decide
noncomputable def sgn (c : Int) (at' : Nat) (k : Nat) : Nat := if 0 < at' then sgAt ((c / 64 + (k : Int) * stepM c) % 36) else letAt ((c / 64 + (k : Int) * stepM c) % 26)
theorem sgn_inj {c : Int} {at' k l : Nat} (hk : k < 24) (hl : l < 24) (h : sgn c at' k = sgn c at' l) : k = l := by
 unfold sgn at h
 have hs := stepM_in c
 generalize stepM c = s at h hs
 generalize c / 64 = x at h
 by_cases ha : 0 < at'
 · rw [if_pos ha, if_pos ha] at h
   have := sgAt_inj (by omega) (by omega) (by omega) (by omega) h
   rcases hs with rfl | rfl | rfl | rfl | rfl | rfl <;> omega
 · rw [if_neg ha, if_neg ha] at h
   have := letAt_inj (by omega) (by omega) (by omega) (by omega) h
   rcases hs with rfl | rfl | rfl | rfl | rfl | rfl <;> omega
theorem nodup_range_map {f : Nat → Str} {n : Nat} (h : ∀ k l, k < n → l < n → f k = f l → k = l) : ((List.range n).map f).Nodup := by
 rw [List.nodup_iff_pairwise_ne, List.pairwise_map]
 refine List.Pairwise.imp_of_mem ?_ (List.nodup_range (n := n))
 intro a b ha hb hne e
 exact hne (h a b (List.mem_range.mp ha) (List.mem_range.mp hb) e)
theorem nodup_rev {l : List Str} (h : l.Nodup) : l.reverse.Nodup := List.pairwise_reverse.mpr (h.imp fun e => Ne.symm e)
theorem range_map_succ {α : Type} (f : Nat → α) (n : Nat) : (List.range (n + 1)).map f = (List.range n).map f ++ [f n] := by rw [List.range_succ, List.map_append]; rfl
theorem cut_take {xs : List V} {k : Nat} (h : k ≤ xs.length) : cutV xs none (some ((k : Nat) : Int)) = xs.take k := by
 unfold cutV
 rw [HT.sIx_none, HT.sIx_nat, Nat.min_eq_left h, List.drop_zero, Nat.sub_zero]
theorem cut_mid (xs : List V) (i j : Nat) (hij : i ≤ j) (hj : j ≤ xs.length) : cutV xs (some (i : Int)) (some (j : Int)) = (xs.drop i).take (j - i) := by
 unfold cutV
 rw [HT.sIx_nat, HT.sIx_nat, Nat.min_eq_left hj, Nat.min_eq_left (Nat.le_trans hij hj)]
noncomputable def spCell (K : PySem.W.Frag) : Sp := fun vs H Q _ => ∃ (a : Addr) (ns : List Int) (k : Int), vs = [.ref a, .int k] ∧ SqL K H a (ns.map V.int) ∧ 0 ≤ k ∧ ∀ c : Int, Q (.int c) H
theorem ok_cell (T : Txt K mg) : L2.Cl P w K mg base 1 "_law_cell_at" ["_law_script", "_law_k"] (spCell K) := by
 refine Cl.of T.d_law_cell_at sc_law_cell_at (fun vs H Q E h => ?_) (fun _ _ _ _ _ _ us hl => by obtain ⟨a, b, rfl⟩ := len2 hl; rfl) (fun f cdv A outer s H vs Q E hr h => ?_)
 · obtain ⟨a, ns, k, rfl, _⟩ := h
   rfl
 · obtain ⟨a, ns, k, rfl, hS, hk, q⟩ := h
   refine ⟨_, (pss_cons (ps_if (pt_cmpR op_lt (pv 1) (pe_callB call_len_seq (by rfl) T.n_len PySem.boot_len (pa_cons (pv 0) pa_nil)) (nomark _))
       (pss_one (ps_ret (pe_ix ix_list (pv 0) (pv 1) (fun _ _ => rfl)))) pss_nil)
     (pss_one (ps_ret pe_int))), ?_⟩
   refine ⟨_, rfl, _, rfl, a, _, rfl, .inl hS, _, _, rfl, rfl, _, rfl, ?_⟩
   refine ite2 (fun hlt => ?_) (fun hlt => ?_)
   · have hlt' : k < (ns.length : Int) := by simpa using hlt
     refine ⟨_, rfl, _, rfl, a, _, _, _, rfl, rfl, hS, atI_map V.int ns 0 hk hlt', ?_⟩
     exact q _
   · exact q 0
noncomputable def spMixed : Sp := fun vs H Q _ => ∃ c k p : Int, vs = [.int c, .int k, .int p] ∧ 0 ≤ k ∧ k < 1000 ∧ 0 < p ∧ Q (.int (mixM c k p)) H
theorem ok_mixed (T : Txt K mg) : L2.Cl P w K mg base 1 "_law_mixed" ["_law_cell", "_law_k", "_law_prime"] spMixed := by
 refine Cl.of T.d_law_mixed sc_law_mixed (fun vs H Q E h => ?_) (fun _ _ _ _ _ _ us hl => by obtain ⟨a, b, c, rfl⟩ := len3 hl; rfl) (fun f cdv A outer s H vs Q E hr h => ?_)
 · obtain ⟨c, k, p, rfl, _⟩ := h
   rfl
 · obtain ⟨c, k, p, rfl, hk, hk2, hp, q⟩ := h
   refine ⟨_, (pss_one (ps_ret (pe_op op_mod (pe_op op_add (pe_op op_add (pe_op op_mul (pv 0) pe_int) (pe_op op_mul (pe_op op_mul pe_int (pv 1)) (pv 1))) (pe_op op_mul pe_int (pv 1))) (pv 2)))), ?_⟩
   exact ⟨_, rfl, _, _, rfl, rfl, .inr ⟨by decide, by decide⟩, _, rfl, _, _, rfl, rfl, .inl ⟨by decide, by decide⟩, _, rfl, _, _, rfl, rfl, .inr ⟨by omega, by omega⟩, _, _, rfl, rfl, _, rfl, _, _, rfl, rfl, .inl ⟨by decide, by decide⟩, _, _, rfl, rfl, _, rfl, _, _, rfl, rfl, hp, q⟩
noncomputable def spNms : Sp := fun vs H Q _ => ∃ (c n : Int), vs = [.int c, .int n] ∧ 1 ≤ n ∧ n ≤ 24 ∧ ∀ (l : Addr) (ns : List Str) (H' : Hp), Same H H' → H l = none → H' l = some (.lst (ns.map V.str)) → ns.length = n.toNat → ns.Nodup → Q (.ref l) H'
theorem ok_names (T : Txt K mg) : L2.Cl P w K mg base 2 "_law_names" ["_law_cell", "_law_many"] spNms := by
 have C_law_mixed := ok_mixed (P := P) (w := w) (base := base) T
 refine Cl.of T.d_law_names sc_law_names (fun vs H Q E h => ?_) (fun _ _ _ _ _ _ us hl => by obtain ⟨a, b, rfl⟩ := len2 hl; rfl) (fun f cdv A outer s H vs Q E hr h => ?_)
 · obtain ⟨c, n, rfl, _⟩ := h
   rfl
 · obtain ⟨c, n, rfl, hn1, hn2, q⟩ := h
   refine ⟨_, (pss_cons (ps_set (i := 2) sc_law_names.nd rfl (Or.inr rfl) pe_str)
     (pss_cons (ps_set (i := 3) sc_law_names.nd rfl (Or.inl rfl) (pe_op op_add_str (pv 2) pe_str))
     (pss_cons (ps_set (i := 4) sc_law_names.nd rfl (Or.inr rfl) (pe_comp (M := ["_law_k", "_law_letters", "_law_cell"]) (ρ := [none, some 2, some 0]) (defScope s_law_names) ["_law_cell", "_law_many", "_law_letters", "_law_signs", "_law_base", "_law_names_here", "_law_long", "_law_at", "_law_step", "_law_k", "_law_sign"] ⟨rfl, by decide +kernel, by decide +kernel, by decide +kernel, rfl, by decide +kernel, by decide +kernel⟩ (pi_range1 (by rfl) T.n_range (pa_cons pe_int pa_nil)) (fun _ _ _ _ _ _ => (pg_name (i := 0) (show (["_law_k", "_law_letters", "_law_cell"] : List Str).Nodup by decide +kernel) rfl (Or.inl rfl))) (fun _ _ _ _ _ _ => pts_nil) (fun _ _ _ _ _ _ => (pe_ix ix_str (pv 1) (pe_op op_mod (pe_fn C_law_mixed hr (by rfl) (pa_cons (pv 2) (pa_cons (pv 0) (pa_cons pe_int pa_nil)))) pe_int) (fun _ _ => rfl)))))
     (pss_cons (ps_if (PW.pt (pw_and (pt_cmpR op_eq (pe_op op_mod (pe_op op_fdiv (pv 0) pe_int) pe_int) pe_int (nomark _)) (pw_and1 (pt_cmpR op_lt (pv 1) pe_int (nomark _)))))
       (pss_one (ps_setC (j := 5) (M := ["_law_k", "_law_base"]) (ρ := [none, some 4]) (defScope s_law_names) ["_law_cell", "_law_many", "_law_letters", "_law_signs", "_law_base", "_law_names_here", "_law_long", "_law_at", "_law_step", "_law_k", "_law_sign"] ⟨rfl, by decide +kernel, by decide +kernel, by decide +kernel, rfl, by decide +kernel, by decide +kernel⟩ sc_law_names.nd rfl (Or.inl rfl) (pi_range1 (by rfl) T.n_range (pa_cons (pv 1) pa_nil)) (fun _ _ _ _ _ _ => (pg_name (i := 0) (show (["_law_k", "_law_base"] : List Str).Nodup by decide +kernel) rfl (Or.inl rfl))) (fun _ _ _ _ _ _ => pts_nil) (fun _ _ _ _ _ _ => (pe_bmK (K := K) rfl PySem.F.plainAttrs_str PySem.F.slot_str_join PySem.F.type_str_join (mt_joinK (K := K) rfl) pe_str (pa_cons (pe_slice (sl_listK (K := K) rfl) (pv 1) po_none (po_some (pe_op op_add (pv 0) pe_int))) pa_nil))))) (pss_cons (ps_set (i := 6) sc_law_names.nd rfl (Or.inl rfl) (pe_op op_add pe_int (pe_op op_mod (pv 0) pe_int)))
       (pss_cons (ps_set (i := 7) sc_law_names.nd rfl (Or.inl rfl) (pe_op op_mod (pe_op op_fdiv (pv 0) pe_int) (pv 6)))
       (pss_cons (ps_set (i := 8) sc_law_names.nd rfl (Or.inl rfl) (pe_ix ix_list (pe_lst (pa_cons pe_int (pa_cons pe_int (pa_cons pe_int (pa_cons pe_int (pa_cons pe_int (pa_cons pe_int pa_nil))))))) (pe_op op_mod (pe_fn C_law_mixed hr (by rfl) (pa_cons (pv 0) (pa_cons pe_int (pa_cons pe_int pa_nil)))) pe_int) (fun _ _ => rfl)))
       (pss_cons (ps_set (i := 5) sc_law_names.nd rfl (Or.inl rfl) (pe_lst pa_nil))
       (pss_one (ps_for PassesOwn.never rfl (pi_range1 (by rfl) T.n_range (pa_cons (pv 1) pa_nil)) (pg_name (i := 9) sc_law_names.nd rfl (Or.inl rfl))
         (pss_cons (ps_set (i := 10) sc_law_names.nd rfl (Or.inl rfl) (pe_ix ix_str (pv 2) (pe_op op_mod (pe_op op_add (pe_op op_fdiv (pv 0) pe_int) (pe_op op_mul (pv 9) (pv 8))) pe_int) (fun _ _ => rfl)))
         (pss_cons (ps_if (pt_cmpR op_gt (pv 7) pe_int (nomark _))
           (pss_one (ps_set (i := 10) sc_law_names.nd rfl (Or.inl rfl) (pe_ix ix_str (pv 3) (pe_op op_mod (pe_op op_add (pe_op op_fdiv (pv 0) pe_int) (pe_op op_mul (pv 9) (pv 8))) pe_int) (fun _ _ => rfl)))) pss_nil)
         (pss_one (ps_expr (pe_bm PySem.F.plainAttrs_list PySem.F.slot_list_append PySem.F.type_list_append mt_append (pv 5) (pa_cons (pe_op op_add_str (pe_op op_add_str (pe_bm PySem.F.plainAttrs_str PySem.F.slot_str_join PySem.F.type_str_join mt_join pe_str (pa_cons (pe_slice sl_list (pv 4) po_none (po_some (pv 7))) pa_nil)) (pv 10)) (pe_bm PySem.F.plainAttrs_str PySem.F.slot_str_join PySem.F.type_str_join mt_join pe_str (pa_cons (pe_slice sl_list (pv 4) (po_some (pe_op op_add (pv 7) pe_int)) (po_some (pv 6))) pa_nil))) pa_nil)))))))))))))
     (pss_cons (ps_if (pt_cmpR op_eq (pe_op op_mod (pe_op op_fdiv (pv 0) pe_int) pe_int) pe_int (nomark _))
       (pss_one (ps_expr (pe_bm0 PySem.F.plainAttrs_list PySem.F.slot_list_reverse PySem.F.type_list_reverse mt_reverse (pv 5)))) pss_nil)
     (pss_one (ps_ret (pv 5)))))))), ?_⟩
   refine ⟨_, rfl, _, _, rfl, rfl, (by decide +kernel), _, rfl, by decide, by decide, fun B gB => ?_⟩
   refine comp_by 8 (fun i σ H2 => ∃ v0 : Option V, σ = [v0, some (.str lets), some (.int c)] ∧ Same H H2 ∧ H2 B = some (.lst (chs (baseN c i)))) ⟨_, rfl, (Same.refl H).new gB, upd_same⟩ ?_ ?_
   · rintro i σ H2 hi ⟨v0, rfl, s2, hB⟩
     refine ⟨hi, ?_⟩
     rintro x H3 ⟨rfl, rfl⟩
     refine ntG ?_
     refine ⟨_, rfl, _, rfl, _, rfl, c, 0 + (i : Int), 65519, rfl, by omega, by omega, by decide, _, _, rfl, rfl, (by show (0 : Int) < 26; decide), lets, _, _, rfl, rfl, (by decide +kernel), atI_getD _ 0 (by omega) (by rw [lets_len]; omega), ?_⟩
     refine ⟨_, hB, small1000 (by rw [chs_len, baseN_len]; omega), _, rfl, s2.put gB, ?_⟩
     rw [upd_same, baseN_succ, chs_snoc, Int.zero_add]
     rfl
   · rintro σ H2 ⟨v0, rfl, s2, hB⟩
     refine ⟨Nat.le_refl _, ?_⟩
     have gB' : H2 B = some (.lst (chs (baseN c 8))) := hB
     refine g_if_p (a := decide (V.int (c / 5 % 4) = V.int 1) && decide (n < 9)) ?_ ?_
     · exact tand_pure (fun Q' h => ⟨_, rfl, _, _, rfl, rfl, ⟨by decide, by decide⟩, _, _, rfl, rfl, (by show (0 : Int) < 4; decide), rfl, _, rfl, h⟩) (fun Q' h => ⟨_, rfl, _, _, rfl, rfl, _, rfl, h⟩)
     refine ite2 (fun hm => ?_) (fun hm => ?_)
     · have hn9 : n < 9 := by
         rw [Bool.and_eq_true] at hm
         exact of_decide_eq_true hm.2
       refine ⟨_, rfl, _, rfl, by omega, by omega, fun D gD => ?_⟩
       refine comp_by n.toNat (fun i σ H3 => ∃ v0 : Option V, σ = [v0, some (.ref B)] ∧ Same H2 H3 ∧ H3 D = some (.lst (((List.range i).map (nmP c)).map V.str))) ⟨_, rfl, (Same.refl H2).new gD, upd_same⟩ ?_ ?_
       · rintro i σ H3 hi ⟨v0, rfl, s3, hD⟩
         refine ⟨hi, ?_⟩
         rintro x H4 ⟨rfl, rfl⟩
         refine ntG ?_
         refine ⟨rfl, _, rfl, _, rfl, _, _, rfl, rfl, _, rfl, B, _, rfl, SqL.of (s3 _ _ gB'), fun p gp => ?_⟩
         have hcut : cutV (chs (baseN c 8)) none (some (0 + (i : Int) + 1)) = chs ((baseN c 8).take (i + 1)) := by
           rw [show (0 + (i : Int) + 1) = ((i + 1 : Nat) : Int) by omega, cut_take (by rw [chs_len, baseN_len]; omega), chs_take]
         rw [hcut]
         have s4 : Same H2 (upd H4 p (.lst (chs ((baseN c 8).take (i + 1))))) := s3.new gp
         refine ⟨_, p, ((baseN c 8).take (i + 1)).map ch, rfl, rfl, .inr (SqL.of upd_same), (by decide +kernel), (by rw [ch_sum, List.length_map]; have : ((baseN c 8).take (i + 1)).length ≤ 8 := by { rw [List.length_take, baseN_len]; omega }; omega), ?_⟩
         refine ⟨_, upd_keep hD gp, small1000 (by rw [List.length_map, List.length_map, List.length_range]; omega), _, rfl, s4.put gD, ?_⟩
         rw [upd_same, range_map_succ, List.map_append, join0S]
         rfl
       · rintro σ H3 ⟨v0, rfl, s3, hD⟩
         refine ⟨Nat.le_refl _, ?_⟩
         have hnd : ((List.range n.toNat).map (nmP c)).Nodup := nodup_range_map fun k l hk hl e => nmP_inj (by omega) (by omega) e
         have hlen : ((List.range n.toNat).map (nmP c)).length = n.toNat := by simp
         generalize (List.range n.toNat).map (nmP c) = ns at hnd hlen hD
         have gDH : H D = none := s2.free gD
         refine ⟨_, rfl, _, _, rfl, rfl, ⟨by decide, by decide⟩, _, _, rfl, rfl, (by show (0 : Int) < 2; decide), rfl, _, rfl, ?_⟩
         refine ite2I (fun _ => ?_) (fun _ => ?_)
         · refine ⟨_, rfl, .inl ⟨rfl, _, SqL.of hD⟩, D, _, rfl, rfl, hD, ?_⟩
           refine ⟨_, rfl, q D ns.reverse _ ((s2.trans s3).put gDH) gDH (by rw [upd_same, List.map_reverse]) (by rw [List.length_reverse, hlen]) (nodup_rev hnd)⟩
         · exact ⟨_, rfl, q D ns _ (s2.trans s3) gDH hD hlen hnd⟩
     · refine ⟨_, rfl, _, _, rfl, rfl, (by show (0 : Int) < 8; decide), _, _, rfl, rfl, ?_⟩
       refine ⟨_, rfl, _, _, rfl, rfl, ⟨by decide, by decide⟩, _, rfl, _, _, rfl, rfl, (by show (0 : Int) < 1 + c % 8; omega), ?_⟩
       obtain ⟨lg, hlg, hlg1⟩ : ∃ lg : Nat, 1 + c % 8 = (lg : Int) ∧ 1 ≤ lg ∧ lg ≤ 8 := ⟨(1 + c % 8).toNat, by omega, by omega, by omega⟩
       rw [hlg]
       obtain ⟨at', hat, hat1⟩ : ∃ a : Nat, c / 8 % (lg : Int) = (a : Int) ∧ a < lg := ⟨(c / 8 % (lg : Int)).toNat, by have := Int.emod_nonneg (c / 8) (show (lg : Int) ≠ 0 by omega); omega, by have := Int.emod_lt_of_pos (c / 8) (show 0 < (lg : Int) by omega); have := Int.emod_nonneg (c / 8) (show (lg : Int) ≠ 0 by omega); omega⟩
       show gName 7 (V.int (c / 8 % (lg : Int))) _ _ _
       rw [hat]
       refine ⟨(by show 6 ≤ sizeLine; decide), fun st gst => ?_⟩
       have s3 : Same H2 (upd H2 st (.lst [.int 1, .int 5, .int 7, .int 11, .int 17, .int 25])) := (Same.refl H2).new gst
       refine ⟨_, rfl, c, 9, 65521, rfl, by decide, by decide, by decide, _, _, rfl, rfl, (by show (0 : Int) < 6; decide), st, _, _, _, rfl, rfl, SqL.of upd_same, atI_map V.int stepL 0 (by omega) (by show mixM c 9 65521 % 6 < 6; omega), ?_⟩
       generalize upd H2 st (.lst [.int 1, .int 5, .int 7, .int 11, .int 17, .int 25]) = H3 at s3 ⊢
       refine ⟨(by show 0 ≤ sizeLine; decide), fun D gD => ?_⟩
       have s4 : Same H2 (upd H3 D (.lst [])) := s3.new gD
       have gD2 : H2 D = none := s3.free gD
       have gDH : H D = none := s2.free gD2
       refine ⟨_, rfl, _, rfl, by omega, by omega, for_range (fun i σ H5 => ∃ v9 v10 : Option V, σ = [some (.int c), some (.int n), some (.str lets), some (.str sg36), some (.ref B), some (.ref D), some (.int (lg : Int)), some (.int (at' : Int)), some (.int (stepM c)), v9, v10] ∧ Same H2 H5 ∧ H5 D = some (.lst (((List.range i).map fun k => nmA (baseN c 8) at' lg (sgn c at' k)).map V.str)))
         ⟨none, none, ?_, s4, upd_same⟩ ?_ ?_⟩
       · rw [← sg36_eq, ← hlg]; rfl
       · rintro i σ H5 hi ⟨v9, v10, rfl, s5, hD⟩
         have hst := stepM_in c
         refine ⟨_, rfl, _, rfl, _, _, rfl, rfl, ⟨by decide, by decide⟩, _, rfl, _, rfl, _, _, rfl, rfl, .inl ⟨by omega, by omega⟩, _, _, rfl, rfl, _, _, rfl, rfl, (by show (0 : Int) < 26; decide), lets, _, _, rfl, rfl, (by decide +kernel), atI_getD _ 0 (by omega) (by rw [lets_len]; omega), ?_⟩
         have hb1 : ((baseN c 8).take at').length ≤ 8 := by rw [List.length_take, baseN_len]; omega
         have hb2 : (((baseN c 8).drop (at' + 1)).take (lg - (at' + 1))).length ≤ 8 := by rw [List.length_take, List.length_drop, baseN_len]; omega
         rw [Int.zero_add]
         refine ⟨_, rfl, _, _, rfl, rfl, _, rfl, ?_⟩
         refine ite2 (fun hpos => ?_) (fun hpos => ?_)
         · have hpos' : 0 < at' := by have := of_decide_eq_true hpos; omega
           refine ⟨_, rfl, _, rfl, _, _, rfl, rfl, ⟨by decide, by decide⟩, _, rfl, _, rfl, _, _, rfl, rfl, .inl ⟨by omega, by omega⟩, _, _, rfl, rfl, _, _, rfl, rfl, (by show (0 : Int) < 36; decide), sg36, _, _, rfl, rfl, (by decide +kernel), atI_getD _ 0 (by omega) (by rw [sg36_len]; omega), ?_⟩
           refine ⟨_, rfl, .inl ⟨rfl, _, SqL.of hD⟩, rfl, _, rfl, _, rfl, _, rfl, B, _, rfl, SqL.of (s5 _ _ gB'), fun p gp => ?_⟩
           rw [cut_take (by rw [chs_len, baseN_len]; omega), chs_take]
           have s6 : Same H2 (upd H5 p (.lst (chs ((baseN c 8).take at')))) := s5.new gp
           refine ⟨_, p, ((baseN c 8).take at').map ch, rfl, rfl, .inr (SqL.of upd_same), (by decide +kernel), (by rw [ch_sum, List.length_map]; omega), ?_⟩
           rw [join0S]
           refine ⟨_, rfl, lS ((baseN c 8).take at'), ch (sgAt ((c / 64 + (i : Int) * stepM c) % 36)), rfl, rfl, (by rw [lS_len]; show _ + 1 ≤ sizeLine; exact Nat.le_of_lt (small1000 (by omega))), ?_⟩
           refine ⟨rfl, _, rfl, _, rfl, _, _, rfl, rfl, _, rfl, _, rfl, _, rfl, B, _, rfl, SqL.of (s6 _ _ gB'), fun p2 gp2 => ?_⟩
           rw [show ((at' : Int) + 1) = ((at' + 1 : Nat) : Int) by omega, cut_mid _ _ _ (by omega) (by rw [chs_len, baseN_len]; omega), chs_drop, chs_take]
           have s7 := s6.new (o := .lst (chs (((baseN c 8).drop (at' + 1)).take (lg - (at' + 1))))) gp2
           refine ⟨_, p2, (((baseN c 8).drop (at' + 1)).take (lg - (at' + 1))).map ch, rfl, rfl, .inr (SqL.of upd_same), (by decide +kernel), (by rw [ch_sum, List.length_map]; omega), ?_⟩
           rw [join0S]
           refine ⟨lS ((baseN c 8).take at') ++ ch (sgAt ((c / 64 + (i : Int) * stepM c) % 36)), lS (((baseN c 8).drop (at' + 1)).take (lg - (at' + 1))), rfl, rfl, (by rw [Str.length_append, lS_len, lS_len]; show _ + 1 + _ ≤ sizeLine; exact Nat.le_of_lt (small1000 (by omega))), ?_⟩
           refine ⟨D, _, _, rfl, rfl, upd_keep (upd_keep hD gp) gp2, small1000 (by rw [List.length_map, List.length_map, List.length_range]; omega), ?_⟩
           refine ⟨_, _, rfl, s7.put gD2, ?_⟩
           rw [upd_same, range_map_succ, List.map_append]
           have e : lS ((baseN c 8).take at') ++ ch (sgAt ((c / 64 + (i : Int) * stepM c) % 36)) ++ lS (((baseN c 8).drop (at' + 1)).take (lg - (at' + 1))) = nmA (baseN c 8) at' lg (sgn c at' i) := by
             unfold nmA sgn
             rw [if_pos hpos', ch_lS, lS_app, lS_app]
           rw [e]
           rfl
         · have hpos' : ¬ 0 < at' := fun z => hpos (decide_eq_true (by omega))
           refine ⟨_, rfl, .inl ⟨rfl, _, SqL.of hD⟩, rfl, _, rfl, _, rfl, _, rfl, B, _, rfl, SqL.of (s5 _ _ gB'), fun p gp => ?_⟩
           rw [cut_take (by rw [chs_len, baseN_len]; omega), chs_take]
           have s6 : Same H2 (upd H5 p (.lst (chs ((baseN c 8).take at')))) := s5.new gp
           refine ⟨_, p, ((baseN c 8).take at').map ch, rfl, rfl, .inr (SqL.of upd_same), (by decide +kernel), (by rw [ch_sum, List.length_map]; omega), ?_⟩
           rw [join0S]
           refine ⟨_, rfl, lS ((baseN c 8).take at'), ch (letAt ((c / 64 + (i : Int) * stepM c) % 26)), rfl, rfl, (by rw [lS_len]; show _ + 1 ≤ sizeLine; exact Nat.le_of_lt (small1000 (by omega))), ?_⟩
           refine ⟨rfl, _, rfl, _, rfl, _, _, rfl, rfl, _, rfl, _, rfl, _, rfl, B, _, rfl, SqL.of (s6 _ _ gB'), fun p2 gp2 => ?_⟩
           rw [show ((at' : Int) + 1) = ((at' + 1 : Nat) : Int) by omega, cut_mid _ _ _ (by omega) (by rw [chs_len, baseN_len]; omega), chs_drop, chs_take]
           have s7 := s6.new (o := .lst (chs (((baseN c 8).drop (at' + 1)).take (lg - (at' + 1))))) gp2
           refine ⟨_, p2, (((baseN c 8).drop (at' + 1)).take (lg - (at' + 1))).map ch, rfl, rfl, .inr (SqL.of upd_same), (by decide +kernel), (by rw [ch_sum, List.length_map]; omega), ?_⟩
           rw [join0S]
           refine ⟨lS ((baseN c 8).take at') ++ ch (letAt ((c / 64 + (i : Int) * stepM c) % 26)), lS (((baseN c 8).drop (at' + 1)).take (lg - (at' + 1))), rfl, rfl, (by rw [Str.length_append, lS_len, lS_len]; show _ + 1 + _ ≤ sizeLine; exact Nat.le_of_lt (small1000 (by omega))), ?_⟩
           refine ⟨D, _, _, rfl, rfl, upd_keep (upd_keep hD gp) gp2, small1000 (by rw [List.length_map, List.length_map, List.length_range]; omega), ?_⟩
           refine ⟨_, _, rfl, s7.put gD2, ?_⟩
           rw [upd_same, range_map_succ, List.map_append]
           have e : lS ((baseN c 8).take at') ++ ch (letAt ((c / 64 + (i : Int) * stepM c) % 26)) ++ lS (((baseN c 8).drop (at' + 1)).take (lg - (at' + 1))) = nmA (baseN c 8) at' lg (sgn c at' i) := by
             unfold nmA sgn
             rw [if_neg hpos', ch_lS, lS_app, lS_app]
           rw [e]
           rfl
       · rintro σ H5 ⟨v9, v10, rfl, s5, hD⟩
         have hnd : ((List.range n.toNat).map fun k => nmA (baseN c 8) at' lg (sgn c at' k)).Nodup := nodup_range_map fun k l hk hl e => sgn_inj (by omega) (by omega) (nmA_inj e)
         have hlen : ((List.range n.toNat).map fun k => nmA (baseN c 8) at' lg (sgn c at' k)).length = n.toNat := by simp
         generalize ((List.range n.toNat).map fun k => nmA (baseN c 8) at' lg (sgn c at' k)) = ns at hnd hlen hD
         refine ⟨_, rfl, _, _, rfl, rfl, ⟨by decide, by decide⟩, _, _, rfl, rfl, (by show (0 : Int) < 2; decide), rfl, _, rfl, ?_⟩
         refine ite2I (fun _ => ?_) (fun _ => ?_)
         · refine ⟨_, rfl, .inl ⟨rfl, _, SqL.of hD⟩, D, _, rfl, rfl, hD, ?_⟩
           refine ⟨_, rfl, q D ns.reverse _ ((s2.trans s5).put gDH) gDH (by rw [upd_same, List.map_reverse]) (by rw [List.length_reverse, hlen]) (nodup_rev hnd)⟩
         · exact ⟨_, rfl, q D ns _ (s2.trans s5) gDH hD hlen hnd⟩
theorem to_g {X R : TS} {D : Ends} {r : VK} {b k : L2.St → Hp → Prop} {i : Nat} {v : V} {σ : L2.St} {H : Hp} (h : tSeq X R D (σ.set i (some v)) H) : gName i v σ H (Ends.nx ⟨tSeq X R D, r, b, k⟩) := h
theorem to_n {X R : TS} {D : Ends} {r : VK} {b k : L2.St → Hp → Prop} {σ : L2.St} {H : Hp} (h : tSeq X R D σ H) : tNext ⟨tSeq X R D, r, b, k⟩ σ H := h
noncomputable def spOther : Sp := fun vs H Q _ => ∃ (i n m d : Int), vs = [.int i, .int n, .int m, .int d] ∧ 0 ≤ i ∧ i < n ∧ n ≤ 24 ∧ ∀ j : Int, 0 ≤ j → j < n → Q (.int j) H
theorem ok_other (T : Txt K mg) : L2.Cl P w K mg base 1 "_law_other" ["_law_here", "_law_many", "_law_mix", "_law_mode"] spOther := by
 refine Cl.of T.d_law_other sc_law_other (fun vs H Q E h => ?_) (fun _ _ _ _ _ _ us hl => by obtain ⟨a, b, c, d, rfl⟩ := len4 hl; rfl) (fun f cdv A outer s H vs Q E hr h => ?_)
 · obtain ⟨i, n, m, d, rfl, _⟩ := h
   rfl
 · obtain ⟨i, n, m, d, rfl, hi, hin, hn, q⟩ := h
   refine ⟨_, (pss_cons (ps_if (PW.pt (pw_and (pt_cmpR op_gt (pv 1) pe_int (nomark _)) (pw_and1 (PW.pt (pw_or (pt_cmpR op_eq (pe_op op_mod (pv 3) pe_int) pe_int (nomark _)) (pw_or1 (PW.pt (pw_and (pt_cmpR op_eq (pe_op op_mod (pv 3) pe_int) pe_int (nomark _)) (pw_and1 (pt_cmpR op_eq (pe_op op_mod (pv 2) pe_int) pe_int (nomark _)))))))))))
       (pss_one (ps_ret (pe_op op_mod (pe_op op_add (pe_op op_add (pv 0) pe_int) (pe_op op_mod (pe_op op_fdiv (pv 2) pe_int) (pe_op op_sub (pv 1) pe_int))) (pv 1)))) pss_nil)
     (pss_cons (ps_if (PW.pt (pw_and (pt_cmpR op_eq (pe_op op_fdiv (pv 3) pe_int) pe_int (nomark _)) (pw_and1 (pt_cmpR op_lt (pe_op op_add (pv 0) pe_int) (pv 1) (nomark _)))))
       (pss_one (ps_ret (pe_op op_add (pe_op op_add (pv 0) pe_int) (pe_op op_mod (pe_op op_fdiv (pv 2) pe_int) (pe_op op_sub (pe_op op_sub (pv 1) pe_int) (pv 0)))))) pss_nil)
     (pss_cons (ps_if (PW.pt (pw_and (pt_cmpR op_eq (pe_op op_fdiv (pv 3) pe_int) pe_int (nomark _)) (pw_and1 (pt_cmpR op_gt (pv 0) pe_int (nomark _)))))
       (pss_one (ps_ret (pe_op op_mod (pe_op op_fdiv (pv 2) pe_int) (pv 0)))) pss_nil)
     (pss_one (ps_ret (pv 0)))))), ?_⟩
   refine s_if_p (a := decide (1 < n) && (decide (V.int (d % 3) = V.int 0) || (decide (V.int (d % 3) = V.int 1) && decide (V.int (m % 5) = V.int 0)))) ?_ ?_
   · exact tand_pure (fun Q' h => ⟨_, rfl, _, _, rfl, rfl, _, rfl, h⟩) (tor_pure (fun Q' h => ⟨_, rfl, _, _, rfl, rfl, (by show (0 : Int) < 3; decide), rfl, _, rfl, h⟩) (tand_pure (fun Q' h => ⟨_, rfl, _, _, rfl, rfl, (by show (0 : Int) < 3; decide), rfl, _, rfl, h⟩) (fun Q' h => ⟨_, rfl, _, _, rfl, rfl, (by show (0 : Int) < 5; decide), rfl, _, rfl, h⟩)))
   refine ite2 (fun hc => ?_) (fun _ => ?_)
   · have h1 : 1 < n := by
       rw [Bool.and_eq_true] at hc
       exact of_decide_eq_true hc.1
     exact ⟨_, rfl, _, _, rfl, rfl, _, rfl, _, _, rfl, rfl, ⟨by decide, by decide⟩, _, rfl, _, _, rfl, rfl, _, _, rfl, rfl, (by show (0 : Int) < n - 1; omega), _, _, rfl, rfl, _, rfl, _, _, rfl, rfl, (by show (0 : Int) < n; omega), q _ (Int.emod_nonneg _ (by omega)) (Int.emod_lt_of_pos _ (by omega))⟩
   refine to_n ?_
   refine s_if_p (a := decide (V.int (d / 3) = V.int 0) && decide (i + 1 < n)) ?_ ?_
   · exact tand_pure (fun Q' h => ⟨_, rfl, _, _, rfl, rfl, ⟨by decide, by decide⟩, rfl, _, rfl, h⟩) (fun Q' h => ⟨_, rfl, _, _, rfl, rfl, _, rfl, _, _, rfl, rfl, _, rfl, h⟩)
   refine ite2 (fun hc => ?_) (fun _ => ?_)
   · have h1 : i + 1 < n := by
       rw [Bool.and_eq_true] at hc
       exact of_decide_eq_true hc.2
     have h2 := Int.emod_nonneg (m / 5) (show n - 1 - i ≠ 0 by omega)
     have h3 := Int.emod_lt_of_pos (m / 5) (show 0 < n - 1 - i by omega)
     exact ⟨_, rfl, _, _, rfl, rfl, _, rfl, _, _, rfl, rfl, ⟨by decide, by decide⟩, _, rfl, _, _, rfl, rfl, _, rfl, _, _, rfl, rfl, _, _, rfl, rfl, (by show (0 : Int) < n - 1 - i; omega), _, _, rfl, rfl, q _ (by omega) (by omega)⟩
   refine to_n ?_
   refine s_if_p (a := decide (V.int (d / 3) = V.int 1) && decide (0 < i)) ?_ ?_
   · exact tand_pure (fun Q' h => ⟨_, rfl, _, _, rfl, rfl, ⟨by decide, by decide⟩, rfl, _, rfl, h⟩) (fun Q' h => ⟨_, rfl, _, _, rfl, rfl, _, rfl, h⟩)
   refine ite2 (fun hc => ?_) (fun _ => ?_)
   · have h1 : 0 < i := by
       rw [Bool.and_eq_true] at hc
       exact of_decide_eq_true hc.2
     have h2 := Int.emod_nonneg (m / 5) (show i ≠ 0 by omega)
     have h3 := Int.emod_lt_of_pos (m / 5) h1
     exact ⟨_, rfl, _, _, rfl, rfl, ⟨by decide, by decide⟩, _, rfl, _, _, rfl, rfl, h1, q _ (by omega) (by omega)⟩
   exact ⟨_, rfl, q _ hi hin⟩
theorem mod_lt {i : Int} {n : Nat} (h : 0 < n) : 0 ≤ i % (n : Int) ∧ i % (n : Int) < (n : Int) := ⟨Int.emod_nonneg _ (by omega), Int.emod_lt_of_pos _ (by omega)⟩
theorem log_small {n : Nat} (h : n < 100) : ((n : Int)).natAbs.log2 < 1920 := log_ok (by omega) (by omega)
theorem call_tuple_ofF {X : Cx} : CallR X (.type "tuple") (fun xs H Q => ∃ p ys, xs = [.ref p] ∧ SqL X.K H p ys ∧ ∀ l o, H l = none → o.dict = none → Q (.ref l) (upd H l (.frz o (.tup ys)))) := by
 intro pins s σ H xs us Q I r h
 obtain ⟨p, ys, rfl, hq, q⟩ := h
 obtain ⟨u, rfl, rx⟩ := vals1 r
 cases rx
 obtain ⟨its, r', pl, hz⟩ := I.list hq
 have hlen := r'.length
 refine call_tuple_list pl.isList (fun h' kp => ?_) (by simp only [List.size_toArray] <;> omega)
 have I1 : Inv X pins σ H { s with heap := h' } := I.kept (t' := s.toks) kp
 have I2 : Inv X pins σ (upd H h'.objs.size (.frz { cls := .type "tuple", data := .seq its.toArray } (.tup ys))) { s with heap := h'.push { cls := .type "tuple", data := .seq its.toArray } } :=
   I1.laid (t' := s.toks) (fun b o e => Heap.get?_push_of_some _ e) (Nat.le_refl _) ⟨Heap.get?_push_size _ rfl, hz, its, r', ⟨_, Heap.get?_push_size _ rfl, rfl, _, rfl⟩⟩
 exact ⟨.ref h'.objs.size, _, I2, rfl, q _ _ (I1.hok.fresh (Nat.le_refl _)) rfl⟩
structure PsFit (ps : List Pt) : Prop where
 nd : (ps.map (·.1)).Nodup
 hi : ps.length ≤ 24
 rows : ∀ pt ∈ ps, pt.2.length ≤ 40
theorem comp_new {K : PySem.W.Frag} {a : Addr} {xs : List V} {Qh : Hp → Prop} {v : Option V} {H : Hp} {D : Addr} (hl : H a = some (.lst xs)) (hD : H D = none) (hx : xs.length ≤ 900)
   (q : ∀ (as : List Addr) (H' : Hp), Same H H' → H' D = some (.lst (as.map V.ref)) → as.length = xs.length → as.Nodup → (∀ b ∈ as, H b = none ∧ b ≠ D ∧ H' b = some (.lst [])) → Qh H') :
   ∃ W : Nat → Nat → L2.St → Hp → Prop, (∃ m, W 0 m [v] (upd H D (.lst []))) ∧ ∀ i m σ2 H2, W i m σ2 H2 →
     ((Itl K a).stop i H2 ∧ Qh H2) ∨ ((Itl K a).go i H2 ∧ ∃ N : L2.St → Hp → Prop, (∀ σ' H', N σ' H' → ∃ m', m' < m ∧ W (i + 1) m' σ' H') ∧ ∀ x H3, (Itl K a).yld i H2 x H3 → gName 0 x σ2 H3 fun σ4 H4 => tNoTest σ4 H4 fun b H5 =>
       if b = true then tLst tNil σ4 H5 fun y H6 => ∃ ys, H6 D = some (.lst ys) ∧ ys.length < sizeLine ∧ N σ4 (upd H6 D (.lst (ys ++ [y]))) else N σ4 H5) := by
 refine comp_by xs.length (fun i σ H2 => ∃ (v0 : Option V) (as : List Addr), σ = [v0] ∧ Same H H2 ∧ H2 D = some (.lst (as.map V.ref)) ∧ as.length = i ∧ as.Nodup ∧ ∀ b ∈ as, H b = none ∧ b ≠ D ∧ H2 b = some (.lst [])) ⟨v, [], rfl, (Same.refl H).new hD, upd_same, rfl, List.nodup_nil, by simp⟩ ?_ ?_
 · rintro i σ H2 hi ⟨v0, as, rfl, s2, hD2, hlen, hnd, hall⟩
   refine ⟨⟨xs, xs[i], SqL.of (s2 _ _ hl), by simp⟩, ?_⟩
   rintro x H3 ⟨rfl, _⟩
   refine ntG ?_
   refine ⟨(by show 0 ≤ sizeLine; decide), fun p gp => ?_⟩
   have hpD : p ≠ D := fun z => by rw [z, hD2] at gp; cases gp
   have hD3 : upd H3 p (.lst []) D = some (.lst (as.map V.ref)) := upd_keep hD2 gp
   refine ⟨_, hD3, small1000 (by rw [List.length_map]; omega), _, as ++ [p], rfl, (s2.new gp).put hD, ?_, by rw [List.length_append, hlen]; rfl, ?_, ?_⟩
   · rw [upd_same, List.map_append]; rfl
   · rw [List.nodup_append]
     refine ⟨hnd, by simp, fun b hb c hc e => ?_⟩
     rw [List.mem_singleton.mp hc] at e
     have := (hall b hb).2.2
     rw [e, gp] at this
     cases this
   · intro b hb
     rcases List.mem_append.mp hb with z | z
     · obtain ⟨h1, h2, h3⟩ := hall b z
       exact ⟨h1, h2, by rw [upd_ne h2]; exact upd_keep h3 gp⟩
     · rw [List.mem_singleton.mp z]
       exact ⟨s2.free gp, hpD, by rw [upd_ne hpD, upd_same]⟩
 · rintro σ H2 ⟨v0, as, rfl, s2, hD2, hlen, hnd, hall⟩
   exact ⟨⟨xs, SqL.of (s2 _ _ hl), Nat.le_refl _⟩, q as H2 s2 hD2 hlen hnd hall⟩
noncomputable def InN (ns : List Str) : Rw → Prop
 | .bring p _ => p ∈ ns
 | .ask p _ => p ∈ ns
 | _ => True
noncomputable def NotTo (n : Str) : Rw → Prop
 | .bring p _ => p ≠ n
 | _ => True
noncomputable def InS (ns : List Str) (n : Str) (r : Rw) : Prop := InN ns r ∧ NotTo n r
theorem nd_inj {α : Type} {l : List α} (h : l.Nodup) {i j : Nat} (hi : i < l.length) (hj : j < l.length) (e : l[i] = l[j]) : i = j := by
 have hp := List.pairwise_iff_getElem.mp h
 rcases Nat.lt_trichotomy i j with z | z | z
 · exact absurd e (hp i j hi hj z)
 · exact z
 · exact absurd e.symm (hp j i hj hi z)
theorem nd_at {α : Type} {l : List α} (h : l.Nodup) {i j : Nat} {x : α} (hi : l[i]? = some x) (hj : l[j]? = some x) : i = j := by
 obtain ⟨a, ea⟩ := List.getElem?_eq_some_iff.mp hi
 obtain ⟨b, eb⟩ := List.getElem?_eq_some_iff.mp hj
 exact nd_inj h a b (ea.trans eb.symm)
theorem at_refI {l : List Addr} {i : Int} {n : Nat} (hn : l.length = n) (h0 : 0 ≤ i) (h1 : i < (n : Int)) : ∃ b, l[i.toNat]? = some b ∧ atI (l.map V.ref) i = some (.ref b) := by
 have hl : i.toNat < l.length := by omega
 refine ⟨l[i.toNat], List.getElem?_eq_getElem hl, ?_⟩
 have e : i = ((i.toNat : Nat) : Int) := by omega
 conv => lhs; rw [e]
 exact atI_nat (by rw [List.getElem?_map, List.getElem?_eq_getElem hl]; rfl)
theorem inV_strs (x : Str) : ∀ l : List Str, inV (.str x) (l.map V.str) = decide (x ∈ l)
 | [] => by simp [inV]
 | a :: r => by
   have ih := inV_strs x r
   unfold inV at ih ⊢
   rw [List.map_cons, List.any_cons, ih]
   by_cases e : a = x
   · subst e; simp [eqV]
   · have h2 : ¬ x = a := fun z => e z.symm
     simp [eqV, e, h2]
theorem strs_flat : ∀ l : List Str, (l.map V.str).all flatV = true
 | [] => rfl
 | a :: r => by rw [List.map_cons, List.all_cons, strs_flat r]; rfl
theorem g_if_any {t : TT} {te : TE} {R : TS} {D : Ends} {r : VK} {b k : L2.St → Hp → Prop} {i : Nat} {v : V} {σ : L2.St} {H : Hp} {Pv : V → Prop} (ht : ∀ Q : Bool → Hp → Prop, (∀ a, Q a H) → t (σ.set i (some v)) H Q) (hA : ∀ Q : VK, (∀ x, Pv x → Q x H) → te (σ.set i (some v)) H Q) (hv : Pv v) (h : ∀ y, Pv y → R D (σ.set i (some y)) H) : gName i v σ H (Ends.nx ⟨tSeq (tIfS t (tAsg te (gName i)) tNext) R D, r, b, k⟩) := by
 refine ht _ fun a => ?_
 cases a with
 | true =>
   refine iteT (hA _ fun x hx => ?_)
   show R D ((σ.set i (some v)).set i (some x)) H
   rw [List.set_set]
   exact h x hx
 | false => exact iteF (h v hv)
theorem nodup_lenG {α : Type} [DecidableEq α] : ∀ (l N : List α), l.Nodup → (∀ x ∈ l, x ∈ N) → l.length ≤ N.length
 | [], N, _, _ => Nat.zero_le _
 | a :: r, N, hn, hs => by
   rw [List.nodup_cons] at hn
   have ha : a ∈ N := hs a List.mem_cons_self
   have h1 := nodup_lenG r (N.erase a) hn.2 fun x hx => (List.mem_erase_of_ne (fun z => hn.1 (by rw [← z]; exact hx))).mpr (hs x (List.mem_cons_of_mem _ hx))
   rw [List.length_erase_of_mem ha] at h1
   have : 0 < N.length := List.length_pos_of_mem ha
   simp only [List.length_cons]; omega
theorem setD_val (l : List Str) (x : Str) : valV (setD l) (Sum.inr x) = if x ∈ l then some (.bl true) else none := by
 induction l with
 | nil => rfl
 | cons a r ih =>
   have e : setD (a :: r) = (Sum.inr a, .bl true) :: setD r := rfl
   rw [e]
   by_cases h : a = x
   · subst h
     rw [valV_pos rfl, if_pos List.mem_cons_self]
   · rw [valV_neg (fun z => h (Sum.inr.inj z)), ih]
     by_cases hm : x ∈ r
     · rw [if_pos hm, if_pos (List.mem_cons_of_mem _ hm)]
     · rw [if_neg hm, if_neg (fun z => by rcases List.mem_cons.mp z with y | y; exact h y.symm; exact hm y)]
theorem setD_some (l : List Str) (x : Str) : (valV (setD l) (Sum.inr x)).isSome = decide (x ∈ l) := by
 rw [setD_val]
 by_cases h : x ∈ l
 · rw [if_pos h, decide_eq_true h]; rfl
 · rw [if_neg h, decide_eq_false h]; rfl
theorem addN_mem (l : List Str) (x y : Str) : y ∈ addN l x ↔ y ∈ l ∨ y = x := by
 unfold addN
 by_cases h : x ∈ l
 · rw [if_pos h]
   exact ⟨.inl, fun z => by rcases z with z | z; exact z; rw [z]; exact h⟩
 · rw [if_neg h, List.mem_append, List.mem_singleton]
theorem g_while {c : TT} {tb R : TS} {D : Ends} {N : L2.St → Hp → Prop} {i : Nat} {v : V} {σ : L2.St} {H : Hp} (e : N = tSeq (tWhile c tb) R D) (h : tWhile c tb { D with nx := R D } (σ.set i (some v)) H) : gName i v σ H N := by
 show N (σ.set i (some v)) H
 rw [e]
 exact h
theorem addN_nodup {l : List Str} (h : l.Nodup) (x : Str) : (addN l x).Nodup := by
 unfold addN
 by_cases hx : x ∈ l
 · rw [if_pos hx]; exact h
 · rw [if_neg hx]
   refine List.nodup_append.mpr ⟨h, by simp, fun a ha b hb z => ?_⟩
   rw [List.mem_singleton.mp hb] at z
   exact hx (by rw [← z]; exact ha)
theorem mem_fold (k m : Str) : ∀ (rs : List Rw) (l : List Str), m ∈ rs.foldl (stepN k) l ↔ m ∈ l ∨ ∃ r ∈ rs, namesIt k r = some m
 | [], l => by simp
 | r :: rs, l => by
   rw [List.foldl_cons, mem_fold k m rs]
   have h : m ∈ stepN k l r ↔ m ∈ l ∨ namesIt k r = some m := by
     unfold stepN
     cases e : namesIt k r with
     | none => simp
     | some x =>
       show m ∈ addN l x ↔ _
       rw [addN_mem]
       simp only [Option.some.injEq]
       exact ⟨fun z => by rcases z with z | z; exact .inl z; exact .inr z.symm, fun z => by rcases z with z | z; exact .inl z; exact .inr z.symm⟩
   rw [h]
   simp only [List.mem_cons, exists_eq_or_imp, or_assoc]
theorem mem_namedOf (k m : Str) (rs : List Rw) : m ∈ namedOf k rs ↔ ∃ r ∈ rs, namesIt k r = some m := by
 unfold namedOf
 rw [mem_fold]
 simp
noncomputable def rowsOf (ps : List Pt) (n : Str) : List Rw := ((ps.find? fun p => decide (p.1 = n)).map (·.2)).getD []
theorem rowsOf_eq : ∀ {ps : List Pt} {n : Str} {rs : List Rw}, (ps.map (·.1)).Nodup → (n, rs) ∈ ps → rowsOf ps n = rs
 | [], n, rs, _, h => by simp at h
 | p :: ps, n, rs, hn, h => by
   rw [List.map_cons, List.nodup_cons] at hn
   rcases List.mem_cons.mp h with e | e
   · unfold rowsOf
     rw [List.find?_cons_of_pos (by rw [← e]; simp), ← e]; rfl
   · have hne : ¬ p.1 = n := fun z => hn.1 (by rw [z]; exact List.mem_map_of_mem (f := (·.1)) e)
     have := rowsOf_eq hn.2 e
     unfold rowsOf at this ⊢
     rw [List.find?_cons_of_neg (by simpa using hne)]
     exact this
noncomputable def k1 (ps : List Pt) (n : Str) : List Str := namedOf "bring" (rowsOf ps n)
noncomputable def ClosedB (ps : List Pt) : Prop := ∀ n ∈ ps.map (·.1), ∀ m ∈ k1 ps n, m ∈ ps.map (·.1)
theorem part_of {ps : List Pt} {n : Str} (h : n ∈ ps.map (·.1)) : ∃ rs, (n, rs) ∈ ps := by
 obtain ⟨p, hp, e⟩ := List.mem_map.mp h
 exact ⟨p.2, by rw [← e]; exact hp⟩
theorem nodup_len : ∀ (l N : List Str), l.Nodup → (∀ x ∈ l, x ∈ N) → l.length ≤ N.length
 | [], N, _, _ => Nat.zero_le _
 | a :: r, N, hn, hs => by
   rw [List.nodup_cons] at hn
   have ha : a ∈ N := hs a List.mem_cons_self
   have h1 := nodup_len r (N.erase a) hn.2 fun x hx => (List.mem_erase_of_ne (fun z => hn.1 (by rw [← z]; exact hx))).mpr (hs x (List.mem_cons_of_mem _ hx))
   rw [List.length_erase_of_mem ha] at h1
   have : 0 < N.length := List.length_pos_of_mem ha
   simp only [List.length_cons]; omega
inductive Rch (E : Str → Str → Prop) (S : List Str) : Str → Prop where
 | base {n : Str} : n ∈ S → Rch E S n
 | step {n m : Str} : Rch E S n → E n m → Rch E S m
theorem Rch.of {E : Str → Str → Prop} {S : List Str} {l : List Str} (h1 : ∀ n ∈ S, n ∈ l) (h2 : ∀ n ∈ l, ∀ m, E n m → m ∈ l) {n : Str} (h : Rch E S n) : n ∈ l := by
 induction h with
 | base h => exact h1 _ h
 | step _ e ih => exact h2 _ ih _ e
theorem foldP_snoc (qs : List (Str × V)) (q : Str × V) : foldP (qs ++ [q]) [] = putK (foldP qs []) (Sum.inr q.1) q.2 := by
 unfold foldP; rw [List.foldl_append]; rfl
theorem foldP_len : ∀ (qs : List (Str × V)) (m : List (Key × V)), (foldP qs m).length ≤ m.length + qs.length
 | [], m => by simp [foldP]
 | q :: r, m => by
   have h := foldP_len r (putK m (Sum.inr q.1) q.2)
   have h2 : (putK m (Sum.inr q.1) q.2).length ≤ m.length + 1 := by
     unfold putK
     split
     · rw [List.length_map]; omega
     · rw [List.length_append]; simp
   show (foldP r (putK m (Sum.inr q.1) q.2)).length ≤ _
   simp only [List.length_cons]; omega
theorem DGet.kr {H : Hp} {a : Addr} {kvs : List (Key × V)} {k : Key} (e : Rd H a (.dK kvs)) : DGet H a (kV k) (valV kvs k) := .inl ⟨kvs, k, e, rfl, rfl⟩
theorem Rd.same {H H' : Hp} {a : Addr} {u : HO} (s : Same H H') (h : Rd H a u) : Rd H' a u := by
 rcases h with h | ⟨o, h⟩
 · exact .inl (s _ _ h)
 · exact .inr ⟨o, s _ _ h⟩
noncomputable def spSpread : Sp := fun vs H Q _ => ∃ (d t : Addr) (kvs : List (Key × V)) (S N : List Str) (g : Str → List Str), vs = [.ref d, .ref t] ∧ Rd H d (.dK kvs) ∧ H t = some (.tup (S.map V.str)) ∧ (∀ n ∈ N, ∃ u, valV kvs (Sum.inr n) = some (.ref u) ∧ (H u = some (.lst ((g n).map V.str)) ∨ H u = some (.tup ((g n).map V.str)))) ∧ (∀ n ∈ S, n ∈ N) ∧ (∀ n ∈ N, ∀ m ∈ g n, m ∈ N) ∧ (∀ n ∈ N, (g n).length ≤ 2000) ∧ S.length ≤ 100 ∧ N.length ≤ 50 ∧
 ∀ (f : Addr) (l : List Str) (H' : Hp), Same H H' → H' f = some (.dK (setD l)) → (∀ n, n ∈ l ↔ Rch (fun a b => b ∈ g a) S n) → Q (.ref f) H'
noncomputable def muS (f wl : Addr) (H : Hp) : Nat := match H f, H wl with
 | some (.dK kvs), some (.lst W) => (50 - kvs.length) * 2001 + W.length
 | _, _ => 0
theorem muS_eq {f wl : Addr} {H : Hp} {l W : List Str} (h1 : H f = some (.dK (setD l))) (h2 : H wl = some (.lst (W.map V.str))) : muS f wl H = (50 - l.length) * 2001 + W.length := by
 unfold muS
 rw [h1, h2]
 simp only [setD_len, List.length_map]
theorem strs_drop (W : List Str) : (W.map V.str).dropLast = W.dropLast.map V.str := by
 rw [List.map_dropLast]
theorem ok_spread (T : Txt K mg) : L2.Cl P w K mg base 1 "spread" ["onward", "some"] spSpread := by
 refine Cl.of T.d_spread sc_spread (fun vs H Q E h => ?_) (fun _ _ _ _ _ _ us hl => by obtain ⟨a, b, rfl⟩ := len2 hl; rfl) (fun fa cdv A outer s H vs Q E hr h => ?_)
 · obtain ⟨d, t, kvs, S, N, g, rfl, _⟩ := h
   rfl
 · obtain ⟨d, t, kvs, S, N, g, rfl, hd, ht, hg, hSN, hgN, hg100, hS100, hN, q⟩ := h
   have hu := hu_of hr
   refine ⟨_, (pss_cons (ps_set (i := 2) sc_spread.nd rfl (Or.inl rfl) pe_dnewK)
     (pss_cons (ps_set (i := 3) sc_spread.nd rfl (Or.inl rfl) (pe_callTy call_list_of (by rfl) T.n_list boot_list (pa_cons (pv 1) pa_nil)))
     (pss_cons (ps_while PassesOwn.never (pt_truth (pv 3) (fun _ => rfl))
       (pss_cons (ps_set (i := 4) sc_spread.nd rfl (Or.inl rfl) (pe_bm0 PySem.F.plainAttrs_list PySem.F.slot_list_pop PySem.F.type_list_pop mt_pop (pv 3)))
       (pss_one (ps_if (pt_cmp (pc_dnotin hu (pv 4) (pv 2)))
         (pss_cons (ps_dput hu (pv 2) (pv 4) pe_bl rfl)
         (pss_one (ps_expr (pe_bm PySem.F.plainAttrs_list PySem.F.slot_list_extend PySem.F.type_list_extend mt_extend (pv 3) (pa_cons (pe_callTy call_list_of (by rfl) T.n_list boot_list (pa_cons (pe_dget hu (pv 0) (pv 4) (fun _ _ => rfl)) pa_nil)) pa_nil))))) pss_nil))))
     (pss_one (ps_ret (pv 2)))))), ?_⟩
   intro f gf
   have s1 : Same H (upd H f (.dK [])) := (Same.refl H).new gf
   refine ⟨_, rfl, t, _, rfl, .inr (SqT.of (s1 _ _ ht)), fun wl gw => ?_⟩
   have s2 : Same H (upd (upd H f (.dK [])) wl (.lst (S.map V.str))) := s1.new gw
   have hfw : f ≠ wl := ne_of_none (upd_same (H := H) (a := f) (o := .dK [])) gw
   have gwH : H wl = none := s1.free gw
   apply g_while
   · with_reducible_and_instances rfl
   refine while_by (fun σ H2 => ∃ (l W : List Str) (v4 : Option V), σ = [some (.ref d), some (.ref t), some (.ref f), some (.ref wl), v4] ∧ Same H H2 ∧ H2 f = some (.dK (setD l)) ∧ H2 wl = some (.lst (W.map V.str)) ∧ l.Nodup ∧ (∀ n ∈ l, n ∈ N) ∧ (∀ n ∈ W, n ∈ N) ∧ (∀ n ∈ l, Rch (fun a b => b ∈ g a) S n) ∧ (∀ n ∈ W, Rch (fun a b => b ∈ g a) S n) ∧ (∀ n ∈ S, n ∈ l ∨ n ∈ W) ∧ (∀ n ∈ l, ∀ m ∈ g n, m ∈ l ∨ m ∈ W) ∧ W.length + (50 - l.length) * 2001 ≤ 100200) (fun _ H2 => muS f wl H2)
     ⟨[], S, none, rfl, s2, by rw [upd_ne hfw, upd_same]; rfl, upd_same, List.nodup_nil, fun n hn => by simp at hn, hSN, fun n hn => by simp at hn, fun n hn => .base hn, fun n hn => .inr hn, fun n hn => by simp at hn, by simp only [List.length_nil]; omega⟩ ?_ ?_
   · rintro σ H2 ⟨l, W, v4, rfl, s3, hf, hw, hnd, hlN, hWN, hlR, hWR, hSl, hcl, hbd⟩
     refine ⟨_, rfl, _, .inl ⟨_, SqL.of hw, rfl⟩, ?_⟩
     have hll := nodup_len l N hnd hlN
     cases hW : W.getLast? with
     | none =>
       have hWe : W = [] := List.getLast?_eq_none_iff.mp hW
       subst hWe
       refine iteF ?_
       refine ⟨_, rfl, q f l H2 s3 hf fun n => ⟨hlR n, fun hr' => ?_⟩⟩
       refine Rch.of (fun n hn => ?_) (fun n hn m hm => ?_) hr'
       · rcases hSl n hn with z | z
         · exact z
         · simp at z
       · rcases hcl n hn m hm with z | z
         · exact z
         · simp at z
     | some x =>
       have hne : W ≠ [] := fun z => by rw [z] at hW; simp at hW
       have hWd : W = W.dropLast ++ [x] := by
         obtain ⟨ys, hys⟩ := List.getLast?_eq_some_iff.mp hW
         rw [hys, List.dropLast_concat]
       have hxW : x ∈ W := by rw [hWd]; simp
       have hpos : 0 < W.length := List.length_pos_of_mem hxW
       rw [show (!(W.map V.str).isEmpty) = true by cases W with | nil => exact absurd rfl hne | cons _ _ => rfl]
       refine iteT ?_
       have hlast : (W.map V.str)[(W.map V.str).length - 1]? = some (.str x) := by
         rw [List.getElem?_map, List.length_map, ← List.getLast?_eq_getElem?, hW]; rfl
       refine ⟨_, rfl, .inl ⟨rfl, _, SqL.of hw⟩, wl, _, _, rfl, rfl, hw, hlast, ?_⟩
       rw [strs_drop]
       have s4 : Same H (upd H2 wl (.lst (W.dropLast.map V.str))) := s3.put gwH
       have hf4 : upd H2 wl (.lst (W.dropLast.map V.str)) f = some (.dK (setD l)) := by rw [upd_ne hfw]; exact hf
       have hw4 : upd H2 wl (.lst (W.dropLast.map V.str)) wl = some (.lst (W.dropLast.map V.str)) := upd_same
       have hmu := muS_eq hf hw
       generalize upd H2 wl (.lst (W.dropLast.map V.str)) = H4 at s4 hf4 hw4 ⊢
       have hdl : W.dropLast.length = W.length - 1 := List.length_dropLast
       have hmemW : ∀ n, n ∈ W ↔ n ∈ W.dropLast ∨ n = x := fun n => by
         conv => lhs; rw [hWd]
         rw [List.mem_append, List.mem_singleton]
       refine ⟨_, rfl, _, rfl, f, _, rfl, DGet.k (k := Sum.inr x) hf4, ?_⟩
       refine ⟨_, rfl, ?_⟩
       rw [setD_some]
       by_cases hx : x ∈ l
       · rw [decide_eq_true hx]
         refine iteF ?_
         refine ⟨⟨l, W.dropLast, _, rfl, s4, hf4, hw4, hnd, hlN, fun n hn => hWN n ((hmemW n).mpr (.inl hn)), hlR, fun n hn => hWR n ((hmemW n).mpr (.inl hn)), fun n hn => ?_, fun n hn m hm => ?_, by omega⟩, ?_⟩
         · rcases hSl n hn with z | z
           · exact .inl z
           · rcases (hmemW n).mp z with y | y
             · exact .inr y
             · rw [y]; exact .inl hx
         · rcases hcl n hn m hm with z | z
           · exact .inl z
           · rcases (hmemW m).mp z with y | y
             · exact .inr y
             · rw [y]; exact .inl hx
         · show muS f wl H4 < muS f wl H2
           rw [muS_eq hf4 hw4, hmu]
           omega
       · rw [decide_eq_false hx]
         refine iteT ?_
         have hlen1 : l.length ≤ 50 := by omega
         have hxN : x ∈ N := hWN x hxW
         have hadd : addN l x = l ++ [x] := by unfold addN; rw [if_neg hx]
         have hnd' : (addN l x).Nodup := addN_nodup hnd x
         have hlN' : ∀ n ∈ addN l x, n ∈ N := fun n hn => by
           rcases (addN_mem l x n).mp hn with z | z
           · exact hlN n z
           · rw [z]; exact hxN
         have hll' := nodup_len _ N hnd' hlN'
         rw [hadd, List.length_append, List.length_singleton] at hll'
         refine ⟨_, rfl, _, rfl, f, _, rfl, DPut.k (k := Sum.inr x) hf4 (small1000 (by rw [setD_len]; omega)), ?_⟩
         rw [setD_put]
         have s5 : Same H (upd H4 f (.dK (setD (addN l x)))) := s4.put gf
         have hf5 : upd H4 f (.dK (setD (addN l x))) f = some (.dK (setD (addN l x))) := upd_same
         have hw5 : upd H4 f (.dK (setD (addN l x))) wl = some (.lst (W.dropLast.map V.str)) := by rw [upd_ne hfw.symm]; exact hw4
         generalize upd H4 f (.dK (setD (addN l x))) = H5 at s5 hf5 hw5 ⊢
         obtain ⟨u, hvu, hut⟩ := hg x hxN
         have hvd : DGet H5 d (.str x) (some (.ref u)) := by
           have := DGet.kr (k := Sum.inr x) (Rd.same s5 hd)
           rw [hvu] at this
           exact this
         refine ⟨_, rfl, .inl ⟨rfl, _, SqL.of hw5⟩, _, rfl, _, rfl, d, _, rfl, hvd, u, _, rfl, (hut.imp (fun z => SqL.of (s5 _ _ z)) fun z => SqT.of (s5 _ _ z)), fun c gc => ?_⟩
         have hwc : wl ≠ c := fun z => by rw [z, gc] at hw5; cases hw5
         have hfc : f ≠ c := fun z => by rw [z, gc] at hf5; cases hf5
         have h100 := hg100 x hxN
         refine ⟨wl, c, _, _, rfl, rfl, upd_keep hw5 gc, upd_same, Nat.le_of_lt (by
           have : sizeLine = 16777216 := sizeLine_eq
           rw [List.length_map, List.length_map]; omega), ?_⟩
         rw [← List.map_append]
         have s6 : Same H (upd (upd H5 c (.lst ((g x).map V.str))) wl (.lst ((W.dropLast ++ g x).map V.str))) := (s5.new gc).put gwH
         have hf6 : upd (upd H5 c (.lst ((g x).map V.str))) wl (.lst ((W.dropLast ++ g x).map V.str)) f = some (.dK (setD (addN l x))) := by rw [upd_ne hfw, upd_ne hfc]; exact hf5
         refine ⟨⟨addN l x, W.dropLast ++ g x, _, rfl, s6, hf6, upd_same, hnd', hlN', fun n hn => ?_, fun n hn => ?_, fun n hn => ?_, fun n hn => ?_, fun n hn m hm => ?_, ?_⟩, ?_⟩
         · rcases List.mem_append.mp hn with z | z
           · exact hWN n ((hmemW n).mpr (.inl z))
           · exact hgN x hxN n z
         · rcases (addN_mem l x n).mp hn with z | z
           · exact hlR n z
           · rw [z]; exact hWR x hxW
         · rcases List.mem_append.mp hn with z | z
           · exact hWR n ((hmemW n).mpr (.inl z))
           · exact .step (hWR x hxW) z
         · rcases hSl n hn with z | z
           · exact .inl ((addN_mem l x n).mpr (.inl z))
           · rcases (hmemW n).mp z with y | y
             · exact .inr (List.mem_append_left _ y)
             · exact .inl ((addN_mem l x n).mpr (.inr y))
         · rcases (addN_mem l x n).mp hn with z | z
           · rcases hcl n z m hm with y | y
             · exact .inl ((addN_mem l x m).mpr (.inl y))
             · rcases (hmemW m).mp y with c' | c'
               · exact .inr (List.mem_append_left _ c')
               · exact .inl ((addN_mem l x m).mpr (.inr c'))
           · subst z
             exact .inr (List.mem_append_right _ hm)
         · rw [hadd, List.length_append, List.length_append, List.length_singleton]; omega
         · show muS f wl _ < muS f wl H2
           rw [muS_eq hf6 upd_same, hmu, hadd, List.length_append, List.length_append, List.length_singleton]
           omega
   · rintro σ H2 Q1 Q2 hQ ⟨v, e, b, hb, hq⟩
     exact ⟨v, e, b, hb, hQ _ _ hq⟩
theorem putK_fresh {κ : Type} [DecidableEq κ] {kvs : List (κ × V)} {k : κ} {v : V} (h : k ∉ kvs.map (·.1)) : putK kvs k v = kvs ++ [(k, v)] := by
 unfold putK
 rw [if_neg]
 intro z
 obtain ⟨p, hp, e⟩ := List.any_eq_true.mp z
 exact h (by rw [← of_decide_eq_true e]; exact List.mem_map_of_mem (f := (·.1)) hp)
theorem foldP_map : ∀ (qs : List (Str × V)) (m : List (Key × V)), (qs.map (·.1)).Nodup → (∀ q ∈ qs, Sum.inr q.1 ∉ m.map (·.1)) → foldP qs m = m ++ qs.map fun q => (Sum.inr q.1, q.2)
 | [], m, _, _ => by simp [foldP]
 | q :: r, m, hn, hd => by
   rw [List.map_cons, List.nodup_cons] at hn
   have e : foldP (q :: r) m = foldP r (putK m (Sum.inr q.1) q.2) := rfl
   rw [e, putK_fresh (hd q List.mem_cons_self), foldP_map r _ hn.2 fun p hp z => ?_, List.append_assoc]
   · rfl
   · rw [List.map_append] at z
     rcases List.mem_append.mp z with y | y
     · exact hd p (List.mem_cons_of_mem _ hp) y
     · have e2 : Sum.inr p.1 = (Sum.inr q.1 : Key) := List.mem_singleton.mp y
       exact hn.1 (by rw [← Sum.inr.inj e2]; exact List.mem_map_of_mem (f := (·.1)) hp)
theorem keys_fold {qs : List (Str × V)} (hn : (qs.map (·.1)).Nodup) : keysV (foldP qs []) = (qs.map (·.1)).map V.str := by
 rw [foldP_map qs [] hn fun q _ z => by simp at z]
 unfold keysV
 rw [List.nil_append, List.map_map, List.map_map]
 rfl
noncomputable def But (d : Addr) (H H' : Hp) : Prop := ∀ a o, a ≠ d → H a = some o → H' a = some o
theorem But.free {d : Addr} {H H' : Hp} (b : But d H H') {c : Addr} (hc : c ≠ d) (h : H' c = none) : H c = none := by
 cases e : H c with
 | none => rfl
 | some o => rw [b c o hc e] at h; cases h
theorem But.upd {d c : Addr} {H H' : Hp} {o : HO} (b : But d H H') (h : H c = none) : But d H (L2.upd H' c o) := fun a u ha e => by
 rw [upd_ne (fun z => by rw [z, h] at e; cases e)]
 exact b a u ha e
noncomputable def bkv (qs : List (Str × Addr)) : List (Key × V) := qs.map fun q => (Sum.inr q.1, V.ref q.2)
theorem bkv_snoc (qs : List (Str × Addr)) (q : Str × Addr) : bkv (qs ++ [q]) = bkv qs ++ [(Sum.inr q.1, .ref q.2)] := by unfold bkv; rw [List.map_append]; rfl
theorem bkv_val : ∀ {qs : List (Str × Addr)} {m : Str} {c : Addr}, (qs.map (·.1)).Nodup → (m, c) ∈ qs → valV (bkv qs) (Sum.inr m) = some (.ref c)
 | [], m, c, _, h => by simp at h
 | q :: r, m, c, hn, h => by
   rw [List.map_cons, List.nodup_cons] at hn
   have e : bkv (q :: r) = (Sum.inr q.1, V.ref q.2) :: bkv r := rfl
   rw [e]
   rcases List.mem_cons.mp h with z | z
   · rw [← z]
     exact valV_pos rfl
   · rw [valV_neg (fun y => hn.1 (by rw [Sum.inr.inj y]; exact List.mem_map_of_mem (f := (·.1)) z))]
     exact bkv_val hn.2 z
noncomputable def putL (L : Str → List Str) (m n : Str) : Str → List Str := fun z => if z = m then L m ++ [n] else L z
theorem putL_same (L : Str → List Str) (m n : Str) : putL L m n m = L m ++ [n] := by unfold putL; rw [if_pos rfl]
theorem putL_ne (L : Str → List Str) {m n z : Str} (h : ¬ z = m) : putL L m n z = L z := by unfold putL; rw [if_neg h]
noncomputable def spTurned : Sp := fun vs H Q _ => ∃ (d : Addr) (kvs : List (Key × V)) (N : List Str) (g : Str → List Str), vs = [.ref d] ∧ H d = some (.dK kvs) ∧ keysV kvs = N.map V.str ∧ N.Nodup ∧ N.length ≤ 24 ∧ (∀ n ∈ N, ∃ u, valV kvs (Sum.inr n) = some (.ref u) ∧ H u = some (.tup ((g n).map V.str))) ∧ (∀ n ∈ N, ∀ m ∈ g n, m ∈ N) ∧ (∀ n ∈ N, (g n).length ≤ 80) ∧
 ∀ (bk : Addr) (bv : List (Key × V)) (L : Str → List Str) (ob : Obj) (H' : Hp), But d H H' → H' d = some (.frz ob (.dK kvs)) → H' bk = some (.dK bv) → bk ≠ d → H bk = none → (∀ n ∈ N, ∃ u, valV bv (Sum.inr n) = some (.ref u) ∧ H' u = some (.lst ((L n).map V.str))) → (∀ n ∈ N, ∀ p, p ∈ L n ↔ p ∈ N ∧ n ∈ g p) → (∀ n ∈ N, (L n).length ≤ 2000) → Q (.ref bk) H'
theorem ok_turned (T : Txt K mg) : L2.Cl P w K mg base 1 "turned" ["onward"] spTurned := by
 refine Cl.of T.d_turned sc_turned (fun vs H Q E h => ?_) (fun _ _ _ _ _ _ us hl => by obtain ⟨a, rfl⟩ := len1 hl; rfl) (fun fa cdv A outer s H vs Q E hr h => ?_)
 · obtain ⟨d, kvs, N, g, rfl, _⟩ := h
   rfl
 · obtain ⟨d, kvs, N, g, rfl, hd, hkeys, hNn, hN, hg, hgN, hg80, q⟩ := h
   have hu := hu_of hr
   have hks : (keysV kvs).length = N.length := by rw [hkeys, List.length_map]
   refine ⟨_, (pss_cons (ps_set (i := 1) sc_turned.nd rfl (Or.inl rfl) pe_dnewK)
     (pss_cons (ps_for PassesOwn.never rfl (pi_dictK (pv 0)) (pg_name (i := 2) sc_turned.nd rfl (Or.inl rfl))
       (pss_one (ps_dput hu (pv 1) (pv 2) (pe_lst pa_nil) rfl)))
     (pss_cons (ps_for PassesOwn.never rfl (pi_dictK (pv 0)) (pg_name (i := 2) sc_turned.nd rfl (Or.inl rfl))
       (pss_one (ps_for PassesOwn.never rfl (pi_tup (pe_dget hu (pv 0) (pv 2) (fun _ _ => rfl))) (pg_name (i := 3) sc_turned.nd rfl (Or.inl rfl))
         (pss_one (ps_expr (pe_bm PySem.F.plainAttrs_list PySem.F.slot_list_append PySem.F.type_list_append mt_append (pe_dget hu (pv 1) (pv 3) (fun _ _ => rfl)) (pa_cons (pv 2) pa_nil)))))))
     (pss_one (ps_ret (pv 1)))))), ?_⟩
   intro bk gb
   have hbd : bk ≠ d := (ne_of_none hd gb).symm
   refine ⟨_, rfl, d, kvs, rfl, .inl ⟨by rw [upd_ne hbd.symm]; exact hd, fun ob => ?_⟩⟩
   have b0 : But d H (upd (upd H bk (.dK [])) d (.frz ob (.dK kvs))) := fun a o ha e => by
     rw [upd_ne ha]
     exact upd_keep e gb
   have hd0 : upd (upd H bk (.dK [])) d (.frz ob (.dK kvs)) d = some (.frz ob (.dK kvs)) := upd_same
   have hb0 : upd (upd H bk (.dK [])) d (.frz ob (.dK kvs)) bk = some (.dK []) := by rw [upd_ne hbd, upd_same]
   generalize upd (upd H bk (.dK [])) d (.frz ob (.dK kvs)) = H0 at b0 hd0 hb0 ⊢
   refine for_dict (d := d) (o := ob) (u := .dK kvs) (ks := keysV kvs) (fun i σ H2 => ∃ (qs : List (Str × Addr)) (v2 : Option V), σ = [some (.ref d), some (.ref bk), v2, none] ∧ But d H H2 ∧ H2 d = some (.frz ob (.dK kvs)) ∧ H2 bk = some (.dK (bkv qs)) ∧ qs.map (·.1) = N.take i ∧ (qs.map (·.2)).Nodup ∧ ∀ q ∈ qs, H q.2 = none ∧ q.2 ≠ d ∧ q.2 ≠ bk ∧ H2 q.2 = some (.lst []))
     ⟨[], none, rfl, b0, hd0, hb0, by rw [List.take_zero]; rfl, by simp, fun q hq => by simp at hq⟩ (fun i σ H2 _ ⟨_, _, _, _, h, _⟩ => h) ?_ ?_
   · rintro i y σ H2 hy ⟨qs, v2, rfl, b2, hd2, hb2, hqk, hqa, hqs⟩
     obtain ⟨n, hn, rfl⟩ : ∃ n, N[i]? = some n ∧ y = .str n := by
       rw [hkeys, List.getElem?_map] at hy
       cases e : N[i]? with
       | none => rw [e] at hy; cases hy
       | some n => rw [e] at hy; exact ⟨n, rfl, (Option.some.inj hy).symm⟩
     have hi : i < N.length := (List.getElem?_eq_some_iff.mp hn).1
     have hql : qs.length ≤ 24 := by
       have := congrArg List.length hqk
       rw [List.length_map, List.length_take] at this
       omega
     refine ⟨(by show 0 ≤ sizeLine; decide), fun c gc => ?_⟩
     have hcd : c ≠ d := (ne_of_none hd2 gc).symm
     have hcb : c ≠ bk := (ne_of_none hb2 gc).symm
     have hcH : H c = none := b2.free hcd gc
     have hb3 : upd H2 c (.lst []) bk = some (.dK (bkv qs)) := upd_keep hb2 gc
     refine ⟨_, rfl, _, rfl, bk, _, rfl, DPut.k (k := Sum.inr n) hb3 (small1000 (by unfold bkv; rw [List.length_map]; omega)), ?_⟩
     have hnew : Sum.inr n ∉ (bkv qs).map (·.1) := fun z => by
       unfold bkv at z
       rw [List.map_map] at z
       obtain ⟨q, hq, e⟩ := List.mem_map.mp z
       have e2 : q.1 = n := Sum.inr.inj e
       have h1 : n ∈ N.take i := by rw [← hqk, ← e2]; exact List.mem_map_of_mem (f := (·.1)) hq
       have h2 : (N.take (i + 1)).Nodup := hNn.sublist (List.take_sublist _ _)
       rw [take_succ_get hn] at h2
       exact (List.nodup_append.mp h2).2.2 n h1 n (List.mem_singleton.mpr rfl) rfl
     rw [putK_fresh hnew, ← bkv_snoc qs (n, c)]
     refine ⟨qs ++ [(n, c)], _, rfl, (b2.upd hcH).upd gb, by rw [upd_ne hbd.symm, upd_ne hcd.symm]; exact hd2, upd_same, by rw [List.map_append, hqk, take_succ_get hn]; rfl, ?_, fun q hq => ?_⟩
     · rw [List.map_append]
       refine List.nodup_append.mpr ⟨hqa, by simp, fun x hx y hy z => ?_⟩
       obtain ⟨q, hq, e⟩ := List.mem_map.mp hx
       have e2 : y = c := List.mem_singleton.mp hy
       have h1 := (hqs q hq).2.2.2
       rw [e, z, e2, gc] at h1
       cases h1
     · rcases List.mem_append.mp hq with z | z
       · obtain ⟨h1, h2, h3, h4⟩ := hqs q z
         refine ⟨h1, h2, h3, ?_⟩
         rw [upd_ne h3, upd_ne (ne_of_none h4 gc)]
         exact h4
       · rw [List.mem_singleton.mp z]
         exact ⟨hcH, hcd, hcb, by rw [upd_ne hcb, upd_same]⟩
   · rintro σ H1 ⟨qs, v2, rfl, b1, hd1, hb1, hqk, hqa, hqs⟩
     rw [hks, List.take_length] at hqk
     have hqn : (qs.map (·.1)).Nodup := by rw [hqk]; exact hNn
     have hadr : ∀ q ∈ qs, ∀ q' ∈ qs, q.2 = q'.2 → q = q' := fun q hq q' hq' e => by
       obtain ⟨i, hi⟩ := List.getElem?_of_mem hq
       obtain ⟨j, hj⟩ := List.getElem?_of_mem hq'
       have h1 : (qs.map (·.2))[i]? = some q.2 := by rw [List.getElem?_map, hi]; rfl
       have h2 : (qs.map (·.2))[j]? = some q.2 := by rw [List.getElem?_map, hj, e]; rfl
       have hij := (List.getElem?_inj (List.getElem?_eq_some_iff.mp h1).1 hqa).mp (h1.trans h2.symm)
       subst hij
       rw [hi] at hj
       exact Option.some.inj hj
     refine ⟨_, rfl, d, kvs, rfl, .inr ⟨ob, hd1, ?_⟩⟩
     refine for_dict (d := d) (o := ob) (u := .dK kvs) (ks := keysV kvs) (fun i σ H2 => ∃ (L : Str → List Str) (v2 v3 : Option V), σ = [some (.ref d), some (.ref bk), v2, v3] ∧ But d H H2 ∧ H2 d = some (.frz ob (.dK kvs)) ∧ H2 bk = some (.dK (bkv qs)) ∧ (∀ q ∈ qs, H2 q.2 = some (.lst ((L q.1).map V.str))) ∧ (∀ m ∈ N, ∀ p, p ∈ L m ↔ p ∈ N.take i ∧ m ∈ g p) ∧ ∀ m ∈ N, (L m).length ≤ 80 * i)
       ⟨fun _ => [], v2, none, rfl, b1, hd1, hb1, fun q hq => (hqs q hq).2.2.2, fun m _ p => by simp, fun m _ => by simp⟩ (fun i σ H2 _ ⟨_, _, _, _, _, h, _⟩ => h) ?_ ?_
     · rintro i y σ H2 hy ⟨L, w2, w3, rfl, b2, hd2, hb2, hL, hLm, hLl⟩
       obtain ⟨n, hn, rfl⟩ : ∃ n, N[i]? = some n ∧ y = .str n := by
         rw [hkeys, List.getElem?_map] at hy
         cases e : N[i]? with
         | none => rw [e] at hy; cases hy
         | some n => rw [e] at hy; exact ⟨n, rfl, (Option.some.inj hy).symm⟩
       have hi : i < N.length := (List.getElem?_eq_some_iff.mp hn).1
       have hnN := List.mem_of_getElem? hn
       obtain ⟨u, hvu, hut⟩ := hg n hnN
       have hud : u ≠ d := fun z => by rw [z, hd] at hut; cases hut
       have hut2 := b2 _ _ hud hut
       have hget : DGet H2 d (.str n) (some (.ref u)) := by
         have h1 := DGet.kr (k := Sum.inr n) (H := H2) (.inr ⟨ob, hd2⟩)
         rw [hvu] at h1
         exact h1
       have hgl := hg80 n hnN
       refine ⟨_, rfl, _, rfl, d, _, rfl, hget, u, rfl, ⟨_, SqT.of hut2⟩, for_tup (K := K) (a := u) (xs := (g n).map V.str) (fun j σ H3 => ∃ (L : Str → List Str) (v3 : Option V), σ = [some (.ref d), some (.ref bk), some (.str n), v3] ∧ But d H H3 ∧ H3 d = some (.frz ob (.dK kvs)) ∧ H3 bk = some (.dK (bkv qs)) ∧ (∀ q ∈ qs, H3 q.2 = some (.lst ((L q.1).map V.str))) ∧ (∀ m ∈ N, ∀ p, p ∈ L m ↔ (p ∈ N.take i ∧ m ∈ g p) ∨ (p = n ∧ m ∈ (g n).take j)) ∧ ∀ m ∈ N, (L m).length ≤ 80 * i + j)
         ⟨L, w3, rfl, b2, hd2, hb2, hL, fun m hm p => by rw [hLm m hm p]; simp, fun m hm => hLl m hm⟩ (fun j σ H3 _ ⟨_, _, _, b3, _⟩ => SqT.of (b3 _ _ hud hut)) ?_ ?_⟩
       · rintro j y σ H3 hy3 ⟨L3, x3, rfl, b3, hd3, hb3, hL3, hLm3, hLl3⟩
         obtain ⟨m, hm, rfl⟩ : ∃ m, (g n)[j]? = some m ∧ y = .str m := by
           rw [List.getElem?_map] at hy3
           cases e : (g n)[j]? with
           | none => rw [e] at hy3; cases hy3
           | some m => rw [e] at hy3; exact ⟨m, rfl, (Option.some.inj hy3).symm⟩
         have hj : j < (g n).length := (List.getElem?_eq_some_iff.mp hm).1
         have hmN : m ∈ N := hgN n hnN m (List.mem_of_getElem? hm)
         obtain ⟨⟨m', c⟩, hq, e⟩ := List.mem_map.mp (show m ∈ qs.map (·.1) by rw [hqk]; exact hmN)
         have e' : m' = m := e
         subst e'
         obtain ⟨hcH, hcd, hcb, _⟩ := hqs _ hq
         have hc3 : H3 c = some (.lst ((L3 m').map V.str)) := hL3 _ hq
         have hgetb : DGet H3 bk (.str m') (some (.ref c)) := by
           have h1 := DGet.k (k := Sum.inr m') hb3
           rw [bkv_val hqn hq] at h1
           exact h1
         have hlen := hLl3 m' hmN
         refine ⟨_, rfl, _, rfl, bk, _, rfl, hgetb, .inl ⟨rfl, _, SqL.of hc3⟩, _, rfl, c, _, _, rfl, rfl, hc3, (by have : sizeLine = 16777216 := sizeLine_eq; rw [List.length_map]; omega), ?_⟩
         refine ⟨putL L3 m' n, _, rfl, b3.upd hcH, by rw [upd_ne hcd.symm]; exact hd3, by rw [upd_ne hcb.symm]; exact hb3, fun q hq2 => ?_, fun z hz p => ?_, fun z hz => ?_⟩
         · by_cases hz : q.1 = m'
           · have hqq : q = (m', c) := by
               obtain ⟨i1, hi1⟩ := List.getElem?_of_mem hq2
               obtain ⟨j1, hj1⟩ := List.getElem?_of_mem hq
               have h1 : (qs.map (·.1))[i1]? = some m' := by rw [List.getElem?_map, hi1, ← hz]; rfl
               have h2 : (qs.map (·.1))[j1]? = some m' := by rw [List.getElem?_map, hj1]; rfl
               have hij := (List.getElem?_inj (List.getElem?_eq_some_iff.mp h1).1 hqn).mp (h1.trans h2.symm)
               subst hij
               rw [hi1] at hj1
               exact Option.some.inj hj1
             rw [hqq]
             show upd H3 c _ c = some (.lst ((putL L3 m' n m').map V.str))
             rw [upd_same, putL_same, List.map_append]
             rfl
           · have hne : q.2 ≠ c := fun y => hz (by rw [hadr q hq2 (m', c) hq y])
             rw [upd_ne hne, putL_ne L3 hz]
             exact hL3 q hq2
         · rw [take_succ_get hm]
           by_cases hzm : z = m'
           · subst hzm
             rw [putL_same, List.mem_append, List.mem_singleton, List.mem_append, List.mem_singleton, hLm3 z hz p]
             constructor
             · rintro ((h1 | h1) | h1)
               · exact .inl h1
               · exact .inr ⟨h1.1, .inl h1.2⟩
               · exact .inr ⟨h1, .inr rfl⟩
             · rintro (h1 | ⟨h1, h2 | h2⟩)
               · exact .inl (.inl h1)
               · exact .inl (.inr ⟨h1, h2⟩)
               · exact .inr h1
           · rw [putL_ne L3 hzm, hLm3 z hz p, List.mem_append, List.mem_singleton]
             constructor
             · rintro (h1 | ⟨h1, h2⟩)
               · exact .inl h1
               · exact .inr ⟨h1, .inl h2⟩
             · rintro (h1 | ⟨h1, h2 | h2⟩)
               · exact .inl h1
               · exact .inr ⟨h1, h2⟩
               · exact absurd h2 hzm
         · by_cases hzm : z = m'
           · subst hzm
             rw [putL_same, List.length_append, List.length_singleton]
             omega
           · rw [putL_ne L3 hzm]
             have := hLl3 z hz
             omega
       · rintro σ H3 ⟨L3, x3, rfl, b3, hd3, hb3, hL3, hLm3, hLl3⟩
         refine ⟨L3, _, _, rfl, b3, hd3, hb3, hL3, fun m hm p => ?_, fun m hm => ?_⟩
         · rw [hLm3 m hm p, List.length_map, List.take_length, take_succ_get hn, List.mem_append, List.mem_singleton]
           constructor
           · rintro (h1 | ⟨h1, h2⟩)
             · exact ⟨.inl h1.1, h1.2⟩
             · exact ⟨.inr h1, by rw [h1]; exact h2⟩
           · rintro ⟨h1 | h1, h2⟩
             · exact .inl ⟨h1, h2⟩
             · exact .inr ⟨h1, by rw [← h1]; exact h2⟩
         · have := hLl3 m hm
           rw [List.length_map] at this
           omega
     · rintro σ H2 ⟨L, w2, w3, rfl, b2, hd2, hb2, hL, hLm, hLl⟩
       rw [hks] at hLm hLl
       refine ⟨_, rfl, q bk _ L ob H2 b2 hd2 hb2 hbd gb (fun n hn => ?_) (fun n hn p => by rw [hLm n hn p, List.take_length]) fun n hn => ?_⟩
       · obtain ⟨⟨m', c⟩, hq, e⟩ := List.mem_map.mp (show n ∈ qs.map (·.1) by rw [hqk]; exact hn)
         have e' : m' = n := e
         subst e'
         exact ⟨c, bkv_val hqn hq, hL _ hq⟩
       · have := hLl n hn
         omega
noncomputable def spAround : Sp := fun vs H Q _ => ∃ (d bk : Addr) (n : Str) (kvs bv : List (Key × V)) (N : List Str) (g L : Str → List Str) (ob : Obj), vs = [.ref d, .ref bk, .str n] ∧ H d = some (.frz ob (.dK kvs)) ∧ H bk = some (.dK bv) ∧ keysV kvs = N.map V.str ∧ N.length ≤ 24 ∧ n ∈ N ∧ (∀ n ∈ N, ∃ u, valV kvs (Sum.inr n) = some (.ref u) ∧ H u = some (.tup ((g n).map V.str))) ∧ (∀ n ∈ N, ∃ u, valV bv (Sum.inr n) = some (.ref u) ∧ H u = some (.lst ((L n).map V.str))) ∧ (∀ n ∈ N, ∀ m ∈ g n, m ∈ N) ∧ (∀ n ∈ N, ∀ m ∈ L n, m ∈ N) ∧ (∀ n ∈ N, (g n).length ≤ 2000) ∧ (∀ n ∈ N, (L n).length ≤ 2000) ∧
 ∀ (p : Addr) (l1 l2 : List Str) (H' : Hp), Same H H' → (∀ m, m ∈ l1 ↔ Rch (fun a b => b ∈ g a) [n] m) → (∀ m, m ∈ l2 ↔ Rch (fun a b => b ∈ L a) [n] m) → H' p = some (.tup ((N.filter fun m => decide (m ∈ l1) && decide (m ∈ l2)).map V.str)) → Q (.ref p) H'
theorem ok_around (T : Txt K mg) : L2.Cl P w K mg base 2 "knot_around" ["onward", "backward", "part"] spAround := by
 have C_spread := ok_spread (P := P) (w := w) (base := base) T
 refine Cl.of T.d_knot_around sc_knot_around (fun vs H Q E h => ?_) (fun _ _ _ _ _ _ us hl => by obtain ⟨a, b, c, rfl⟩ := len3 hl; rfl) (fun fa cdv A outer s H vs Q E hr h => ?_)
 · obtain ⟨d, bk, n, kvs, bv, N, g, L, ob, rfl, _⟩ := h
   rfl
 · obtain ⟨d, bk, n, kvs, bv, N, g, L, ob, rfl, hd, hb, hkeys, hN, hnN, hg, hL, hgN, hLN, hg2, hL2, q⟩ := h
   have hu := hu_of hr
   have hks : (keysV kvs).length = N.length := by rw [hkeys, List.length_map]
   refine ⟨_, (pss_cons (ps_set (i := 3) sc_knot_around.nd rfl (Or.inr rfl) (pe_fn C_spread hr (by rfl) (pa_cons (pv 0) (pa_cons (pe_tup (pa_cons (pv 2) pa_nil)) pa_nil))))
     (pss_cons (ps_set (i := 4) sc_knot_around.nd rfl (Or.inr rfl) (pe_fn C_spread hr (by rfl) (pa_cons (pv 1) (pa_cons (pe_tup (pa_cons (pv 2) pa_nil)) pa_nil))))
     (pss_one (ps_ret (pe_callTy call_tuple_of (by rfl) T.n_tuple boot_tuple (pa_cons (pe_comp (M := ["other", "ahead", "behind"]) (ρ := [none, some 3, some 4]) (defScope s_knot_around) ["onward", "backward", "part", "ahead", "behind"] ⟨rfl, by decide +kernel, by decide +kernel, by decide +kernel, rfl, by decide +kernel, by decide +kernel⟩ (pi_dictK (pv 0)) (fun _ _ _ _ _ _ => (pg_name (i := 0) (show (["other", "ahead", "behind"] : List Str).Nodup by decide +kernel) rfl (Or.inl rfl))) (fun _ _ _ _ _ _ => (pts_one (PW.pt (pw_and (pt_cmp (pc_din hu (pv 0) (pv 1))) (pw_and1 (pt_cmp (pc_din hu (pv 0) (pv 2)))))))) (fun _ _ _ _ _ _ => (pv 0))) pa_nil)))))), ?_⟩
   refine ⟨_, rfl, _, rfl, (by show 1 ≤ sizeLine; decide), fun t gt => ?_⟩
   have s1 : Same H (upd H t (.tup [.str n])) := (Same.refl H).new gt
   refine ⟨d, t, kvs, [n], N, g, rfl, .inr ⟨ob, s1 _ _ hd⟩, upd_same, fun m hm => ?_, fun m hm => by rw [List.mem_singleton.mp hm]; exact hnN, hgN, hg2, by simp, by omega, fun f1 l1 H1 s2 hf1 hl1 => ?_⟩
   · obtain ⟨u, h1, h2⟩ := hg m hm
     exact ⟨u, h1, .inr (s1 _ _ h2)⟩
   have s12 := s1.trans s2
   refine ⟨_, rfl, _, rfl, (by show 1 ≤ sizeLine; decide), fun t2 gt2 => ?_⟩
   have s3 : Same H1 (upd H1 t2 (.tup [.str n])) := (Same.refl H1).new gt2
   have s13 := s12.trans s3
   refine ⟨bk, t2, bv, [n], N, L, rfl, .inl (s13 _ _ hb), upd_same, fun m hm => ?_, fun m hm => by rw [List.mem_singleton.mp hm]; exact hnN, hLN, hL2, by simp, by omega, fun f2 l2 H2 s4 hf2 hl2 => ?_⟩
   · obtain ⟨u, h1, h2⟩ := hL m hm
     exact ⟨u, h1, .inl (s13 _ _ h2)⟩
   have s14 := s13.trans s4
   have hf1' : H2 f1 = some (.dK (setD l1)) := s4 _ _ (s3 _ _ hf1)
   have hd2 := s14 _ _ hd
   refine ⟨_, rfl, d, kvs, rfl, .inr ⟨ob, hd2, fun D hD => ?_⟩⟩
   refine comp_by (keysV kvs).length (fun i σ H3 => ∃ v0 : Option V, σ = [v0, some (.ref f1), some (.ref f2)] ∧ Same H2 H3 ∧ H3 D = some (.lst (((N.take i).filter fun m => decide (m ∈ l1) && decide (m ∈ l2)).map V.str))) ⟨_, rfl, (Same.refl H2).new hD, by rw [upd_same]; rfl⟩ ?_ ?_
   · rintro i σ H3 hi ⟨v0, rfl, s5, hD3⟩
     refine ⟨⟨s5 _ _ hd2, hi⟩, ?_⟩
     rintro v H4 ⟨rfl, hv⟩
     obtain ⟨m, hm, rfl⟩ : ∃ m, N[i]? = some m ∧ v = .str m := by
       rw [hkeys, List.getElem?_map] at hv
       cases e : N[i]? with
       | none => rw [e] at hv; cases hv
       | some m => rw [e] at hv; exact ⟨m, rfl, (Option.some.inj hv).symm⟩
     have hlen : ((N.take i).filter fun m => decide (m ∈ l1) && decide (m ∈ l2)).length ≤ 24 := by
       have h1 := List.length_filter_le (fun m => decide (m ∈ l1) && decide (m ∈ l2)) (N.take i)
       have h2 : (N.take i).length ≤ N.length := List.length_take_le' ..
       omega
     have htk := take_succ_get hm
     refine ⟨_, rfl, _, rfl, f1, _, rfl, DGet.k (k := Sum.inr m) (s5 _ _ hf1'), _, rfl, ?_⟩
     rw [setD_some]
     by_cases h1 : m ∈ l1
     · rw [decide_eq_true h1]
       refine iteT ⟨_, rfl, _, rfl, f2, _, rfl, DGet.k (k := Sum.inr m) (s5 _ _ hf2), _, rfl, ?_⟩
       rw [setD_some]
       by_cases h2 : m ∈ l2
       · rw [decide_eq_true h2]
         refine iteT ⟨_, rfl, _, hD3, small1000 (by rw [List.length_map]; omega), _, rfl, s5.put hD, ?_⟩
         rw [upd_same, htk, List.filter_append, List.map_append]
         have : [m].filter (fun m => decide (m ∈ l1) && decide (m ∈ l2)) = [m] := by simp [h1, h2]
         rw [this]
         rfl
       · rw [decide_eq_false h2]
         refine iteF ⟨_, rfl, s5, ?_⟩
         rw [htk, List.filter_append]
         have : [m].filter (fun m => decide (m ∈ l1) && decide (m ∈ l2)) = [] := by simp [h2]
         rw [this, List.append_nil]
         exact hD3
     · rw [decide_eq_false h1]
       refine iteF ?_
       show if false = true then _ else _
       refine iteF ⟨_, rfl, s5, ?_⟩
       rw [htk, List.filter_append]
       have : [m].filter (fun m => decide (m ∈ l1) && decide (m ∈ l2)) = [] := by simp [h1]
       rw [this, List.append_nil]
       exact hD3
   · rintro σ H3 ⟨v0, rfl, s5, hD3⟩
     refine ⟨⟨s5 _ _ hd2, Nat.le_refl _⟩, ?_⟩
     rw [hks, List.take_length] at hD3
     refine ⟨D, _, rfl, .inl ⟨SqL.of hD3, fun p gp => ?_⟩⟩
     exact q p l1 l2 _ ((s14.trans s5).new gp) hl1 hl2 upd_same
theorem catA_any {H : Hp} {a b : Addr} {xs ys : List V} {Q : VK} (ha : H a = some (.tup xs)) (hb : H b = some (.tup ys)) (hl : xs.length + ys.length ≤ sizeLine) (q : ∀ l H', Same H H' → H' l = some (.tup (xs ++ ys)) → Q (.ref l) H') : rCatA K (.ref a) (.ref b) H Q := by
 refine ⟨a, b, xs, ys, rfl, rfl, SqT.of ha, SqT.of hb, hl, fun z => ?_, fun _ z => ?_, fun _ _ l hl' => ?_⟩
 · subst z
   exact q b H (Same.refl H) hb
 · subst z
   exact q a H (Same.refl H) (by rw [List.append_nil]; exact ha)
 · exact q l _ ((Same.refl H).new hl') upd_same
theorem mem_k1 {ps : List Pt} {n m : Str} {rs : List Rw} (hn : (ps.map (·.1)).Nodup) (h : (n, rs) ∈ ps) : m ∈ k1 ps n ↔ ∃ r ∈ rs, namesIt "bring" r = some m := by
 unfold k1
 rw [rowsOf_eq hn h]
 exact mem_namedOf "bring" m rs
theorem row_br {H : Hp} {r : Addr} {rw : Rw} (h : RowAt H r rw) : (∃ m rest, namesIt "bring" rw = some m ∧ H r = some (.tup (.str "bring" :: .str m :: rest))) ∨ (¬ kindS rw = "bring" ∧ namesIt "bring" rw = none) := by
 cases rw with
 | bring p ps =>
   obtain ⟨t, h1, h2⟩ := h
   exact .inl ⟨p, _, by simp [namesIt], h1⟩
 | ask p w => exact .inr ⟨by simp only [kindS]; decide +kernel, by simp [namesIt]; decide +kernel⟩
 | _ => exact .inr ⟨by simp only [kindS]; decide +kernel, rfl⟩
theorem Rch.refl1 {E : Str → Str → Prop} {a : Str} : Rch E [a] a := .base (List.mem_singleton.mpr rfl)
theorem Rch.trans1 {E : Str → Str → Prop} {a b c : Str} (h1 : Rch E [a] b) (h2 : Rch E [b] c) : Rch E [a] c := by
 induction h2 with
 | base h => rw [List.mem_singleton.mp h]; exact h1
 | step _ e ih => exact .step ih e
theorem Rch.inN {g : Str → List Str} {N : List Str} (hcl : ∀ n ∈ N, ∀ m ∈ g n, m ∈ N) {n m : Str} (hn : n ∈ N) (h : Rch (fun a b => b ∈ g a) [n] m) : m ∈ N := by
 induction h with
 | base h => rw [List.mem_singleton.mp h]; exact hn
 | step _ e ih => exact hcl _ ih _ e
theorem rch_back {g L : Str → List Str} {N : List Str} (hL : ∀ n ∈ N, ∀ p, p ∈ L n ↔ p ∈ N ∧ n ∈ g p) {n m : Str} (hn : n ∈ N) (h : Rch (fun a b => b ∈ L a) [n] m) : m ∈ N ∧ Rch (fun a b => b ∈ g a) [m] n := by
 induction h with
 | base h => rw [List.mem_singleton.mp h]; exact ⟨hn, .refl1⟩
 | step _ e ih =>
   obtain ⟨h1, h2⟩ := (hL _ ih.1 _).mp e
   exact ⟨h1, Rch.trans1 (.step .refl1 h2) ih.2⟩
theorem rch_fwd {g L : Str → List Str} {N : List Str} (hcl : ∀ n ∈ N, ∀ m ∈ g n, m ∈ N) (hL : ∀ n ∈ N, ∀ p, p ∈ L n ↔ p ∈ N ∧ n ∈ g p) {n m : Str} (hm : m ∈ N) (h : Rch (fun a b => b ∈ g a) [m] n) : Rch (fun a b => b ∈ L a) [n] m := by
 induction h with
 | base h => rw [List.mem_singleton.mp h]; exact .refl1
 | step h1 e ih =>
   have hk := Rch.inN hcl hm h1
   exact Rch.trans1 (.step .refl1 ((hL _ (hcl _ hk _ e) _).mpr ⟨hk, e⟩)) ih
open Classical in
noncomputable def rB (g : Str → List Str) (n m : Str) : Bool := decide (Rch (fun a b => b ∈ g a) [n] m)
open Classical in
theorem rB_iff {g : Str → List Str} {n m : Str} : rB g n m = true ↔ Rch (fun a b => b ∈ g a) [n] m := by
 unfold rB
 exact decide_eq_true_iff
noncomputable def knotOf (g : Str → List Str) (N : List Str) (n : Str) : List Str := N.filter fun m => rB g n m && rB g m n
noncomputable def firstIn (g : Str → List Str) (N : List Str) (n : Str) : Bool := decide ((knotOf g N n).head? = some n)
noncomputable def knotsOf (g : Str → List Str) (N M : List Str) : List (List Str) := (M.filter (firstIn g N)).map (knotOf g N)
theorem knotOf_self {g : Str → List Str} {N : List Str} {n : Str} (hn : n ∈ N) : n ∈ knotOf g N n := List.mem_filter.mpr ⟨hn, by rw [rB_iff.mpr Rch.refl1]; rfl⟩
theorem knotsOf_snoc {g : Str → List Str} {N M : List Str} {n : Str} : knotsOf g N (M ++ [n]) = knotsOf g N M ++ (if firstIn g N n = true then [knotOf g N n] else []) := by
 unfold knotsOf
 rw [List.filter_append, List.map_append]
 by_cases h : firstIn g N n = true
 · rw [if_pos h, List.filter_cons_of_pos h]
   rfl
 · rw [if_neg h, List.filter_cons_of_neg h]
   rfl
theorem head_is {l : List Str} {n : Str} (h : n ∈ l) : ∃ x, l.head? = some x ∧ l[0]? = some x := by
 cases l with
 | nil => simp at h
 | cons a r => exact ⟨a, rfl, rfl⟩
noncomputable def TsAt (H : Hp) (v : V) (ks : List Str) : Prop := ∃ t, v = .ref t ∧ H t = some (.tup (ks.map V.str))
theorem knots_len (g : Str → List Str) (N M : List Str) : (knotsOf g N M).length ≤ M.length := by
 unfold knotsOf
 rw [List.length_map]
 exact List.length_filter_le _ _
noncomputable def spKnotsIn : Sp := fun vs H Q _ => ∃ (d : Addr) (kvs : List (Key × V)) (N : List Str) (g : Str → List Str), vs = [.ref d] ∧ H d = some (.dK kvs) ∧ keysV kvs = N.map V.str ∧ N.Nodup ∧ N.length ≤ 24 ∧ (∀ n ∈ N, ∃ u, valV kvs (Sum.inr n) = some (.ref u) ∧ H u = some (.tup ((g n).map V.str))) ∧ (∀ n ∈ N, ∀ m ∈ g n, m ∈ N) ∧ (∀ n ∈ N, (g n).length ≤ 80) ∧
 ∀ (p : Addr) (us : List V) (H' : Hp), But d H H' → H' p = some (.tup us) → Paired (TsAt H') us (knotsOf g N N) → Q (.ref p) H'
theorem ok_knots_in (T : Txt K mg) : L2.Cl P w K mg base 4 "knots_in" ["onward"] spKnotsIn := by
 have C_turned := ok_turned (P := P) (w := w) (base := base) T
 have C_knot_around := ok_around (P := P) (w := w) (base := base) T
 refine Cl.of T.d_knots_in sc_knots_in (fun vs H Q E h => ?_) (fun _ _ _ _ _ _ us hl => by obtain ⟨a, rfl⟩ := len1 hl; rfl) (fun fa cdv A outer s H vs Q E hr h => ?_)
 · obtain ⟨d, kvs, N, g, rfl, _⟩ := h
   rfl
 · obtain ⟨d, kvs, N, g, rfl, hd, hkeys, hNd, hN, hgv, hgN, hg80, q⟩ := h
   have hu := hu_of hr
   refine ⟨_, (pss_cons (ps_set (i := 1) sc_knots_in.nd rfl (Or.inl rfl) (pe_fn C_turned hr (by rfl) (pa_cons (pv 0) pa_nil)))
     (pss_cons (ps_set (i := 2) sc_knots_in.nd rfl (Or.inl rfl) (pe_lst pa_nil))
     (pss_cons (ps_for PassesOwn.never rfl (pi_dictK (pv 0)) (pg_name (i := 3) sc_knots_in.nd rfl (Or.inl rfl))
       (pss_cons (ps_set (i := 4) sc_knots_in.nd rfl (Or.inl rfl) (pe_fn C_knot_around hr (by rfl) (pa_cons (pv 0) (pa_cons (pv 1) (pa_cons (pv 3) pa_nil)))))
       (pss_one (ps_if (pt_cmpR op_eq (pe_ix ix_tup (pv 4) pe_int (fun _ _ => rfl)) (pv 3) (nomark _))
         (pss_one (ps_expr (pe_bm PySem.F.plainAttrs_list PySem.F.slot_list_append PySem.F.type_list_append mt_append (pv 2) (pa_cons (pv 4) pa_nil)))) pss_nil))))
     (pss_one (ps_ret (pe_callTy call_tuple_of (by rfl) T.n_tuple boot_tuple (pa_cons (pv 2) pa_nil))))))), ?_⟩
   refine ⟨_, rfl, d, _, N, g, rfl, hd, hkeys, hNd, hN, hgv, hgN, hg80, fun bk bv L ob H2 b2 hd2 hb2 hbd gbk hLv hLm hLl => ?_⟩
   have hgv2 : ∀ n ∈ N, ∃ u, valV kvs (Sum.inr n) = some (.ref u) ∧ H2 u = some (.tup ((g n).map V.str)) := fun n hn => by
     obtain ⟨u, h1, h2⟩ := hgv n hn
     exact ⟨u, h1, b2 _ _ (fun z => by rw [z, hd] at h2; cases h2) h2⟩
   have hLN : ∀ n ∈ N, ∀ m ∈ L n, m ∈ N := fun n hn m hm => ((hLm n hn m).mp hm).1
   refine ⟨(by show 0 ≤ sizeLine; decide), fun F gF => ?_⟩
   have s3 : Same H2 (upd H2 F (.lst [])) := (Same.refl H2).new gF
   refine ⟨_, rfl, d, _, rfl, .inr ⟨ob, s3 _ _ hd2, ?_⟩⟩
   have hks : (keysV kvs).length = N.length := by rw [hkeys, List.length_map]
   refine for_dict (d := d) (o := ob) (u := .dK kvs) (ks := keysV kvs) (fun i σ H3 => ∃ (us : List V) (v4 v5 : Option V), σ = [some (.ref d), some (.ref bk), some (.ref F), v4, v5] ∧ Same H2 H3 ∧ H3 F = some (.lst us) ∧ Paired (TsAt H3) us (knotsOf (g) N (N.take i)))
     ⟨[], none, none, rfl, s3, upd_same, by rw [List.take_zero]; exact .nil⟩ (fun i σ H3 _ ⟨_, _, _, _, s4, _⟩ => s4 _ _ hd2) ?_ ?_
   · rintro i y σ H3 hy ⟨us, v4, v5, rfl, s4, hF, hus⟩
     obtain ⟨n, hn, rfl⟩ : ∃ n, N[i]? = some n ∧ y = .str n := by
       rw [hkeys, List.getElem?_map] at hy
       cases e : N[i]? with
       | none => rw [e] at hy; cases hy
       | some n => rw [e] at hy; exact ⟨n, rfl, (Option.some.inj hy).symm⟩
     have hnN := List.mem_of_getElem? hn
     have hul : us.length ≤ 24 := by
       rw [Paired.length hus]
       have h1 := knots_len (g) N (N.take i)
       have h2 : (N.take i).length ≤ N.length := List.length_take_le' ..
       omega
     refine ⟨_, rfl, _, rfl, _, rfl, d, bk, n, _, bv, N, g, L, ob, rfl, s4 _ _ hd2, s4 _ _ hb2, hkeys, hN, hnN, fun m hm => ?_, fun m hm => ?_, hgN, hLN, fun m hm => by have := hg80 m hm; omega, hLl, fun p l1 l2 H4 s5 h1 h2 hp => ?_⟩
     · obtain ⟨u, h1, h2⟩ := hgv2 m hm
       exact ⟨u, h1, s4 _ _ h2⟩
     · obtain ⟨u, h1, h2⟩ := hLv m hm
       exact ⟨u, h1, s4 _ _ h2⟩
     have hK : (N.filter fun m => decide (m ∈ l1) && decide (m ∈ l2)) = knotOf (g) N n := by
       unfold knotOf
       refine List.filter_congr fun m hm => ?_
       have e1 : decide (m ∈ l1) = rB (g) n m := by
         rw [Bool.eq_iff_iff, decide_eq_true_iff, h1 m, rB_iff]
       have e2 : decide (m ∈ l2) = rB (g) m n := by
         rw [Bool.eq_iff_iff, decide_eq_true_iff, h2 m, rB_iff]
         exact ⟨fun z => (rch_back hLm hnN z).2, fun z => rch_fwd hgN hLm hm z⟩
       rw [e1, e2]
     rw [hK] at hp
     obtain ⟨x, hx1, hx2⟩ := head_is (knotOf_self (g := g) hnN)
     have hat : atI ((knotOf (g) N n).map V.str) 0 = some (.str x) := atI_nat (j := 0) (by rw [List.getElem?_map, hx2]; rfl)
     have hF4 := s5 _ _ hF
     have hus4 : Paired (TsAt H4) us (knotsOf (g) N (N.take i)) := Paired.mapP hus fun _ _ ⟨t, e, ht⟩ => ⟨t, e, s5 _ _ ht⟩
     refine ⟨_, rfl, p, _, _, _, rfl, rfl, SqT.of hp, hat, _, rfl, rfl, _, rfl, ?_⟩
     by_cases hxn : x = n
     · subst hxn
       refine iteSE ?_
       have hfi : firstIn (g) N x = true := decide_eq_true hx1
       refine ⟨_, rfl, .inl ⟨rfl, _, SqL.of hF4⟩, _, rfl, F, _, _, rfl, rfl, hF4, small1000 (by omega), ?_⟩
       have T5 := Tups.lst (ys := us ++ [.ref p]) hF4
       refine ⟨us ++ [.ref p], _, _, rfl, (s4.trans s5).put gF, upd_same, ?_⟩
       rw [take_succ_get hn, knotsOf_snoc, if_pos hfi]
       exact Paired.snoc (Paired.mapP hus4 fun _ _ ⟨t, e, ht⟩ => ⟨t, e, T5 _ _ ht⟩) ⟨p, rfl, T5 _ _ hp⟩
     · refine iteSN hxn ?_
       have hfi : ¬ firstIn (g) N n = true := fun z => hxn (by
         have := of_decide_eq_true z
         rw [hx1] at this
         exact Option.some.inj this)
       refine ⟨us, _, _, rfl, s4.trans s5, hF4, ?_⟩
       rw [take_succ_get hn, knotsOf_snoc, if_neg hfi, List.append_nil]
       exact hus4
   · rintro σ H3 ⟨us, v4, v5, rfl, s4, hF, hus⟩
     rw [hks, List.take_length] at hus
     refine ⟨_, rfl, F, _, rfl, .inl ⟨SqL.of hF, fun p gp => ?_⟩⟩
     have s5 : Same H3 (upd H3 p (.tup us)) := (Same.refl H3).new gp
     exact q p us _ (fun c o h1 h2 => (s4.trans s5) _ _ (b2 c o h1 h2)) upd_same (Paired.mapP hus fun _ _ ⟨t, e, ht⟩ => ⟨t, e, s5 _ _ ht⟩)
noncomputable def BrAt (H : Hp) (q : Str × V) (pt : Pt) : Prop := q.1 = pt.1 ∧ ∃ t, q.2 = .ref t ∧ H t = some (.tup ((namedOf "bring" pt.2).map V.str))
theorem BrAt.mono {H H' : Hp} (s : Tups H H') {q : Str × V} {pt : Pt} (h : BrAt H q pt) : BrAt H' q pt := by
 obtain ⟨e, t, e2, h⟩ := h
 exact ⟨e, t, e2, s _ _ h⟩
theorem br_keys {H : Hp} : ∀ {qs : List (Str × V)} {ps : List Pt}, Paired (BrAt H) qs ps → qs.map (·.1) = ps.map (·.1)
 | _, _, .nil => rfl
 | _, _, .cons h t => by rw [List.map_cons, List.map_cons, br_keys t, h.1]
noncomputable def spBringings : Sp := fun vs H Q _ => ∃ (a : Addr) (ps : List Pt), vs = [.ref a] ∧ PartsF H a ps ∧ PsFit ps ∧ ∀ (d : Addr) (qs : List (Str × V)) (H' : Hp), Same H H' → H d = none → H' d = some (.dK (foldP qs [])) → Paired (BrAt H') qs ps → Q (.ref d) H'
theorem ok_bringings (T : Txt K mg) : L2.Cl P w K mg base 3 "bringings" ["parts"] spBringings := by
 have C_brings := ok_brings (P := P) (w := w) (base := base) T
 refine Cl.of T.d_bringings sc_bringings (fun vs H Q E h => ?_) (fun _ _ _ _ _ _ us hl => by obtain ⟨a, rfl⟩ := len1 hl; rfl) (fun f cdv A outer s H vs Q E hr h => ?_)
 · obtain ⟨a, ps, rfl, _⟩ := h
   rfl
 · obtain ⟨a, ps, rfl, hpf, hfit, q⟩ := h
   have hu := hu_of hr
   obtain ⟨o, vs, ha, ho, hps⟩ := id hpf
   have sqa : ∀ {H2 : Hp}, Same H H2 → SqT K H2 a vs := fun s2 => .inl (.inr ⟨o, s2 _ _ ha⟩)
   refine ⟨_, (pss_cons (ps_set (i := 1) sc_bringings.nd rfl (Or.inl rfl) pe_dnewK)
     (pss_cons (ps_for PassesOwn.never rfl (pi_tup (pv 0)) (pg_tup rfl (pgs_cons (pg_name (i := 2) sc_bringings.nd rfl (Or.inl rfl)) (pgs_cons (pg_name (i := 3) sc_bringings.nd rfl (Or.inl rfl)) pgs_nil)))
       (pss_one (ps_dput hu (pv 1) (pv 2) (pe_fn C_brings hr (by rfl) (pa_cons (pv 0) (pa_cons (pv 2) pa_nil))) rfl)))
     (pss_one (ps_ret (pv 1))))), ?_⟩
   intro d gd
   have s1 : Same H (upd H d (.dK [])) := (Same.refl H).new gd
   have hvl : vs.length = ps.length := Paired.length hps
   have hhi := hfit.hi
   refine ⟨_, rfl, a, rfl, ⟨_, sqa s1⟩, for_tup (K := K) (a := a) (xs := vs) (fun i σ H2 => ∃ (qs : List (Str × V)) (v2 v3 : Option V), σ = [some (.ref a), some (.ref d), v2, v3] ∧ Same H H2 ∧ H2 d = some (.dK (foldP qs [])) ∧ Paired (BrAt H2) qs (ps.take i))
     ⟨[], none, none, rfl, s1, upd_same, by rw [List.take_zero]; exact .nil⟩ (fun i σ H2 _ ⟨_, _, _, _, s2, _⟩ => sqa s2) ?_ ?_⟩
   · rintro i y σ H2 hy ⟨qs, v2, v3, rfl, s2, hd2, hqs⟩
     obtain ⟨pt, hpt, t, u, ws, ey, ht, hu', hrs⟩ := Paired.get? hps hy
     subst ey
     obtain ⟨n, rs⟩ := pt
     have hmem := List.mem_of_getElem? hpt
     have hr40 : rs.length ≤ 40 := hfit.rows _ hmem
     have hql : qs.length ≤ 24 := by
       have := Paired.length hqs
       rw [this, List.length_take]; omega
     refine ⟨t, _, rfl, SqT.of (s2 _ _ ht), rfl, _, _, rfl, _, _, rfl, rfl, ?_⟩
     refine ⟨_, rfl, _, rfl, a, ps, n, rs, rfl, s2.partsF hpf, hfit.nd, hmem, by omega, by omega, fun p H3 s3 hp => ?_⟩
     have hd5 := s3 _ _ hd2
     have hfl := foldP_len qs []
     simp only [List.length_nil] at hfl
     refine ⟨_, rfl, _, rfl, d, _, rfl, DPut.k (k := Sum.inr n) hd5 (small1000 (by omega)), ?_⟩
     have T5 : Tups H3 (upd H3 d (.dK (putK (foldP qs []) (Sum.inr n) (.ref p)))) := Tups.dK hd5
     refine ⟨qs ++ [(n, .ref p)], _, _, rfl, (s2.trans s3).put gd, ?_, ?_⟩
     · rw [upd_same, foldP_snoc]
     · rw [take_succ_get hpt]
       exact Paired.snoc (Paired.mapP hqs fun _ _ z => z.mono (s3.tups.trans T5)) ⟨rfl, p, rfl, T5 _ _ hp⟩
   · rintro σ H2 ⟨qs, v2, v3, rfl, s2, hd2, hqs⟩
     rw [hvl, List.take_length] at hqs
     exact ⟨_, rfl, q d qs H2 s2 gd hd2 hqs⟩
theorem br_val {H : Hp} {qs : List (Str × V)} {ps : List Pt} (hn : (ps.map (·.1)).Nodup) (h : Paired (BrAt H) qs ps) : ∀ n ∈ ps.map (·.1), ∃ u, valV (foldP qs []) (Sum.inr n) = some (.ref u) ∧ H u = some (.tup ((k1 ps n).map V.str)) := by
 intro n hm
 obtain ⟨pt, hpt, e⟩ := List.mem_map.mp hm
 obtain ⟨i, hi⟩ := List.getElem?_of_mem hpt
 obtain ⟨qq, hq, e1, t, e2, ht⟩ := Paired.get?' h hi
 refine ⟨t, ?_, ?_⟩
 · refine foldP_get qs [] n (.ref t) (by rw [br_keys h]; exact hn) (.inl ?_)
   have := List.mem_of_getElem? hq
   have eq : qq = (n, .ref t) := Prod.ext (e1.trans e) e2
   rw [← eq]; exact this
 · have : (n, pt.2) ∈ ps := by rw [← e]; exact hpt
   unfold k1
   rw [rowsOf_eq hn this]
   exact ht
noncomputable def spTangles : Sp := fun vs H Q _ => ∃ (a : Addr) (ps : List Pt), vs = [.ref a] ∧ PartsF H a ps ∧ PsFit ps ∧ ClosedB ps ∧ ∀ (p : Addr) (us : List V) (H' : Hp), Same H H' → H' p = some (.tup us) → Paired (TsAt H') us (knotsOf (k1 ps) (ps.map (·.1)) (ps.map (·.1))) → Q (.ref p) H'
theorem ok_tangles (T : Txt K mg) : L2.Cl P w K mg base 5 "tangles" ["parts"] spTangles := by
 have C_bringings := ok_bringings (P := P) (w := w) (base := base) T
 have C_knots_in := ok_knots_in (P := P) (w := w) (base := base) T
 refine Cl.of T.d_tangles sc_tangles (fun vs H Q E h => ?_) (fun _ _ _ _ _ _ us hl => by obtain ⟨a, rfl⟩ := len1 hl; rfl) (fun fa cdv A outer s H vs Q E hr h => ?_)
 · obtain ⟨a, ps, rfl, _⟩ := h
   rfl
 · obtain ⟨a, ps, rfl, hpf, hfit, hcl, q⟩ := h
   have hu := hu_of hr
   have hN : (ps.map (·.1)).length ≤ 24 := by rw [List.length_map]; exact hfit.hi
   have hg80 : ∀ n ∈ ps.map (·.1), (k1 ps n).length ≤ 80 := fun n hn => by
     obtain ⟨pt, hpt, e⟩ := List.mem_map.mp hn
     have h1 : (n, pt.2) ∈ ps := by rw [← e]; exact hpt
     unfold k1
     rw [rowsOf_eq hfit.nd h1]
     have h2 := namedOf_len "bring" pt.2 []
     have h3 := hfit.rows _ hpt
     unfold namedOf
     simp only [List.length_nil] at h2
     omega
   refine ⟨_, (pss_one (ps_ret (pe_fn C_knots_in hr (by rfl) (pa_cons (pe_fn C_bringings hr (by rfl) (pa_cons (pv 0) pa_nil)) pa_nil)))), ?_⟩
   refine ⟨_, rfl, a, ps, rfl, hpf, hfit, fun d qs H1 s1 gd hd hqs => ?_⟩
   have hkeys : keysV (foldP qs []) = (ps.map (·.1)).map V.str := by
     rw [keys_fold (by rw [br_keys hqs]; exact hfit.nd), br_keys hqs]
   have hgv := br_val hfit.nd hqs
   refine ⟨d, _, ps.map (fun p => p.1), k1 ps, rfl, hd, hkeys, hfit.nd, hN, hgv, (fun n hn m hm => hcl n hn m hm), hg80, fun p us H2 b2 hp hus => ?_⟩
   exact q p us _ (fun c o e => b2 c o (fun z => by rw [z, gd] at e; cases e) (s1 _ _ e)) hp hus
theorem closedB_of {ps : List Pt} {nms : List Str} (hnm : ps.map (·.1) = nms) (hnd : nms.Nodup) (h : ∀ pt ∈ ps, ∀ r ∈ pt.2, InN nms r) : ClosedB ps := fun n hn m hm => by
 obtain ⟨rs, hmem⟩ := part_of hn
 obtain ⟨r, hr, e⟩ := (mem_k1 (by rw [hnm]; exact hnd) hmem).mp hm
 have h1 := h _ hmem r hr
 rw [hnm]
 cases r with
 | bring p ps' =>
   have : p = m := by simpa [namesIt] using e
   rw [← this]; exact h1
 | ask p w =>
   have : namesIt "bring" (.ask p w) = none := by simp [namesIt]; decide +kernel
   rw [this] at e
   cases e
 | _ => cases e
noncomputable def natsV (l : List Nat) : List V := l.map fun (m : Nat) => V.int (m : Int)
theorem natsV_snoc (l : List Nat) (m : Nat) : natsV (l ++ [m]) = natsV l ++ [.int (m : Int)] := by unfold natsV; simp
theorem natsV_len (l : List Nat) : (natsV l).length = l.length := by unfold natsV; simp
theorem natsV_get {ks : List Nat} {i : Nat} {y : V} (h : (natsV ks)[i]? = some y) : ∃ k, ks[i]? = some k ∧ y = .int (k : Int) := by
 unfold natsV at h
 rw [List.getElem?_map] at h
 cases e : ks[i]? with
 | none => rw [e] at h; cases h
 | some k => rw [e] at h; exact ⟨k, rfl, (Option.some.inj h).symm⟩
theorem rB_refl {g : Str → List Str} {n : Str} : rB g n n = true := rB_iff.mpr Rch.refl1
theorem rB_trans {g : Str → List Str} {a b c : Str} (h1 : rB g a b = true) (h2 : rB g b c = true) : rB g a c = true := rB_iff.mpr (Rch.trans1 (rB_iff.mp h1) (rB_iff.mp h2))
noncomputable def eqv (g : Str → List Str) (n m : Str) : Bool := rB g n m && rB g m n
theorem eqv_iff {g : Str → List Str} {n m : Str} : eqv g n m = true ↔ rB g n m = true ∧ rB g m n = true := by unfold eqv; exact Bool.and_eq_true_iff
theorem eqv_refl {g : Str → List Str} {n : Str} : eqv g n n = true := eqv_iff.mpr ⟨rB_refl, rB_refl⟩
theorem eqv_symm {g : Str → List Str} {n m : Str} (h : eqv g n m = true) : eqv g m n = true := eqv_iff.mpr ⟨(eqv_iff.mp h).2, (eqv_iff.mp h).1⟩
theorem eqv_trans {g : Str → List Str} {a b c : Str} (h1 : eqv g a b = true) (h2 : eqv g b c = true) : eqv g a c = true := by
 have a1 := eqv_iff.mp h1
 have a2 := eqv_iff.mp h2
 exact eqv_iff.mpr ⟨rB_trans a1.1 a2.1, rB_trans a2.2 a1.2⟩
theorem knotOf_eq (g : Str → List Str) (N : List Str) (n : Str) : knotOf g N n = N.filter (eqv g n) := rfl
theorem mem_knot {g : Str → List Str} {N : List Str} {n m : Str} : m ∈ knotOf g N n ↔ m ∈ N ∧ eqv g n m = true := by rw [knotOf_eq]; exact List.mem_filter
theorem knotOf_cong {g : Str → List Str} {N : List Str} {n m : Str} (h : eqv g n m = true) : knotOf g N n = knotOf g N m := by
 rw [knotOf_eq, knotOf_eq]
 refine List.filter_congr fun x _ => ?_
 rw [Bool.eq_iff_iff]
 exact ⟨fun z => eqv_trans (eqv_symm h) z, fun z => eqv_trans h z⟩
theorem firstIn_iff {g : Str → List Str} {N : List Str} {n : Str} : firstIn g N n = true ↔ (knotOf g N n).head? = some n := by unfold firstIn; exact decide_eq_true_iff
theorem idx_at {N : List Str} {x : Str} (hx : x ∈ N) : N[N.idxOf x]? = some x := by
 have h1 : N.idxOf x < N.length := List.idxOf_lt_length_iff.mpr hx
 rw [List.getElem?_eq_getElem h1, List.getElem_idxOf h1]
noncomputable def tTru (K : PySem.W.Frag) (ta : TE) : TT := fun σ H Q => ta σ H fun x H' => ∃ k, TruV K x H' k ∧ Q k H'
theorem pt_truthK {X : Cx} {K : PySem.W.Frag} (hK : X.K = K) {a : Expr} {ta : TE} (ha : PE X a ta) (he : ∀ whole, isTrue a X.env whole = (do let v ← whole; standAt a.pos; holding [v] (truthy v))) :
   PT X a (tTru K ta) := by
 subst hK
 exact pt_truth ha he
theorem tb (c a : Nat) : (Builtin.bitAnd ((c : Int) / 2 ^ ((a : Nat) : Int).toNat) 1 != 0) = c.testBit a := by
 have e : (c : Int) / 2 ^ ((a : Nat) : Int).toNat = ((c / 2 ^ a : Nat) : Int) := by
   rw [Int.toNat_natCast]
   simp
 rw [e, bitAnd_pp (Int.natCast_nonneg _) (by decide), Int.toNat_natCast, Nat.testBit_eq_decide_div_mod_eq]
 have e2 : (1 : Int).toNat = 1 := rfl
 rw [e2, Nat.and_one_is_mod, Bool.eq_iff_iff, decide_eq_true_iff]
 rw [bne_iff_ne]
 omega
noncomputable def onesN (n : Nat) : Nat := if h : n = 0 then 0 else n % 2 + onesN (n / 2)
termination_by n
decreasing_by exact Nat.div_lt_self (by omega) (by decide)
theorem ones_0 : onesN 0 = 0 := by rw [onesN, dif_pos rfl]
theorem ones_p {n : Nat} (h : n ≠ 0) : onesN n = n % 2 + onesN (n / 2) := by rw [onesN, dif_neg h]
theorem ones_all (n : Nat) : onesN n = n % 2 + onesN (n / 2) := by
 by_cases h : n = 0
 · subst h
   rw [show (0 : Nat) / 2 = 0 from rfl, ones_0]
 · exact ones_p h
theorem count_bits : ∀ (n c : Nat), c < 2 ^ n → ((List.range n).filter fun i => c.testBit i).length = onesN c
 | 0, c, h => by
   have : c = 0 := by simpa using h
   subst this
   rw [ones_0]
   rfl
 | n + 1, c, h => by
   have ih := count_bits n (c / 2) (by rw [Nat.pow_succ] at h; omega)
   rw [ones_all c, ← ih, List.range_succ_eq_map, List.filter_cons]
   have e : (((List.range n).map Nat.succ).filter fun i => c.testBit i).length = ((List.range n).filter fun i => (c / 2).testBit i).length := by
     rw [List.filter_map, List.length_map]
     congr 1
     refine List.filter_congr fun i _ => ?_
     show c.testBit (i + 1) = _
     rw [Nat.testBit_succ]
   have e0 : c.testBit 0 = decide (c % 2 = 1) := Nat.testBit_zero c
   rw [e0]
   by_cases h1 : c % 2 = 1
   · rw [if_pos (decide_eq_true h1), List.length_cons, e, h1]
     omega
   · rw [if_neg (by simp [h1]), e]
     omega
theorem bits_lt (c : Nat) : c < 2 ^ (Builtin.Int.intBits (c : Int)) := by
 have := (PySem.intBits_le_iff (m := Builtin.Int.intBits (c : Int)) (x := (c : Int))).mp (Nat.le_refl _)
 simpa using this
theorem bits_few {c : Nat} (h : c < 2 ^ 24) : Builtin.Int.intBits (c : Int) ≤ 24 := (PySem.intBits_le_iff (m := 24) (x := (c : Int))).mpr (by simpa using h)
noncomputable def bitsL (c : Nat) : List Nat := (List.range 24).filter fun j => c.testBit j
theorem filt_ge {c n : Nat} (h : c < 2 ^ n) : ∀ m, n ≤ m → ((List.range m).filter fun j => c.testBit j) = (List.range n).filter fun j => c.testBit j
 | 0, hm => by rw [Nat.le_zero.mp hm]
 | m + 1, hm => by
   by_cases e : n = m + 1
   · rw [e]
   · have hb : c.testBit m = false := Nat.testBit_lt_two_pow (Nat.lt_of_lt_of_le h (Nat.pow_le_pow_right (by decide) (by omega)))
     rw [List.range_succ, List.filter_append, filt_ge h m (by omega), List.filter_cons_of_neg (by rw [hb]; decide)]
     exact List.append_nil _
theorem bitsL_eq {c n : Nat} (h : c < 2 ^ n) (hn : n ≤ 24) : ((List.range n).filter fun j => c.testBit j) = bitsL c := (filt_ge h 24 hn).symm
theorem bitsL_len {c n : Nat} (h : c < 2 ^ n) (hn : n ≤ 24) : (bitsL c).length ≤ n := by
 rw [← bitsL_eq h hn]
 have := List.length_filter_le (fun j => c.testBit j) (List.range n)
 rw [List.length_range] at this
 exact this
theorem odd_part : ∀ x : Nat, 0 < x → ∃ k m, x = 2 ^ k * (2 * m + 1) := by
 intro x
 induction x using Nat.strongRecOn with
 | ind x ih =>
   intro hx
   rcases Nat.mod_two_eq_zero_or_one x with e | e
   · obtain ⟨k, m, h⟩ := ih (x / 2) (by omega) (by omega)
     refine ⟨k + 1, m, ?_⟩
     rw [Nat.pow_succ, Nat.mul_comm (2 ^ k) 2, Nat.mul_assoc, ← h]
     omega
   · exact ⟨0, x / 2, by omega⟩
theorem getD_app {α : Type} {l : List α} {a d : α} {i : Nat} (h : i < l.length) : (l ++ [a]).getD i d = l.getD i d := by
 rw [List.getD_eq_getElem?_getD, List.getD_eq_getElem?_getD, List.getElem?_append_left h]
noncomputable def spIn2 : Sp := fun vs H Q _ => ∃ c : Nat, vs = [.int (c : Int)] ∧ c < 2 ^ 24 ∧ ∀ (p : Addr) (H' : Hp), Same H H' → H' p = some (.tup (natsV (bitsL c))) → Q (.ref p) H'
theorem ok_in2 (T : Txt K mg) : L2.Cl P w K mg base 1 "numbers_in" ["whole"] spIn2 := by
 refine Cl.of T.d_numbers_in sc_numbers_in (fun vs H Q E h => ?_) (fun _ _ _ _ _ _ us hl => by obtain ⟨a, rfl⟩ := len1 hl; rfl) (fun f cdv A outer s H vs Q E hr h => ?_)
 · obtain ⟨c, rfl, _⟩ := h
   rfl
 · obtain ⟨c, rfl, hc, q⟩ := h
   have hb := bits_few hc
   have hlt := bits_lt c
   refine ⟨_, (pss_one (ps_ret (pe_callTy call_tuple_of (by rfl) T.n_tuple boot_tuple (pa_cons (pe_comp (M := ["number", "whole"]) (ρ := [none, some 0]) (defScope s_numbers_in) ["whole"] ⟨rfl, by decide +kernel, by decide +kernel, by decide +kernel, rfl, by decide +kernel, by decide +kernel⟩ (pi_range1 (by rfl) T.n_range (pa_cons (pe_bm0 PySem.F.plainAttrs_int PySem.F.slot_int_bit_length PySem.F.type_int_bit_length mt_bit_length (pv 0)) pa_nil)) (fun _ _ _ _ _ _ => (pg_name (i := 0) (show (["number", "whole"] : List Str).Nodup by decide +kernel) rfl (Or.inl rfl))) (fun _ _ _ _ _ _ => (pts_one (pt_truthK (K := K) rfl (pe_op op_and (pe_op op_shr (pv 1) (pv 0)) pe_int) (fun _ => rfl)))) (fun _ _ _ _ _ _ => (pv 0))) pa_nil)))), ?_⟩
   refine ⟨_, rfl, rfl, _, rfl, rfl, _, rfl, by omega, by omega, fun D gD => ?_⟩
   generalize Builtin.Int.intBits (c : Int) = n at hb hlt ⊢
   rw [Int.toNat_natCast]
   refine comp_by n (fun i σ H2 => ∃ v0 : Option V, σ = [v0, some (.int (c : Int))] ∧ Same H H2 ∧ H2 D = some (.lst (natsV ((List.range i).filter fun j => c.testBit j)))) ⟨_, rfl, (Same.refl H).new gD, upd_same⟩ ?_ ?_
   · rintro i σ H2 hi ⟨v0, rfl, s2, hD2⟩
     have hyl : (natsV ((List.range i).filter fun j => c.testBit j)).length ≤ 24 := by
       rw [natsV_len]
       have := List.length_filter_le (fun j => c.testBit j) (List.range i)
       rw [List.length_range] at this
       omega
     refine ⟨hi, ?_⟩
     rintro x H3 ⟨rfl, rfl⟩
     have hsn : ((List.range (i + 1)).filter fun j => c.testBit j) = ((List.range i).filter fun j => c.testBit j) ++ if c.testBit i = true then [i] else [] := by
       rw [List.range_succ, List.filter_append]
       by_cases e : c.testBit i = true
       · rw [if_pos e, List.filter_cons_of_pos e]; rfl
       · rw [if_neg e, List.filter_cons_of_neg e]; rfl
     refine ⟨_, rfl, _, rfl, _, _, rfl, rfl, (by show 0 ≤ 0 + (i : Int); omega), _, _, rfl, rfl, _, rfl, ?_⟩
     rw [Int.zero_add, tb]
     refine ite2 (fun e => ?_) (fun e => ?_)
     · refine ⟨_, rfl, _, hD2, small1000 (by omega), _, rfl, s2.put gD, ?_⟩
       rw [upd_same, hsn, if_pos e, natsV_snoc]
     · refine ⟨_, rfl, s2, ?_⟩
       rw [hsn, if_neg e, List.append_nil]
       exact hD2
   · rintro σ H2 ⟨v0, rfl, s2, hD2⟩
     refine ⟨Nat.le_refl _, ?_⟩
     rw [bitsL_eq hlt hb] at hD2
     refine ⟨D, _, rfl, .inl ⟨SqL.of hD2, fun p gp => ?_⟩⟩
     exact q p _ (s2.new gp) upd_same
theorem two_le {i : Nat} (h : i ≤ 8) : 2 ^ i ≤ 256 := Nat.pow_le_pow_right (n := 2) (by decide) h
theorem bitAnd_nat (a b : Nat) : Builtin.bitAnd (a : Int) (b : Int) = ((a &&& b : Nat) : Int) := by
 rw [bitAnd_pp (Int.natCast_nonneg _) (Int.natCast_nonneg _), Int.toNat_natCast, Int.toNat_natCast]
theorem bit_le {x l : Nat} (h : x.testBit l = true) : 2 ^ l ≤ x := Nat.ge_two_pow_of_testBit h
noncomputable def maskN : List Bool → Nat
 | [] => 0
 | b :: r => (if b then 1 else 0) + 2 * maskN r
theorem maskN_snoc : ∀ (l : List Bool) (b : Bool), maskN (l ++ [b]) = maskN l + 2 ^ l.length * (if b then 1 else 0)
 | [], b => by simp [maskN]
 | a :: r, b => by
   have ih := maskN_snoc r b
   show (if a then 1 else 0) + 2 * maskN (r ++ [b]) = (if a then 1 else 0) + 2 * maskN r + 2 ^ (r.length + 1) * (if b then 1 else 0)
   rw [ih, Nat.pow_succ, Nat.mul_add, Nat.mul_comm (2 ^ r.length) 2, Nat.mul_assoc]
   omega
theorem maskN_bit : ∀ (l : List Bool) (i : Nat), (maskN l).testBit i = l.getD i false
 | [], i => by simp [maskN]
 | a :: r, 0 => by
   show ((if a then 1 else 0) + 2 * maskN r).testBit 0 = a
   rw [Nat.testBit_zero]
   cases a <;> simp <;> omega
 | a :: r, i + 1 => by
   show ((if a then 1 else 0) + 2 * maskN r).testBit (i + 1) = r.getD i false
   rw [Nat.testBit_succ, ← maskN_bit r i]
   congr 1
   split <;> omega
structure OptL (st : Nat → Nat) (bs : List (Int × Nat)) : Prop where
 zero : ∀ v, bs[0]? = some v → v = (0, 0)
 hit : ∀ x v, 0 < x → bs[x]? = some v → x.testBit v.2 = true ∧ v.1 = (bs.getD (x - 2 ^ v.2) (0, 0)).1 + (onesN (st v.2 &&& x) : Int)
 low : ∀ x v, 0 < x → bs[x]? = some v → ∀ l, x.testBit l = true → v.1 ≤ (bs.getD (x - 2 ^ l) (0, 0)).1 + (onesN (st l &&& x) : Int)
theorem OptL.snoc {st : Nat → Nat} {bs : List (Int × Nat)} {v : Int × Nat} (h : OptL st bs) (hl : 0 < bs.length) (h1 : bs.length.testBit v.2 = true) (h2 : v.1 = (bs.getD (bs.length - 2 ^ v.2) (0, 0)).1 + (onesN (st v.2 &&& bs.length) : Int)) (h3 : ∀ l, bs.length.testBit l = true → v.1 ≤ (bs.getD (bs.length - 2 ^ l) (0, 0)).1 + (onesN (st l &&& bs.length) : Int)) : OptL st (bs ++ [v]) := by
 have hlow : ∀ {x l : Nat}, x.testBit l = true → x - 2 ^ l < x := fun {x l} hx => by
   have h4 := bit_le hx
   have h5 := Nat.two_pow_pos l
   omega
 have hget : ∀ {x u}, (bs ++ [v])[x]? = some u → (x < bs.length ∧ bs[x]? = some u) ∨ (x = bs.length ∧ u = v) := fun {x u} e => by
   rcases Nat.lt_trichotomy x bs.length with c | c | c
   · rw [List.getElem?_append_left c] at e; exact .inl ⟨c, e⟩
   · rw [c, List.getElem?_append_right (Nat.le_refl _), Nat.sub_self] at e; exact .inr ⟨c, (Option.some.inj e).symm⟩
   · rw [List.getElem?_eq_none (by rw [List.length_append]; simp; omega)] at e; cases e
 refine ⟨fun u e => ?_, fun x u hx e => ?_, fun x u hx e p hp => ?_⟩
 · rcases hget e with ⟨_, e'⟩ | ⟨c, _⟩
   · exact h.zero u e'
   · omega
 · rcases hget e with ⟨c, e'⟩ | ⟨c, rfl⟩
   · obtain ⟨a, b⟩ := h.hit x u hx e'
     refine ⟨a, ?_⟩
     rw [getD_app (Nat.lt_trans (hlow a) c)]
     exact b
   · subst c
     refine ⟨h1, ?_⟩
     rw [getD_app (hlow h1)]
     exact h2
 · rcases hget e with ⟨c, e'⟩ | ⟨c, rfl⟩
   · rw [getD_app (Nat.lt_trans (hlow hp) c)]
     exact h.low x u hx e' p hp
   · subst c
     rw [getD_app (hlow hp)]
     exact h3 p hp
noncomputable def mskOf (tg B : List Str) : Nat := maskN (tg.map fun p => decide (p ∈ B))
noncomputable def spPlace : Sp := fun vs H Q _ => ∃ (a b : Addr) (tg B : List Str), vs = [.ref a, .ref b] ∧ H a = some (.tup (tg.map V.str)) ∧ H b = some (.tup (B.map V.str)) ∧ tg.length ≤ 8 ∧ ∀ H', Same H H' → Q (.int (mskOf tg B : Int)) H'
theorem ok_place (T : Txt K mg) : L2.Cl P w K mg base 1 "place_of" ["tangle", "some"] spPlace := by
 refine Cl.of T.d_place_of sc_place_of (fun vs H Q E h => ?_) (fun _ _ _ _ _ _ us hl => by obtain ⟨a, b, rfl⟩ := len2 hl; rfl) (fun f cdv A outer s H vs Q E hr h => ?_)
 · obtain ⟨a, b, tg, B, rfl, _⟩ := h
   rfl
 · obtain ⟨a, b, tg, B, rfl, ha, hb, ht8, q⟩ := h
   refine ⟨_, (pss_one (ps_ret (pe_callB (call_sum rfl) (by rfl) T.n_sum boot_sum (pa_cons (pe_comp (M := ["number", "part", "some"]) (ρ := [none, none, some 1]) (defScope s_place_of) ["tangle", "some"] ⟨rfl, by decide +kernel, by decide +kernel, by decide +kernel, rfl, by decide +kernel, by decide +kernel⟩ (pi_enumT (by rfl) T.n_enumerate (pa_cons (pv 0) pa_nil)) (fun _ _ _ _ _ _ => (pg_tupK (K := K) (n := 2) rfl rfl (pgs_cons (pg_name (i := 0) (show (["number", "part", "some"] : List Str).Nodup by decide +kernel) rfl (Or.inl rfl)) (pgs_cons (pg_name (i := 1) (show (["number", "part", "some"] : List Str).Nodup by decide +kernel) rfl (Or.inl rfl)) pgs_nil)))) (fun _ _ _ _ _ _ => (pts_one (pt_cmpR (op_in_seqK (K := K) rfl) (pv 1) (pv 2) (by with_unfolding_all rfl)))) (fun _ _ _ _ _ _ => (pe_op op_shl pe_int (pv 0)))) pa_nil)))), ?_⟩
   refine ⟨_, rfl, a, rfl, ⟨_, SqT.of ha⟩, fun D gD => ?_⟩
   refine comp_by tg.length (fun i σ H2 => ∃ (v0 v1 : Option V) (ns : List Int), σ = [v0, v1, some (.ref b)] ∧ Same H H2 ∧ H2 D = some (.lst (ns.map V.int)) ∧ ns.length ≤ i ∧ ns.sum = ((maskN ((tg.take i).map fun p => decide (p ∈ B)) : Nat) : Int)) ⟨_, _, [], rfl, (Same.refl H).new gD, upd_same, Nat.le_refl _, by rw [List.take_zero]; rfl⟩ ?_ ?_
   · rintro i σ H2 hi ⟨v0, v1, ns, rfl, s2, hD2, hnl, hsum⟩
     have hn : tg[i]? = some tg[i] := by simp [hi]
     refine ⟨⟨_, .str tg[i], SqT.of (s2 _ _ ha), by simp [hi]⟩, ?_⟩
     rintro x H3 ⟨p, v, hv, gp, rfl, rfl⟩
     have ev : v = .str tg[i] := Option.some.inj ((hv _ (SqT.of (s2 _ _ ha))).symm.trans (by rw [List.getElem?_map, hn]; rfl))
     subst ev
     have s3 : Same H2 (upd H2 p (.tup [.int (i : Int), .str tg[i]])) := (Same.refl H2).new gp
     have hD3 := s3 _ _ hD2
     have htk : ((tg.take i).map fun p => decide (p ∈ B)).length = i := by rw [List.length_map, List.length_take]; omega
     have hmk : maskN ((tg.take (i + 1)).map fun p => decide (p ∈ B)) = maskN ((tg.take i).map fun p => decide (p ∈ B)) + 2 ^ i * (if decide (tg[i] ∈ B) then 1 else 0) := by
       rw [take_succ_get hn, List.map_append]
       show maskN (_ ++ [decide (tg[i] ∈ B)]) = _
       rw [maskN_snoc, htk]
     refine ⟨p, _, rfl, SqT.of upd_same, rfl, _, _, rfl, _, _, rfl, rfl, ?_⟩
     refine ⟨_, rfl, _, rfl, b, _, rfl, .inr (SqT.of (s3 _ _ (s2 _ _ hb))), rfl, strs_flat _, _, rfl, ?_⟩
     rw [if_neg Bool.false_ne_true, inV_strs]
     refine ite2 (fun e => ?_) (fun e => ?_)
     · refine ⟨_, rfl, _, _, rfl, rfl, ⟨by omega, by omega, by decide⟩, ns.map V.int, hD3, small1000 (by rw [List.length_map]; omega), _, _, ns ++ [1 * 2 ^ ((i : Int)).toNat], rfl, (s2.trans s3).put gD, by rw [upd_same, List.map_append]; rfl, by rw [List.length_append]; simp; omega, ?_⟩
       rw [hmk, if_pos e, List.sum_append, hsum, Int.toNat_natCast]
       simp
     · refine ⟨_, _, ns, rfl, s2.trans s3, hD3, by omega, ?_⟩
       rw [hmk, if_neg e, hsum]
       simp
   · rintro σ H2 ⟨v0, v1, ns, rfl, s2, hD2, hnl, hsum⟩
     refine ⟨⟨_, SqT.of (s2 _ _ ha), by simp⟩, ?_⟩
     rw [List.take_length] at hsum
     refine ⟨D, ns, rfl, SqL.of hD2, ?_⟩
     rw [hsum]
     exact q H2 s2
noncomputable def stepsOf (ps : List Pt) (tg : List Str) : List Nat := tg.map fun n => mskOf tg (k1 ps n)
noncomputable def spWithin : Sp := fun vs H Q _ => ∃ (a b : Addr) (ps : List Pt) (tg : List Str), vs = [.ref a, .ref b] ∧ PartsF H a ps ∧ PsFit ps ∧ H b = some (.tup (tg.map V.str)) ∧ (∀ n ∈ tg, n ∈ ps.map (·.1)) ∧ tg.length ≤ 8 ∧ ∀ (l : Addr) (H' : Hp), Same H H' → H' l = some (.lst (natsV (stepsOf ps tg))) → Q (.ref l) H'
theorem ok_within (T : Txt K mg) : L2.Cl P w K mg base 4 "steps_within" ["parts", "tangle"] spWithin := by
 have C_bringings := ok_bringings (P := P) (w := w) (base := base) T
 have C_place_of := ok_place (P := P) (w := w) (base := base) T
 refine Cl.of T.d_steps_within sc_steps_within (fun vs H Q E h => ?_) (fun _ _ _ _ _ _ us hl => by obtain ⟨a, b, rfl⟩ := len2 hl; rfl) (fun f cdv A outer s H vs Q E hr h => ?_)
 · obtain ⟨a, b, ps, tg, rfl, _⟩ := h
   rfl
 · obtain ⟨a, b, ps, tg, rfl, hpf, hfit, hb, htin, ht8, q⟩ := h
   have hu := hu_of hr
   refine ⟨_, (pss_cons (ps_if (pt_cmpR op_gt (pe_callB call_len_seq (by rfl) T.n_len PySem.boot_len (pa_cons (pv 1) pa_nil)) (pe_globS T.g_MOST_PARTS (by rfl)) (nomark _))
       (pss_one ps_never) pss_nil)
     (pss_cons (ps_set (i := 2) sc_steps_within.nd rfl (Or.inr rfl) (pe_fn C_bringings hr (by rfl) (pa_cons (pv 0) pa_nil)))
     (pss_one (ps_ret (pe_comp (M := ["part", "tangle", "onward"]) (ρ := [none, some 1, some 2]) (defScope s_steps_within) ["parts", "tangle", "onward"] ⟨rfl, by decide +kernel, by decide +kernel, by decide +kernel, rfl, by decide +kernel, by decide +kernel⟩ (pi_tup (pv 1)) (fun _ _ _ _ _ _ => (pg_name (i := 0) (show (["part", "tangle", "onward"] : List Str).Nodup by decide +kernel) rfl (Or.inl rfl))) (fun _ _ _ _ _ _ => pts_nil) (fun _ _ _ _ _ _ => (pe_fn C_place_of hr (by rfl) (pa_cons (pv 1) (pa_cons (pe_dget hu (pv 2) (pv 0) (fun _ _ => rfl)) pa_nil))))))))), ?_⟩
   refine ⟨_, rfl, b, _, rfl, .inr (SqT.of hb), _, _, rfl, rfl, _, rfl, ite2 (fun hh => absurd (of_decide_eq_true hh) (by rw [List.length_map]; omega)) fun _ => ?_⟩
   refine ⟨_, rfl, a, ps, rfl, hpf, hfit, fun d qs H1 s1 gd hd hqs => ?_⟩
   have hgv := br_val hfit.nd hqs
   refine ⟨_, rfl, b, rfl, ⟨_, SqT.of (s1 _ _ hb)⟩, fun D gD => ?_⟩
   refine comp_by tg.length (fun i σ H2 => ∃ v0 : Option V, σ = [v0, some (.ref b), some (.ref d)] ∧ Same H1 H2 ∧ H2 D = some (.lst (natsV ((stepsOf ps tg).take i)))) ⟨_, rfl, (Same.refl H1).new gD, by rw [upd_same, List.take_zero]; rfl⟩ ?_ ?_
   · rintro i σ H2 hi ⟨v0, rfl, s2, hD2⟩
     have hn : tg[i]? = some tg[i] := by simp [hi]
     have hb2 := s2 _ _ (s1 _ _ hb)
     refine ⟨⟨_, .str tg[i], SqT.of hb2, by simp [hi]⟩, ?_⟩
     rintro y H3 ⟨rfl, hy⟩
     have ey : y = .str tg[i] := Option.some.inj ((hy _ (SqT.of hb2)).symm.trans (by rw [List.getElem?_map, hn]; rfl))
     subst ey
     obtain ⟨u, hu1, hu2⟩ := hgv _ (htin _ (List.getElem_mem hi))
     have hg := DGet.k (k := Sum.inr tg[i]) (s2 _ _ hd)
     rw [hu1] at hg
     refine ntG ?_
     refine ⟨_, rfl, _, rfl, _, rfl, d, _, rfl, hg, b, u, tg, k1 ps tg[i], rfl, hb2, s2 _ _ hu2, ht8, fun H4 s4 => ?_⟩
     have hst : (stepsOf ps tg)[i]? = some (mskOf tg (k1 ps tg[i])) := by
       unfold stepsOf
       rw [List.getElem?_map, hn]
       rfl
     refine ⟨_, s4 _ _ hD2, small1000 (by rw [natsV_len, List.length_take]; unfold stepsOf; rw [List.length_map]; omega), _, rfl, (s2.trans s4).put gD, ?_⟩
     rw [upd_same, take_succ_get hst, natsV_snoc]
   · rintro σ H2 ⟨v0, rfl, s2, hD2⟩
     refine ⟨⟨_, SqT.of (s2 _ _ (s1 _ _ hb)), by simp⟩, ?_⟩
     rw [show tg.length = (stepsOf ps tg).length by unfold stepsOf; rw [List.length_map], List.take_length] at hD2
     exact q D H2 (s1.trans s2) hD2
theorem bitsL_mem {x l : Nat} (h : x < 2 ^ 24) : l ∈ bitsL x ↔ x.testBit l = true := by
 unfold bitsL
 rw [List.mem_filter, List.mem_range]
 refine ⟨fun z => z.2, fun z => ⟨?_, z⟩⟩
 have := bit_le z
 exact (Nat.pow_lt_pow_iff_right (by decide)).mp (Nat.lt_of_le_of_lt this h)
theorem bits_ones {x : Nat} (h : x < 2 ^ 24) : (bitsL x).length = onesN x := count_bits 24 x h
noncomputable def PrB (H : Hp) (v : V) (x : Int × Nat) : Prop := ∃ t, v = .ref t ∧ H t = some (.tup [.int x.1, .int (x.2 : Int)])
theorem PrB.mono {H H' : Hp} (s : Tups H H') {v : V} {x : Int × Nat} (h : PrB H v x) : PrB H' v x := by
 obtain ⟨t, e, h⟩ := h
 exact ⟨t, e, s _ _ h⟩
noncomputable def cntL (ss : List Nat) (bs : List (Int × Nat)) (x l : Nat) : Int := (bs.getD (x - 2 ^ l) (0, 0)).1 + (onesN (ss.getD l 0 &&& x) : Int)
noncomputable def spCount : Sp := fun vs H Q _ => ∃ (sl bl : Addr) (ss : List Nat) (us : List V) (bs : List (Int × Nat)) (x l : Nat), vs = [.ref sl, .ref bl, .int (x : Int), .int (l : Int)] ∧ H sl = some (.lst (natsV ss)) ∧ H bl = some (.lst us) ∧ Paired (PrB H) us bs ∧ x.testBit l = true ∧ x < 256 ∧ l < ss.length ∧ ss.length ≤ 8 ∧ x - 2 ^ l < bs.length ∧ ∀ H', Same H H' → Q (.int (cntL ss bs x l)) H'
theorem ok_count (T : Txt K mg) : L2.Cl P w K mg base 2 "count_with_last" ["steps", "best", "place", "last"] spCount := by
 have C_numbers_in := ok_in2 (P := P) (w := w) (base := base) T
 refine Cl.of T.d_count_with_last sc_count_with_last (fun vs H Q E h => ?_) (fun _ _ _ _ _ _ us hl => by obtain ⟨a, b, c, d, rfl⟩ := len4 hl; rfl) (fun f cdv A outer s H vs Q E hr h => ?_)
 · obtain ⟨sl, bl, ss, us, bs, x, l, rfl, _⟩ := h
   rfl
 · obtain ⟨sl, bl, ss, us, bs, x, l, rfl, hsl, hbl, hus, hbit, hx, hl, hs8, hxb, q⟩ := h
   have hle := bit_le hbit
   have h2 := Nat.two_pow_pos l
   have ep : (1 : Int) * 2 ^ ((l : Int)).toNat = ((2 ^ l : Nat) : Int) := by rw [Int.one_mul, Int.toNat_natCast, Int.natCast_pow]; rfl
   have hb : bs[x - 2 ^ l]? = some bs[x - 2 ^ l] := List.getElem?_eq_getElem hxb
   obtain ⟨u, hu', tb, eb, htb⟩ := Paired.get?' hus hb
   subst eb
   have atb : atI us ((x : Int) - 1 * 2 ^ ((l : Int)).toNat) = some (.ref tb) := by
     rw [ep, show (x : Int) - ((2 ^ l : Nat) : Int) = ((x - 2 ^ l : Nat) : Int) by omega]
     exact atI_nat hu'
   have z0 : atI [V.int (bs[x - 2 ^ l]).1, V.int ((bs[x - 2 ^ l]).2 : Int)] 0 = some (.int (bs[x - 2 ^ l]).1) := atI_nat (j := 0) rfl
   have hgs : ss.getD l 0 = ss[l] := by rw [List.getD_eq_getElem?_getD, List.getElem?_eq_getElem hl]; rfl
   have ats : atI (natsV ss) (l : Int) = some (.int ((ss.getD l 0 : Nat) : Int)) := by
     rw [hgs]
     exact atI_nat (by unfold natsV; rw [List.getElem?_map, List.getElem?_eq_getElem hl]; rfl)
   have hgd : (bs.getD (x - 2 ^ l) (0, 0)) = bs[x - 2 ^ l] := by rw [List.getD_eq_getElem?_getD, hb]; rfl
   have hlt : ss.getD l 0 &&& x < 2 ^ 24 := Nat.lt_of_le_of_lt Nat.and_le_right (by omega)
   refine ⟨_, (pss_one (ps_ret (pe_op op_add (pe_ix ix_tup (pe_ix ix_list (pv 1) (pe_op op_sub (pv 2) (pe_op op_shl pe_int (pv 3))) (fun _ _ => rfl)) pe_int (fun _ _ => rfl)) (pe_callB call_len_seq (by rfl) T.n_len PySem.boot_len (pa_cons (pe_fn C_numbers_in hr (by rfl) (pa_cons (pe_op op_and (pe_ix ix_list (pv 0) (pv 3) (fun _ _ => rfl)) (pv 2)) pa_nil)) pa_nil))))), ?_⟩
   refine ⟨_, rfl, _, rfl, _, rfl, _, _, rfl, rfl, ⟨by omega, by omega, by decide⟩, _, _, rfl, rfl, bl, _, _, _, rfl, rfl, SqL.of hbl, atb, tb, _, _, _, rfl, rfl, SqT.of htb, z0, _, rfl, _, rfl, sl, _, _, _, rfl, rfl, SqL.of hsl, ats, _, rfl, _, _, rfl, rfl, ss.getD l 0 &&& x, (by show [V.int (Builtin.bitAnd ((ss.getD l 0 : Nat) : Int) (x : Int))] = _; rw [bitAnd_nat]), hlt, fun p H1 s1 hp => ?_⟩
   refine ⟨p, _, rfl, .inr (SqT.of hp), _, _, rfl, rfl, ?_⟩
   rw [natsV_len, bits_ones hlt]
   have := q H1 s1
   unfold cntL at this
   rw [hgd] at this
   exact this
noncomputable def spLasts : Sp := fun vs H Q _ => ∃ (sl : Addr) (ss : List Nat), vs = [.ref sl] ∧ H sl = some (.lst (natsV ss)) ∧ ss.length ≤ 8 ∧ ∀ (l : Addr) (us : List V) (bs : List (Int × Nat)) (H' : Hp), Same H H' → H' l = some (.lst us) → Paired (PrB H') us bs → OptL (fun k => ss.getD k 0) bs → bs.length = 2 ^ ss.length → Q (.ref l) H'
theorem ok_lasts (T : Txt K mg) : L2.Cl P w K mg base 3 "best_lasts" ["steps"] spLasts := by
 have C_numbers_in := ok_in2 (P := P) (w := w) (base := base) T
 have C_count_with_last := ok_count (P := P) (w := w) (base := base) T
 refine Cl.of T.d_best_lasts sc_best_lasts (fun vs H Q E h => ?_) (fun _ _ _ _ _ _ us hl => by obtain ⟨a, rfl⟩ := len1 hl; rfl) (fun f cdv A outer s H vs Q E hr h => ?_)
 · obtain ⟨sl, ss, rfl, _⟩ := h
   rfl
 · obtain ⟨sl, ss, rfl, hsl, hs8, q⟩ := h
   have hu := hu_of hr
   have h256 : 2 ^ ss.length ≤ 256 := two_le hs8
   have hpos : 0 < 2 ^ ss.length := Nat.two_pow_pos _
   refine ⟨_, (pss_cons (ps_set (i := 1) sc_best_lasts.nd rfl (Or.inr rfl) (pe_lst (pa_cons (pe_tup (pa_cons pe_int (pa_cons pe_int pa_nil))) pa_nil)))
     (pss_cons (ps_for PassesOwn.never rfl (pi_range2 (by rfl) T.n_range (pa_cons pe_int (pa_cons (pe_op op_shl pe_int (pe_callB call_len_seq (by rfl) T.n_len PySem.boot_len (pa_cons (pv 0) pa_nil))) pa_nil))) (pg_name (i := 2) sc_best_lasts.nd rfl (Or.inr rfl))
       (pss_one (ps_expr (pe_bm PySem.F.plainAttrs_list PySem.F.slot_list_append PySem.F.type_list_append mt_append (pv 1) (pa_cons (pe_callB (call_minP rfl hu) (by rfl) T.n_min boot_min (pa_cons (pe_comp (M := ["last", "steps", "best", "place"]) (ρ := [none, some 0, some 1, some 2]) (defScope s_best_lasts) ["steps", "best", "place"] ⟨rfl, by decide +kernel, by decide +kernel, by decide +kernel, rfl, by decide +kernel, by decide +kernel⟩ (pi_tup (pe_fn C_numbers_in hr (by rfl) (pa_cons (pv 2) pa_nil))) (fun _ _ _ _ _ _ => (pg_name (i := 0) (show (["last", "steps", "best", "place"] : List Str).Nodup by decide +kernel) rfl (Or.inl rfl))) (fun _ _ _ _ _ _ => pts_nil) (fun _ _ _ _ _ _ => (pe_tup (pa_cons (pe_fn C_count_with_last hr (by rfl) (pa_cons (pv 1) (pa_cons (pv 2) (pa_cons (pv 3) (pa_cons (pv 0) pa_nil))))) (pa_cons (pv 0) pa_nil))))) pa_nil)) pa_nil)))))
     (pss_one (ps_ret (pv 1))))), ?_⟩
   refine ⟨(by show 2 ≤ sizeLine; decide), fun q0 gq => ?_⟩
   have s3 : Same H (upd H q0 (.tup [.int 0, .int 0])) := (Same.refl H).new gq
   have hq0 : upd H q0 (.tup [.int 0, .int 0]) q0 = some (.tup [.int 0, .int 0]) := upd_same
   generalize upd H q0 (.tup [.int 0, .int 0]) = H3 at s3 hq0 ⊢
   refine ⟨(by show 1 ≤ sizeLine; decide), fun B gB => ?_⟩
   have gBH : H B = none := s3.free gB
   have s4 : Same H (upd H3 B (.lst [.ref q0])) := s3.new gB
   have hB4 : upd H3 B (.lst [.ref q0]) B = some (.lst [.ref q0]) := upd_same
   have hq4 : upd H3 B (.lst [.ref q0]) q0 = some (.tup [.int 0, .int 0]) := upd_keep hq0 gB
   generalize upd H3 B (.lst [.ref q0]) = H4 at s4 hB4 hq4 ⊢
   have e2 : (1 : Int) * 2 ^ (((natsV ss).length : Int)).toNat = ((2 ^ ss.length : Nat) : Int) := by
     rw [Int.one_mul, Int.toNat_natCast, natsV_len, Int.natCast_pow]
     rfl
   refine ⟨_, rfl, sl, _, rfl, .inl (SqL.of (s4 _ _ hsl)), _, _, rfl, rfl, ⟨by omega, by rw [natsV_len]; omega, by decide⟩, _, _, rfl, ?_⟩
   rw [e2]
   have hn : (((2 ^ ss.length : Nat) : Int) - 1).toNat = 2 ^ ss.length - 1 := by omega
   refine ⟨⟨by omega, by omega, by omega, by omega⟩, ?_⟩
   rw [hn]
   refine for_range (fun i σ H5 => ∃ (v2 : Option V) (us : List V) (bs : List (Int × Nat)), σ = [some (.ref sl), some (.ref B), v2] ∧ Same H H5 ∧ H5 B = some (.lst us) ∧ Paired (PrB H5) us bs ∧ OptL (fun k => ss.getD k 0) bs ∧ bs.length = i + 1)
     ⟨none, [.ref q0], [(0, 0)], rfl, s4, hB4, .cons ⟨q0, rfl, hq4⟩ .nil, ⟨fun v e => (Option.some.inj e).symm, fun x v hx e => ?_, fun x v hx e => ?_⟩, rfl⟩ ?_ ?_
   · rw [List.getElem?_eq_none (by simp; omega)] at e; cases e
   · rw [List.getElem?_eq_none (by simp; omega)] at e; cases e
   · rintro i σ H5 hi ⟨v2, us, bs, rfl, s5, hB5, hus, hopt, hbl⟩
     have hul : us.length = bs.length := Paired.length hus
     have ex : (1 : Int) + (i : Int) = ((bs.length : Nat) : Int) := by omega
     rw [ex]
     have hx24 : bs.length < 2 ^ 24 := by omega
     refine ⟨_, rfl, .inl ⟨rfl, _, SqL.of hB5⟩, _, rfl, bs.length, rfl, hx24, fun p H6 s6 hp => ?_⟩
     have hbm := fun l => bitsL_mem (x := bs.length) (l := l) hx24
     have hbl24 : (bitsL bs.length).length ≤ 24 := bitsL_len (n := 24) hx24 (by decide)
     have hbne : bitsL bs.length ≠ [] := fun z => by
       have h1 := bits_ones hx24
       rw [z] at h1
       obtain ⟨k, m, e⟩ := odd_part bs.length (by omega)
       have : k ∈ bitsL bs.length := (hbm k).mpr (by rw [Nat.testBit_eq_decide_div_mod_eq, e, Nat.mul_div_cancel_left _ (Nat.two_pow_pos k)]; exact decide_eq_true (by omega))
       rw [z] at this
       simp at this
     generalize bitsL bs.length = ls at hp hbm hbl24 hbne
     refine ⟨p, rfl, ⟨_, SqT.of hp⟩, fun D7 gD7 => ?_⟩
     refine comp_by ls.length (fun j σ H7 => ∃ (v0 : Option V) (ws : List V), σ = [v0, some (.ref sl), some (.ref B), some (.int ((bs.length : Nat) : Int))] ∧ Same H6 H7 ∧ H7 D7 = some (.lst ws) ∧ Paired (PrB H7) ws ((ls.take j).map fun l => (cntL ss bs bs.length l, l))) ⟨_, [], rfl, (Same.refl H6).new gD7, upd_same, by rw [List.take_zero]; exact .nil⟩ ?_ ?_
     · rintro j σ H7 hj ⟨v0, ws, rfl, s7, hD7, hws⟩
       refine ⟨⟨_, .int (ls[j] : Int), SqT.of (s7 _ _ hp), by unfold natsV; simp [hj]⟩, ?_⟩
       rintro y H8 ⟨rfl, hy⟩
       obtain ⟨l, hl, rfl⟩ := natsV_get (hy _ (SqT.of (s7 _ _ hp)))
       have hbit := (hbm l).mp (List.mem_of_getElem? hl)
       have hble := bit_le hbit
       have hlss : l < ss.length := (Nat.pow_lt_pow_iff_right (a := 2) (by decide)).mp (by omega)
       have h2l := Nat.two_pow_pos l
       have hwl : ws.length ≤ 24 := by rw [Paired.length hws, List.length_map, List.length_take]; omega
       have s67 := s6.trans s7
       refine ntG ?_
       refine ⟨_, rfl, _, rfl, _, rfl, _, rfl, sl, B, ss, us, bs, bs.length, l, rfl, s67 _ _ (s5 _ _ hsl), s67 _ _ hB5, Paired.mapP hus fun _ _ z => z.mono s67.tups, hbit, by omega, hlss, hs8, by omega, fun H9 s9 => ?_⟩
       refine ⟨_, rfl, (by show 2 ≤ sizeLine; decide), fun r gr => ?_⟩
       have s8 := (Same.refl H9).new (o := .tup [.int (cntL ss bs bs.length l), .int (l : Int)]) gr
       have hD9 := s8 _ _ (s9 _ _ hD7)
       have T9 := Tups.lst (ys := ws ++ [.ref r]) hD9
       refine ⟨ws, hD9, small1000 (by omega), _, ws ++ [.ref r], rfl, ((s7.trans s9).trans s8).put gD7, upd_same, ?_⟩
       rw [take_succ_get hl, List.map_append]
       refine Paired.snoc (Paired.mapP hws fun _ _ z => z.mono ((s9.trans s8).tups.trans T9)) ⟨r, rfl, T9 _ _ ?_⟩
       rw [upd_same]
     rintro σ H7 ⟨v0, ws, rfl, s7, hD7, hws⟩
     refine ⟨⟨_, SqT.of (s7 _ _ hp), by rw [natsV_len]; exact Nat.le_refl _⟩, ?_⟩
     rw [List.take_length] at hws
     refine ⟨D7, ws, (ls.map fun l => (cntL ss bs bs.length l, l)).map fun x => (x.1, (x.2 : Int)), rfl, SqL.of hD7, ?_, fun z => hbne (List.map_eq_nil_iff.mp (List.map_eq_nil_iff.mp z)), fun k v n hv hn hmin => ?_⟩
     · clear hD7
       generalize (ls.map fun l => (cntL ss bs bs.length l, l)) = xs at hws ⊢
       induction hws with
       | nil => exact .nil
       | cons h _ ih =>
         obtain ⟨tt, e, ht⟩ := h
         exact .cons ⟨tt, e, SqT.of ht⟩ ih
     obtain ⟨x, hx, tv, ev, htv⟩ := Paired.get? hws hv
     subst ev
     rw [List.getElem?_map] at hx
     cases ep : ls[k]? with
     | none => rw [ep] at hx; cases hx
     | some l =>
       rw [ep] at hx
       cases hx
       have hn' : n = (cntL ss bs bs.length l, (l : Int)) := by
         rw [List.getElem?_map, List.getElem?_map, ep] at hn
         exact (Option.some.inj hn).symm
       have hbit := (hbm l).mp (List.mem_of_getElem? ep)
       have hB7 := (s6.trans s7) _ _ hB5
       refine ⟨B, _, _, rfl, rfl, hB7, small1000 (by omega), ?_⟩
       have T8 := Tups.lst (ys := us ++ [.ref tv]) hB7
       refine ⟨_, us ++ [.ref tv], bs ++ [(cntL ss bs bs.length l, l)], rfl, ((s5.trans s6).trans s7).put gBH, upd_same, ?_, ?_, ?_⟩
       · exact Paired.snoc (Paired.mapP hus fun _ _ z => z.mono ((s6.trans s7).tups.trans T8)) ⟨tv, rfl, T8 _ _ htv⟩
       · refine hopt.snoc (by omega) hbit rfl fun l' hl' => ?_
         have h1 := hmin (cntL ss bs bs.length l', (l' : Int)) (List.mem_map.mpr ⟨_, List.mem_map.mpr ⟨l', (hbm l').mpr hl', rfl⟩, rfl⟩)
         rw [hn'] at h1
         exact h1
       · rw [List.length_append, hbl]; rfl
   · rintro σ H5 ⟨v2, us, bs, rfl, s5, hB5, hus, hopt, hbl⟩
     exact ⟨_, rfl, q B us bs H5 s5 hB5 hus hopt (by omega)⟩
theorem sub_bit : ∀ (l x a : Nat), x.testBit l = true → (x - 2 ^ l).testBit a = (x.testBit a && !decide (a = l))
 | 0, x, 0, h => by
   rw [Nat.testBit_zero] at h
   have h' : x % 2 = 1 := of_decide_eq_true h
   rw [Nat.testBit_zero, Nat.testBit_zero]
   have e : (x - 2 ^ 0) % 2 = 0 := by omega
   rw [e]
   simp
 | 0, x, a + 1, h => by
   rw [Nat.testBit_zero] at h
   have h' : x % 2 = 1 := of_decide_eq_true h
   rw [Nat.testBit_succ, Nat.testBit_succ, show (x - 2 ^ 0) / 2 = x / 2 by omega]
   simp
 | l + 1, x, 0, h => by
   rw [Nat.testBit_succ] at h
   have hle : 2 ^ l ≤ x / 2 := Nat.ge_two_pow_of_testBit h
   have hp : 2 ^ (l + 1) = 2 * 2 ^ l := by rw [Nat.pow_succ, Nat.mul_comm]
   rw [Nat.testBit_zero, Nat.testBit_zero, show (x - 2 ^ (l + 1)) % 2 = x % 2 by rw [hp]; omega]
   simp
 | l + 1, x, a + 1, h => by
   rw [Nat.testBit_succ] at h
   have ih := sub_bit l (x / 2) a h
   have hle : 2 ^ l ≤ x / 2 := Nat.ge_two_pow_of_testBit h
   have hp : 2 ^ (l + 1) = 2 * 2 ^ l := by rw [Nat.pow_succ, Nat.mul_comm]
   rw [Nat.testBit_succ, Nat.testBit_succ, show (x - 2 ^ (l + 1)) / 2 = x / 2 - 2 ^ l by rw [hp]; omega, ih]
   congr 2
   exact decide_eq_decide.mpr ⟨fun z => by omega, fun z => by omega⟩
noncomputable def pick (st : Nat → Nat) (bs : List (Int × Nat)) : Nat → Nat → List (Nat × Nat)
 | 0, _ => []
 | k + 1, x => if x = 0 then [] else (bitsL (st (bs.getD x (0, 0)).2 &&& x)).map (fun m => ((bs.getD x (0, 0)).2, m)) ++ pick st bs k (x - 2 ^ (bs.getD x (0, 0)).2)
theorem pick_zero (st : Nat → Nat) (bs : List (Int × Nat)) (k : Nat) : pick st bs k 0 = [] := by
 cases k with
 | zero => rfl
 | succ k => rfl
theorem pick_succ {st : Nat → Nat} {bs : List (Int × Nat)} {k x : Nat} (h : x ≠ 0) : pick st bs (k + 1) x = (bitsL (st (bs.getD x (0, 0)).2 &&& x)).map (fun m => ((bs.getD x (0, 0)).2, m)) ++ pick st bs k (x - 2 ^ (bs.getD x (0, 0)).2) := by
 show (if x = 0 then [] else _) = _
 rw [if_neg h]
theorem getD_some {bs : List (Int × Nat)} {x : Nat} (h : x < bs.length) : bs[x]? = some (bs.getD x (0, 0)) := by
 rw [List.getD_eq_getElem?_getD, List.getElem?_eq_getElem h]; rfl
theorem OptL.bit {st : Nat → Nat} {bs : List (Int × Nat)} (h : OptL st bs) {x : Nat} (hx : x ≠ 0) (hl : x < bs.length) : x.testBit (bs.getD x (0, 0)).2 = true := (h.hit x _ (by omega) (getD_some hl)).1
theorem OptL.less {st : Nat → Nat} {bs : List (Int × Nat)} (h : OptL st bs) {x : Nat} (hx : x ≠ 0) (hl : x < bs.length) : x - 2 ^ (bs.getD x (0, 0)).2 < x := by
 have h1 := bit_le (h.bit hx hl)
 have h2 := Nat.two_pow_pos (bs.getD x (0, 0)).2
 omega
theorem and24 {s x : Nat} (h : x < 2 ^ 24) : s &&& x < 2 ^ 24 := Nat.lt_of_le_of_lt Nat.and_le_right h
theorem pick_len {st : Nat → Nat} {bs : List (Int × Nat)} (h : OptL st bs) : ∀ k x, x ≤ k → x < bs.length → x < 2 ^ 24 → ((pick st bs k x).length : Int) = (bs.getD x (0, 0)).1
 | k, 0, _, hl, _ => by
   rw [pick_zero, h.zero _ (getD_some hl)]
   rfl
 | 0, x + 1, hk, _, _ => by omega
 | k + 1, x + 1, hk, hl, h24 => by
   obtain ⟨h1, h2⟩ := h.hit (x + 1) _ (by omega) (getD_some hl)
   have hlt := h.less (by omega) hl
   have ih := pick_len h k (x + 1 - 2 ^ (bs.getD (x + 1) (0, 0)).2) (by omega) (by omega) (by omega)
   rw [pick_succ (by omega), List.length_append, List.length_map, bits_ones (and24 h24), h2, ← ih]
   omega
theorem pick_small (st : Nat → Nat) (bs : List (Int × Nat)) : ∀ k x, (pick st bs k x).length ≤ 24 * k
 | 0, _ => Nat.le_refl _
 | k + 1, x => by
   by_cases hx : x = 0
   · rw [hx, pick_zero]; exact Nat.zero_le _
   · have ih := pick_small st bs k (x - 2 ^ (bs.getD x (0, 0)).2)
     have h2 : (bitsL (st (bs.getD x (0, 0)).2 &&& x)).length ≤ 24 := by
       unfold bitsL
       exact Nat.le_trans (List.length_filter_le _ _) (by rw [List.length_range]; exact Nat.le_refl _)
     rw [pick_succ hx, List.length_append, List.length_map]
     omega
theorem pick_mem {st : Nat → Nat} {bs : List (Int × Nat)} (h : OptL st bs) : ∀ k x, x < bs.length → x < 2 ^ 24 → ∀ p ∈ pick st bs k x, x.testBit p.1 = true ∧ x.testBit p.2 = true ∧ (st p.1).testBit p.2 = true
 | 0, _, _, _, p, hp => by simp [pick] at hp
 | k + 1, x, hl, h24, p, hp => by
   by_cases hx : x = 0
   · rw [hx, pick_zero] at hp; simp at hp
   rw [pick_succ hx] at hp
   have hb := h.bit hx hl
   have hlt := h.less hx hl
   rcases List.mem_append.mp hp with z | z
   · obtain ⟨m, hm, e⟩ := List.mem_map.mp z
     have hm' := (bitsL_mem (and24 h24)).mp hm
     rw [Nat.testBit_and] at hm'
     have h3 := Bool.and_eq_true_iff.mp hm'
     rw [← e]
     exact ⟨hb, h3.2, h3.1⟩
   · obtain ⟨a1, a2, a3⟩ := pick_mem h k _ (by omega) (by omega) p z
     rw [sub_bit _ _ _ hb] at a1 a2
     exact ⟨(Bool.and_eq_true_iff.mp a1).1, (Bool.and_eq_true_iff.mp a2).1, a3⟩
theorem pick_nodup {st : Nat → Nat} {bs : List (Int × Nat)} (h : OptL st bs) : ∀ k x, x < bs.length → x < 2 ^ 24 → (pick st bs k x).Nodup
 | 0, _, _, _ => List.nodup_nil
 | k + 1, x, hl, h24 => by
   by_cases hx : x = 0
   · rw [hx, pick_zero]; exact List.nodup_nil
   have hb := h.bit hx hl
   have hlt := h.less hx hl
   rw [pick_succ hx]
   refine List.nodup_append.mpr ⟨?_, pick_nodup h k _ (by omega) (by omega), fun a ha b hb' e => ?_⟩
   · unfold List.Nodup
     rw [List.pairwise_map]
     refine List.Pairwise.imp (fun hne z => hne (Prod.mk.inj z).2) (show (bitsL _).Nodup from ?_)
     unfold bitsL
     exact List.nodup_range.filter _
   · obtain ⟨m, hm, e1⟩ := List.mem_map.mp ha
     obtain ⟨a1, _, _⟩ := pick_mem h k _ (by omega) (by omega) b hb'
     rw [sub_bit _ _ _ hb, ← e, ← e1] at a1
     simp at a1
theorem pick_rank {st : Nat → Nat} {bs : List (Int × Nat)} (h : OptL st bs) : ∀ k x, x ≤ k → x < bs.length → x < 2 ^ 24 → ∃ ρ : Nat → Nat, (∀ a, ρ a ≤ k) ∧ ∀ a b, x.testBit a = true → x.testBit b = true → (st a).testBit b = true → (a, b) ∉ pick st bs k x → ρ b < ρ a
 | 0, x, hk, _, _ => ⟨fun _ => 0, fun _ => Nat.le_refl _, fun a b ha => by rw [Nat.le_zero.mp hk] at ha; simp at ha⟩
 | k + 1, x, hk, hl, h24 => by
   by_cases hx : x = 0
   · exact ⟨fun _ => 0, fun _ => Nat.zero_le _, fun a b ha => by rw [hx] at ha; simp at ha⟩
   have hb := h.bit hx hl
   have hlt := h.less hx hl
   obtain ⟨ρ, h1, h2⟩ := pick_rank h k (x - 2 ^ (bs.getD x (0, 0)).2) (by omega) (by omega) (by omega)
   rw [pick_succ hx]
   generalize (bs.getD x (0, 0)).2 = l at hb hlt h2 ⊢
   refine ⟨fun a => if a = l then 0 else ρ a + 1, fun a => ?_, fun a b ha hb' hs hn => ?_⟩
   · show (if a = l then 0 else ρ a + 1) ≤ k + 1
     have := h1 a
     split <;> omega
   · show (if b = l then 0 else ρ b + 1) < (if a = l then 0 else ρ a + 1)
     have hn1 : ∀ p ∈ (bitsL (st l &&& x)).map (fun m => (l, m)), p ≠ (a, b) := fun p hp z => hn (z ▸ List.mem_append_left _ hp)
     have hn2 : (a, b) ∉ pick st bs k (x - 2 ^ l) := fun z => hn (List.mem_append_right _ z)
     by_cases e : a = l
     · exfalso
       refine hn1 (l, b) (List.mem_map.mpr ⟨b, (bitsL_mem (and24 h24)).mpr ?_, rfl⟩) (by rw [e])
       rw [Nat.testBit_and, hb', ← e, hs]
       rfl
     · rw [if_neg e]
       by_cases e2 : b = l
       · rw [if_pos e2]; omega
       · rw [if_neg e2]
         have := h2 a b (by rw [sub_bit _ _ _ hb, ha]; simp [e]) (by rw [sub_bit _ _ _ hb, hb']; simp [e2]) hs hn2
         omega
theorem opt_uniq {st : Nat → Nat} {bs bs' : List (Int × Nat)} (h : OptL st bs) (h' : OptL st bs') (hl : bs.length = bs'.length) : ∀ n x, x ≤ n → x < bs.length → (bs.getD x (0, 0)).1 = (bs'.getD x (0, 0)).1
 | n, 0, _, hx => by rw [h.zero _ (getD_some hx), h'.zero _ (getD_some (by omega))]
 | 0, x + 1, hn, _ => by omega
 | n + 1, x + 1, hn, hx => by
   have hx' : x + 1 < bs'.length := by omega
   have a := h.hit (x + 1) _ (by omega) (getD_some hx)
   have b := h'.hit (x + 1) _ (by omega) (getD_some hx')
   have c := h.low (x + 1) _ (by omega) (getD_some hx) _ b.1
   have d := h'.low (x + 1) _ (by omega) (getD_some hx') _ a.1
   have l1 := h.less (x := x + 1) (by omega) hx
   have l2 := h'.less (x := x + 1) (by omega) hx'
   have e1 := opt_uniq h h' hl n (x + 1 - 2 ^ (bs.getD (x + 1) (0, 0)).2) (by omega) (by omega)
   have e2 := opt_uniq h h' hl n (x + 1 - 2 ^ (bs'.getD (x + 1) (0, 0)).2) (by omega) (by omega)
   omega
structure CutOk (g : Str → List Str) (tg : List Str) (cs : List (Str × Str)) : Prop where
 mem : ∀ c ∈ cs, c.1 ∈ tg ∧ c.2 ∈ tg ∧ c.2 ∈ g c.1
 nd : cs.Nodup
 rank : ∃ ρ : Str → Nat, (∀ a, ρ a ≤ 256) ∧ ∀ a ∈ tg, ∀ b ∈ tg, b ∈ g a → (a, b) ∉ cs → ρ b < ρ a
noncomputable def cutN (tg : List Str) (ps : List (Nat × Nat)) : List (Str × Str) := ps.map fun p => (tg.getD p.1 "", tg.getD p.2 "")
theorem steps_bit {ps : List Pt} {tg : List Str} {a b : Nat} (ha : a < tg.length) (hb : b < tg.length) : ((stepsOf ps tg).getD a 0).testBit b = decide (tg.getD b "" ∈ k1 ps (tg.getD a "")) := by
 have e1 : (stepsOf ps tg).getD a 0 = mskOf tg (k1 ps (tg.getD a "")) := by
   unfold stepsOf
   rw [List.getD_eq_getElem?_getD, List.getElem?_map, List.getElem?_eq_getElem ha, List.getD_eq_getElem?_getD, List.getElem?_eq_getElem ha]
   rfl
 rw [e1]
 unfold mskOf
 have e2 : tg.getD b "" = tg[b] := by rw [List.getD_eq_getElem?_getD, List.getElem?_eq_getElem hb]; rfl
 rw [maskN_bit, List.getD_eq_getElem?_getD, List.getElem?_map, List.getElem?_eq_getElem hb, e2]
 rfl
theorem getD_in {tg : List Str} {i : Nat} (h : i < tg.length) : tg.getD i "" ∈ tg := by
 rw [List.getD_eq_getElem?_getD, List.getElem?_eq_getElem h]
 exact List.getElem_mem h
theorem getD_inj {tg : List Str} (hn : tg.Nodup) {i j : Nat} (hi : i < tg.length) (hj : j < tg.length) (e : tg.getD i "" = tg.getD j "") : i = j := by
 rw [List.getD_eq_getElem?_getD, List.getElem?_eq_getElem hi, List.getD_eq_getElem?_getD, List.getElem?_eq_getElem hj] at e
 exact nd_inj hn hi hj e
theorem cut_ok {ps : List Pt} {tg : List Str} {bs : List (Int × Nat)} (h : OptL (fun k => (stepsOf ps tg).getD k 0) bs) (hl : bs.length = 2 ^ tg.length) (hn : tg.Nodup) (h8 : tg.length ≤ 8) : CutOk (k1 ps) tg (cutN tg (pick (fun k => (stepsOf ps tg).getD k 0) bs 256 (2 ^ tg.length - 1))) := by
 have h256 : 2 ^ tg.length ≤ 256 := two_le h8
 have hpos := Nat.two_pow_pos tg.length
 have hbit : ∀ i, (2 ^ tg.length - 1).testBit i = decide (i < tg.length) := fun i => Nat.testBit_two_pow_sub_one _ _
 have hm := pick_mem h 256 (2 ^ tg.length - 1) (by omega) (by omega)
 have hm' : ∀ p ∈ pick (fun k => (stepsOf ps tg).getD k 0) bs 256 (2 ^ tg.length - 1), p.1 < tg.length ∧ p.2 < tg.length ∧ tg.getD p.2 "" ∈ k1 ps (tg.getD p.1 "") := fun p hp => by
   obtain ⟨a1, a2, a3⟩ := hm p hp
   rw [hbit] at a1 a2
   have l1 := of_decide_eq_true a1
   have l2 := of_decide_eq_true a2
   refine ⟨l1, l2, ?_⟩
   have := steps_bit (ps := ps) l1 l2
   rw [a3] at this
   exact of_decide_eq_true this.symm
 refine ⟨fun c hc => ?_, ?_, ?_⟩
 · obtain ⟨p, hp, e⟩ := List.mem_map.mp hc
   obtain ⟨l1, l2, l3⟩ := hm' p hp
   rw [← e]
   exact ⟨getD_in l1, getD_in l2, l3⟩
 · unfold cutN List.Nodup
   rw [List.pairwise_map]
   refine List.Pairwise.imp_of_mem (fun {a b} ha hb hne z => hne ?_) (pick_nodup h 256 (2 ^ tg.length - 1) (by omega) (by omega))
   obtain ⟨z1, z2⟩ := Prod.mk.inj z
   exact Prod.ext (getD_inj hn (hm' a ha).1 (hm' b hb).1 z1) (getD_inj hn (hm' a ha).2.1 (hm' b hb).2.1 z2)
 · obtain ⟨ρ, h1, h2⟩ := pick_rank h 256 (2 ^ tg.length - 1) (by omega) (by omega) (by omega)
   refine ⟨fun a => ρ (tg.idxOf a), fun a => h1 _, fun a ha b hb hg hc => ?_⟩
   have ia := List.idxOf_lt_length_iff.mpr ha
   have ib := List.idxOf_lt_length_iff.mpr hb
   have ea : tg.getD (tg.idxOf a) "" = a := by rw [List.getD_eq_getElem?_getD, idx_at ha]; rfl
   have eb : tg.getD (tg.idxOf b) "" = b := by rw [List.getD_eq_getElem?_getD, idx_at hb]; rfl
   refine h2 _ _ (by rw [hbit]; exact decide_eq_true ia) (by rw [hbit]; exact decide_eq_true ib) ?_ fun z => hc (List.mem_map.mpr ⟨_, z, by rw [ea, eb]⟩)
   show ((stepsOf ps tg).getD _ 0).testBit _ = true
   rw [steps_bit ia ib, ea, eb]
   exact decide_eq_true hg
noncomputable def pairsOf (N : List Str) (p : Str → Str → Bool) : List (Str × Str) := N.flatMap fun a => (N.filter (p a)).map fun b => (a, b)
theorem mem_pairsOf {N : List Str} {p : Str → Str → Bool} {c : Str × Str} : c ∈ pairsOf N p ↔ c.1 ∈ N ∧ c.2 ∈ N ∧ p c.1 c.2 = true := by
 unfold pairsOf
 rw [List.mem_flatMap]
 constructor
 · rintro ⟨a, ha, h⟩
   obtain ⟨b, hb, e⟩ := List.mem_map.mp h
   have := List.mem_filter.mp hb
   rw [← e]
   exact ⟨ha, this.1, this.2⟩
 · rintro ⟨h1, h2, h3⟩
   exact ⟨c.1, h1, List.mem_map.mpr ⟨c.2, List.mem_filter.mpr ⟨h2, h3⟩, rfl⟩⟩
theorem pairsL_nodup {N M : List Str} {p : Str → Str → Bool} (hn : N.Nodup) (hm : M.Nodup) : (M.flatMap fun a => (N.filter (p a)).map fun b => (a, b)).Nodup := by
 induction M with
 | nil => exact List.nodup_nil
 | cons a r ih =>
   obtain ⟨h1, h2⟩ := List.nodup_cons.mp hm
   rw [List.flatMap_cons]
   refine List.nodup_append.mpr ⟨?_, ih h2, fun x hx y hy e => ?_⟩
   · unfold List.Nodup
     rw [List.pairwise_map]
     exact List.Pairwise.imp (fun hne z => hne (Prod.mk.inj z).2) (hn.filter (p a))
   · obtain ⟨b, _, e1⟩ := List.mem_map.mp hx
     obtain ⟨c, hc, hy'⟩ := List.mem_flatMap.mp hy
     obtain ⟨d, _, e2⟩ := List.mem_map.mp hy'
     rw [← e1, ← e2] at e
     rw [(Prod.mk.inj e).1] at h1
     exact h1 hc
theorem pairsOf_nodup {N : List Str} {p : Str → Str → Bool} (hn : N.Nodup) : (pairsOf N p).Nodup := pairsL_nodup hn hn
theorem pairsL_congr {N : List Str} {p q : Str → Str → Bool} : ∀ (M : List Str), (∀ a ∈ M, ∀ b ∈ N, p a b = q a b) → (M.flatMap fun a => (N.filter (p a)).map fun b => (a, b)) = M.flatMap fun a => (N.filter (q a)).map fun b => (a, b)
 | [], _ => rfl
 | a :: r, h => by
   rw [List.flatMap_cons, List.flatMap_cons, pairsL_congr r fun x hx => h x (List.mem_cons_of_mem _ hx), List.filter_congr (h a List.mem_cons_self)]
theorem pairsL_filter {N : List Str} {p : Str → Str → Bool} {q : Str × Str → Bool} : ∀ (M : List Str), (M.flatMap fun a => (N.filter (p a)).map fun b => (a, b)).filter q = M.flatMap fun a => (N.filter fun b => p a b && q (a, b)).map fun b => (a, b)
 | [] => rfl
 | a :: r => by
   rw [List.flatMap_cons, List.flatMap_cons, List.filter_append, pairsL_filter r, List.filter_map, List.filter_filter]
   congr 2
   exact List.filter_congr fun b _ => by rw [Bool.and_comm]; rfl
theorem cut_eq {N : List Str} {p : Str → Str → Bool} {C : List (Str × Str)} (hC : ∀ c ∈ C, p c.1 c.2 = true) : (pairsOf N p).filter (fun c => decide (c ∈ pairsOf N fun a b => decide ((a, b) ∈ C))) = pairsOf N fun a b => decide ((a, b) ∈ C) := by
 show (N.flatMap _).filter _ = N.flatMap _
 rw [pairsL_filter]
 refine pairsL_congr N fun a ha b hb => ?_
 rw [Bool.eq_iff_iff, Bool.and_eq_true_iff, decide_eq_true_iff, decide_eq_true_iff, mem_pairsOf]
 constructor
 · rintro ⟨_, _, _, h⟩; exact of_decide_eq_true h
 · intro h; exact ⟨hC _ h, ha, hb, decide_eq_true h⟩
theorem cut_count {N : List Str} {C : List (Str × Str)} (hn : N.Nodup) (hc : C.Nodup) (hC : ∀ c ∈ C, c.1 ∈ N ∧ c.2 ∈ N) : (pairsOf N fun a b => decide ((a, b) ∈ C)).length = C.length := by
 refine Nat.le_antisymm (nodup_lenG _ _ (pairsOf_nodup hn) fun c h => of_decide_eq_true (mem_pairsOf.mp h).2.2) (nodup_lenG _ _ hc fun c h => mem_pairsOf.mpr ⟨(hC c h).1, (hC c h).2, decide_eq_true h⟩)
theorem pairsOf_len {N : List Str} {p : Str → Str → Bool} (M : List Str) : (M.flatMap fun a => (N.filter (p a)).map fun b => (a, b)).length ≤ M.length * N.length := by
 induction M with
 | nil => simp
 | cons a r ih =>
   rw [List.flatMap_cons, List.length_append, List.length_map, List.length_cons, Nat.succ_mul]
   have := List.length_filter_le (p a) N
   omega
theorem filter_less {p q : Str → Bool} : ∀ {N : List Str}, (∀ z ∈ N, p z = true → q z = true) → (∃ x ∈ N, q x = true ∧ p x = false) → (N.filter p).length < (N.filter q).length
 | [], _, ⟨x, hx, _⟩ => by simp at hx
 | a :: r, h, ⟨x, hx, hq, hp⟩ => by
   have hle : (r.filter p).length ≤ (r.filter q).length := by
     have : ∀ (r : List Str), (∀ z ∈ r, p z = true → q z = true) → (r.filter p).length ≤ (r.filter q).length := fun r => by
       induction r with
       | nil => intro _; simp
       | cons b t ih =>
         intro h'
         have ih' := ih fun z hz => h' z (List.mem_cons_of_mem _ hz)
         cases e : p b with
         | true =>
           rw [List.filter_cons_of_pos e, List.filter_cons_of_pos (h' b List.mem_cons_self e), List.length_cons, List.length_cons]
           omega
         | false =>
           rw [List.filter_cons_of_neg (by rw [e]; simp)]
           refine Nat.le_trans ih' ?_
           cases e2 : q b with
           | true => rw [List.filter_cons_of_pos e2, List.length_cons]; omega
           | false => rw [List.filter_cons_of_neg (by rw [e2]; simp)]; exact Nat.le_refl _
     exact this r fun z hz => h z (List.mem_cons_of_mem _ hz)
   rcases List.mem_cons.mp hx with z | z
   · subst z
     rw [List.filter_cons_of_pos hq, List.filter_cons_of_neg (by rw [hp]; simp), List.length_cons]
     omega
   · have ih := filter_less (fun z hz => h z (List.mem_cons_of_mem _ hz)) ⟨x, z, hq, hp⟩
     cases e : p a with
     | true =>
       rw [List.filter_cons_of_pos e, List.filter_cons_of_pos (h a List.mem_cons_self e), List.length_cons, List.length_cons]
       omega
     | false =>
       rw [List.filter_cons_of_neg (by rw [e]; simp)]
       cases e2 : q a with
       | true => rw [List.filter_cons_of_pos e2, List.length_cons]; omega
       | false => rw [List.filter_cons_of_neg (by rw [e2]; simp)]; exact ih
theorem rB_edge {g : Str → List Str} {a b : Str} (h : b ∈ g a) : rB g a b = true := rB_iff.mpr (.step Rch.refl1 h)
theorem rank_all {g : Str → List Str} {N : List Str} {C : List (Str × Str)} (hk : ∀ n ∈ N, ∃ ρ : Str → Nat, (∀ a, ρ a ≤ 256) ∧ ∀ a ∈ knotOf g N n, ∀ b ∈ knotOf g N n, b ∈ g a → (a, b) ∉ C → ρ b < ρ a) : ∃ ρ : Str → Nat, ∀ a ∈ N, ∀ b ∈ N, b ∈ g a → (a, b) ∉ C → ρ b < ρ a := by
 have hch : ∀ tg : List Str, ∃ ρ : Str → Nat, (∃ n ∈ N, tg = knotOf g N n) → (∀ a, ρ a ≤ 256) ∧ ∀ a ∈ tg, ∀ b ∈ tg, b ∈ g a → (a, b) ∉ C → ρ b < ρ a := fun tg => by
   by_cases z : ∃ n ∈ N, tg = knotOf g N n
   · obtain ⟨n, hn, e⟩ := z
     obtain ⟨ρ, h1, h2⟩ := hk n hn
     exact ⟨ρ, fun _ => ⟨h1, e ▸ h2⟩⟩
   · exact ⟨fun _ => 0, fun y => absurd y z⟩
 obtain ⟨F, hF⟩ := Classical.axiomOfChoice hch
 refine ⟨fun a => (N.filter (rB g a)).length * 300 + F (knotOf g N a) a, fun a ha b hb hg hc => ?_⟩
 show (N.filter (rB g b)).length * 300 + F (knotOf g N b) b < (N.filter (rB g a)).length * 300 + F (knotOf g N a) a
 have hab := rB_edge hg
 cases hba : rB g b a with
 | true =>
   have he : eqv g a b = true := eqv_iff.mpr ⟨hab, hba⟩
   have e1 : N.filter (rB g b) = N.filter (rB g a) := List.filter_congr fun z _ => by
     rw [Bool.eq_iff_iff]
     exact ⟨fun y => rB_trans hab y, fun y => rB_trans hba y⟩
   rw [e1, ← knotOf_cong he]
   have := (hF (knotOf g N a) ⟨a, ha, rfl⟩).2 a (mem_knot.mpr ⟨ha, eqv_refl⟩) b (mem_knot.mpr ⟨hb, he⟩) hg hc
   omega
 | false =>
   have h1 := filter_less (p := rB g b) (q := rB g a) (N := N) (fun z _ y => rB_trans hab y) ⟨a, ha, rB_refl, hba⟩
   have h2 := (hF (knotOf g N b) ⟨b, hb, rfl⟩).1 b
   omega
theorem knot_in {g : Str → List Str} {N : List Str} {n : Str} (hn : n ∈ N) : knotOf g N n ∈ knotsOf g N N := by
 obtain ⟨x, hx, _⟩ := head_is (knotOf_self (g := g) hn)
 have hxm : x ∈ knotOf g N n := List.mem_of_head? hx
 obtain ⟨hxN, hxe⟩ := mem_knot.mp hxm
 have hfx : firstIn g N x = true := firstIn_iff.mpr (by rw [← knotOf_cong hxe]; exact hx)
 rw [knotOf_cong hxe]
 unfold knotsOf
 exact List.mem_map.mpr ⟨x, List.mem_filter.mpr ⟨hxN, hfx⟩, rfl⟩
theorem knots_apart {g : Str → List Str} {N : List Str} (hn : N.Nodup) : (knotsOf g N N).Pairwise fun s t => ∀ x ∈ s, x ∉ t := by
 unfold knotsOf
 rw [List.pairwise_map]
 refine List.Pairwise.imp_of_mem (fun {a b} ha hb hne x hx hx' => hne ?_) (hn.filter (firstIn g N))
 have h1 := firstIn_iff.mp (List.mem_filter.mp ha).2
 have h2 := firstIn_iff.mp (List.mem_filter.mp hb).2
 have e := eqv_trans (mem_knot.mp hx).2 (eqv_symm (mem_knot.mp hx').2)
 rw [knotOf_cong e, h2] at h1
 exact (Option.some.inj h1).symm
theorem knot_sub {g : Str → List Str} {N tg : List Str} (h : tg ∈ knotsOf g N N) : ∀ a ∈ tg, a ∈ N := fun a ha => by
 unfold knotsOf at h
 obtain ⟨n, _, e⟩ := List.mem_map.mp h
 rw [← e] at ha
 exact (mem_knot.mp ha).1
theorem knot_nd {g : Str → List Str} {N tg : List Str} (hn : N.Nodup) (h : tg ∈ knotsOf g N N) : tg.Nodup := by
 unfold knotsOf at h
 obtain ⟨n, _, e⟩ := List.mem_map.mp h
 rw [← e, knotOf_eq]
 exact hn.filter _
theorem cuts_nodup {g : Str → List Str} : ∀ {css : List (List (Str × Str))} {ks : List (List Str)}, Paired (fun cs tg => CutOk g tg cs) css ks → (ks.Pairwise fun s t => ∀ x ∈ s, x ∉ t) → css.flatten.Nodup
 | _, _, .nil, _ => List.nodup_nil
 | _, _, .cons (a := cs) (l₁ := css) (b := tg) (l₂ := ks) h t, hp => by
   obtain ⟨h1, h2⟩ := List.pairwise_cons.mp hp
   rw [List.flatten_cons]
   refine List.nodup_append.mpr ⟨h.nd, cuts_nodup t h2, fun a ha b hb e => ?_⟩
   obtain ⟨cs', hcs', hb'⟩ := List.mem_flatten.mp hb
   obtain ⟨i, hi⟩ := List.getElem?_of_mem hcs'
   obtain ⟨tg', htg', hok⟩ := Paired.get? t hi
   have m1 := (h.mem a ha).1
   have m2 := (hok.mem b hb').1
   rw [← e] at m2
   exact h1 tg' (List.mem_of_getElem? htg') _ m1 m2
theorem paired_app {α β : Type} {F : α → β → Prop} : ∀ {l₁ : List α} {l₂ : List β} {m₁ : List α} {m₂ : List β}, Paired F l₁ l₂ → Paired F m₁ m₂ → Paired F (l₁ ++ m₁) (l₂ ++ m₂)
 | _, _, _, _, .nil, h => h
 | _, _, _, _, .cons a t, h => .cons a (paired_app t h)
theorem ts2_tups {H H' : Hp} (s : Tups H H') {v : V} {d : Str × Str} (h : TS2 H v d) : TS2 H' v d := TS2.mono s h
theorem at_name {tg : List Str} {i : Nat} (h : i < tg.length) : atI (tg.map V.str) (i : Int) = some (.str (tg.getD i "")) := by
 refine atI_nat ?_
 rw [List.getElem?_map, List.getElem?_eq_getElem h, List.getD_eq_getElem?_getD, List.getElem?_eq_getElem h]
 rfl
noncomputable def spFW : Sp := fun vs H Q _ => ∃ (a b : Addr) (ps : List Pt) (tg : List Str), vs = [.ref a, .ref b] ∧ PartsF H a ps ∧ PsFit ps ∧ H b = some (.tup (tg.map V.str)) ∧ (∀ n ∈ tg, n ∈ ps.map (·.1)) ∧ tg.Nodup ∧ tg.length ≤ 8 ∧
 ∀ (l : Addr) (us : List V) (cs : List (Str × Str)) (H' : Hp), Same H H' → H' l = some (.lst us) → Paired (TS2 H') us cs → CutOk (k1 ps) tg cs → cs.length ≤ 6144 → (∀ bs, OptL (fun k => (stepsOf ps tg).getD k 0) bs → bs.length = 2 ^ tg.length → (cs.length : Int) = (bs.getD (2 ^ tg.length - 1) (0, 0)).1) → (∃ bs, OptL (fun k => (stepsOf ps tg).getD k 0) bs ∧ bs.length = 2 ^ tg.length) → Q (.ref l) H'
theorem ok_fwithin (T : Txt K mg) : L2.Cl P w K mg base 5 "fewest_within" ["parts", "tangle"] spFW := by
 have C_best_lasts := ok_lasts (P := P) (w := w) (base := base) T
 have C_steps_within := ok_within (P := P) (w := w) (base := base) T
 have C_numbers_in := ok_in2 (P := P) (w := w) (base := base) T
 refine Cl.of T.d_fewest_within sc_fewest_within (fun vs H Q E h => ?_) (fun _ _ _ _ _ _ us hl => by obtain ⟨a, b, rfl⟩ := len2 hl; rfl) (fun f cdv A outer s H vs Q E hr h => ?_)
 · obtain ⟨a, b, ps, tg, rfl, _⟩ := h
   rfl
 · obtain ⟨a, b, ps, tg, rfl, hpf, hfit, hb, htin, htn, ht8, q⟩ := h
   have hsl : (stepsOf ps tg).length = tg.length := by unfold stepsOf; rw [List.length_map]
   have h256 : 2 ^ tg.length ≤ 256 := two_le ht8
   have hpos := Nat.two_pow_pos tg.length
   refine ⟨_, (pss_cons (ps_set (i := 2) sc_fewest_within.nd rfl (Or.inl rfl) (pe_fn C_steps_within hr (by rfl) (pa_cons (pv 0) (pa_cons (pv 1) pa_nil))))
     (pss_cons (ps_set (i := 3) sc_fewest_within.nd rfl (Or.inl rfl) (pe_fn C_best_lasts hr (by rfl) (pa_cons (pv 2) pa_nil)))
     (pss_cons (ps_set (i := 4) sc_fewest_within.nd rfl (Or.inl rfl) (pe_op op_sub (pe_callB call_len_seq (by rfl) T.n_len PySem.boot_len (pa_cons (pv 3) pa_nil)) pe_int))
     (pss_cons (ps_set (i := 5) sc_fewest_within.nd rfl (Or.inl rfl) (pe_lst pa_nil))
     (pss_cons (ps_while PassesOwn.never (pt_cmpR op_gt (pv 4) pe_int (nomark _))
       (pss_cons (ps_set (i := 6) sc_fewest_within.nd rfl (Or.inr rfl) (pe_ix ix_tup (pe_ix ix_list (pv 3) (pv 4) (fun _ _ => rfl)) pe_int (fun _ _ => rfl)))
       (pss_cons (ps_expr (pe_bm PySem.F.plainAttrs_list PySem.F.slot_list_extend PySem.F.type_list_extend mt_extend (pv 5) (pa_cons (pe_comp (M := ["number", "tangle", "last"]) (ρ := [none, some 1, some 6]) (defScope s_fewest_within) ["parts", "tangle", "steps", "best", "left", "cut", "last"] ⟨rfl, by decide +kernel, by decide +kernel, by decide +kernel, rfl, by decide +kernel, by decide +kernel⟩ (pi_tup (pe_fn C_numbers_in hr (by rfl) (pa_cons (pe_op op_and (pe_ix ix_list (pv 2) (pv 6) (fun _ _ => rfl)) (pv 4)) pa_nil))) (fun _ _ _ _ _ _ => (pg_name (i := 0) (show (["number", "tangle", "last"] : List Str).Nodup by decide +kernel) rfl (Or.inl rfl))) (fun _ _ _ _ _ _ => pts_nil) (fun _ _ _ _ _ _ => (pe_tup (pa_cons (pe_ix (ix_tupK (K := K) rfl) (pv 1) (pv 2) (fun _ _ => rfl)) (pa_cons (pe_ix (ix_tupK (K := K) rfl) (pv 1) (pv 0) (fun _ _ => rfl)) pa_nil))))) pa_nil)))
       (pss_one (ps_aug (i := 4) sc_fewest_within.nd rfl (Or.inl rfl) (pe_op op_shl pe_int (pv 6)) ip_sub)))))
     (pss_one (ps_ret (pv 5)))))))), ?_⟩
   refine ⟨_, rfl, _, rfl, a, b, ps, tg, rfl, hpf, hfit, hb, htin, ht8, fun sl H1 s1 hl1 => ?_⟩
   refine ⟨_, rfl, sl, _, rfl, hl1, by omega, fun B us bs H2 s2 hB hus hopt hbl => ?_⟩
   have hul : us.length = bs.length := Paired.length hus
   rw [hsl] at hbl
   have s02 := s1.trans s2
   refine ⟨_, rfl, B, _, rfl, .inl (SqL.of hB), _, _, rfl, rfl, ?_⟩
   refine ⟨(by show 0 ≤ sizeLine; decide), fun C gC => ?_⟩
   have gCH : H C = none := s02.free gC
   have s3 : Same H2 (upd H2 C (.lst [])) := (Same.refl H2).new gC
   have hC3 : upd H2 C (.lst []) C = some (.lst []) := upd_same
   generalize upd H2 C (.lst []) = H3 at s3 hC3 ⊢
   refine to_g ?_
   refine ⟨fun m σ H4 => ∃ (cs : List (Nat × Nat)) (ws : List V) (k : Nat) (v6 : Option V), σ = [some (.ref a), some (.ref b), some (.ref sl), some (.ref B), some (.int (m : Int)), some (.ref C), v6] ∧ Same H2 H4 ∧ H4 C = some (.lst ws) ∧ Paired (TS2 H4) ws (cutN tg cs) ∧ m ≤ k ∧ m < bs.length ∧ cs ++ pick (fun k => (stepsOf ps tg).getD k 0) bs k m = pick (fun k => (stepsOf ps tg).getD k 0) bs 256 (2 ^ tg.length - 1),
     ⟨2 ^ tg.length - 1, [], [], 256, none, ?_, s3, hC3, .nil, by omega, by omega, rfl⟩, ?_⟩
   · have e : (us.length : Int) - 1 = ((2 ^ tg.length - 1 : Nat) : Int) := by omega
     rw [← e]
     rfl
   rintro m σ H4 ⟨cs, ws, k, v6, rfl, s4, hC4, hws, hmk, hmb, hcs⟩
   have hwl : ws.length = cs.length := by rw [Paired.length hws]; unfold cutN; rw [List.length_map]
   have hsmall := pick_small (fun k => (stepsOf ps tg).getD k 0) bs 256 (2 ^ tg.length - 1)
   refine ⟨_, rfl, _, _, rfl, rfl, _, rfl, ?_⟩
   refine ite2 (fun hlt => ?_) (fun hlt => ?_)
   · have hm0 : m ≠ 0 := by have := of_decide_eq_true hlt; omega
     have hm24 : m < 2 ^ 24 := by omega
     have hbit := hopt.bit hm0 hmb
     have hless := hopt.less hm0 hmb
     obtain ⟨k, rfl⟩ : ∃ k', k = k' + 1 := ⟨k - 1, by omega⟩
     rw [pick_succ hm0] at hcs
     obtain ⟨u, hu', tb, eb, htb⟩ := Paired.get?' hus (getD_some hmb)
     subst eb
     generalize hlv : (bs.getD m (0, 0)).2 = l at hbit hless hcs htb
     have hl8 : l < tg.length := (Nat.pow_lt_pow_iff_right (a := 2) (by decide)).mp (Nat.lt_of_le_of_lt (bit_le hbit) (by omega))
     have s24 := s4
     have hB4 := s4 _ _ hB
     have htb4 := s4 _ _ htb
     have z1 : atI [V.int (bs.getD m (0, 0)).1, V.int (l : Int)] 1 = some (.int (l : Int)) := atI_nat (j := 1) rfl
     refine ⟨_, fun σ' H' h => h, ?_⟩
     refine ⟨_, rfl, _, rfl, B, _, _, _, rfl, rfl, SqL.of hB4, atI_nat hu', tb, _, _, _, rfl, rfl, SqT.of htb4, z1, ?_⟩
     have hlt : (stepsOf ps tg).getD l 0 &&& m < 2 ^ 24 := and24 hm24
     have ats : atI (natsV (stepsOf ps tg)) (l : Int) = some (.int (((stepsOf ps tg).getD l 0 : Nat) : Int)) := by
       refine atI_nat ?_
       unfold natsV
       rw [List.getElem?_map, List.getD_eq_getElem?_getD, List.getElem?_eq_getElem (by omega)]
       rfl
     refine ⟨_, rfl, .inl ⟨rfl, _, SqL.of hC4⟩, _, rfl, _, rfl, sl, _, _, _, rfl, rfl, SqL.of (s4 _ _ (s2 _ _ hl1)), ats, _, rfl, _, _, rfl, rfl, (stepsOf ps tg).getD l 0 &&& m, (by show [V.int (Builtin.bitAnd (((stepsOf ps tg).getD l 0 : Nat) : Int) (m : Int))] = _; rw [bitAnd_nat]), hlt, fun p H5 s5 hp => ?_⟩
     have hbm := fun j => bitsL_mem (x := (stepsOf ps tg).getD l 0 &&& m) (l := j) hlt
     have hbj : ∀ j ∈ bitsL ((stepsOf ps tg).getD l 0 &&& m), j < tg.length := fun j hj => by
       have h1 := (hbm j).mp hj
       rw [Nat.testBit_and] at h1
       exact (Nat.pow_lt_pow_iff_right (a := 2) (by decide)).mp (Nat.lt_of_le_of_lt (bit_le (Bool.and_eq_true_iff.mp h1).2) (by omega))
     have hb24 : (bitsL ((stepsOf ps tg).getD l 0 &&& m)).length ≤ 24 := by
       unfold bitsL
       exact Nat.le_trans (List.length_filter_le _ _) (by rw [List.length_range]; exact Nat.le_refl _)
     generalize bitsL ((stepsOf ps tg).getD l 0 &&& m) = js at hp hbj hb24 hcs
     have hb5 := s5 _ _ (s4 _ _ (s02 _ _ hb))
     refine ⟨p, rfl, ⟨_, SqT.of hp⟩, fun D gD => ?_⟩
     refine comp_by js.length (fun i σ H6 => ∃ (v0 : Option V) (xs : List V), σ = [v0, some (.ref b), some (.int (l : Int))] ∧ Same H5 H6 ∧ H6 D = some (.lst xs) ∧ Paired (TS2 H6) xs (cutN tg ((js.take i).map fun j => (l, j)))) ⟨_, [], rfl, (Same.refl H5).new gD, upd_same, by rw [List.take_zero]; exact .nil⟩ ?_ ?_
     · rintro i σ H6 hi ⟨v0, xs, rfl, s6, hD6, hxs⟩
       refine ⟨⟨_, .int (js[i] : Int), SqT.of (s6 _ _ hp), by unfold natsV; simp [hi]⟩, ?_⟩
       rintro y H7 ⟨rfl, hy⟩
       obtain ⟨j, hj, rfl⟩ := natsV_get (hy _ (SqT.of (s6 _ _ hp)))
       have hjl := hbj j (List.mem_of_getElem? hj)
       have hb6 := s6 _ _ hb5
       have hxl : xs.length ≤ 24 := by rw [Paired.length hxs]; unfold cutN; rw [List.length_map, List.length_map, List.length_take]; omega
       refine ntG ?_
       refine ⟨_, rfl, _, rfl, b, _, _, _, rfl, rfl, SqT.of hb6, at_name hl8, _, rfl, _, rfl, b, _, _, _, rfl, rfl, SqT.of hb6, at_name hjl, (by show 2 ≤ sizeLine; decide), fun r gr => ?_⟩
       have s7 : Same _ _ := (Same.refl H7).new (o := .tup [.str (tg.getD l ""), .str (tg.getD j "")]) gr
       have hD7 := s7 _ _ hD6
       have T8 := Tups.lst (ys := xs ++ [.ref r]) hD7
       refine ⟨xs, hD7, small1000 (by omega), _, xs ++ [.ref r], rfl, (s6.trans s7).put gD, upd_same, ?_⟩
       rw [take_succ_get hj, List.map_append]
       unfold cutN
       rw [List.map_append]
       exact Paired.snoc (Paired.mapP hxs fun _ _ z => ts2_tups (s7.tups.trans T8) z) ⟨r, rfl, T8 _ _ upd_same⟩
     rintro σ H6 ⟨v0, xs, rfl, s6, hD6, hxs⟩
     refine ⟨⟨_, SqT.of (s6 _ _ hp), by rw [natsV_len]; exact Nat.le_refl _⟩, ?_⟩
     rw [List.take_length] at hxs
     have hxl : xs.length ≤ 24 := by rw [Paired.length hxs]; unfold cutN; rw [List.length_map, List.length_map]; exact hb24
     have hC6 := s6 _ _ (s5 _ _ hC4)
     have hcl : cs.length ≤ 6144 := by
       have := congrArg List.length hcs
       rw [List.length_append] at this
       omega
     refine ⟨C, D, _, _, rfl, rfl, hC6, hD6, (by show ws.length + xs.length ≤ 2 ^ 24; omega), ?_⟩
     have T7 := Tups.lst (ys := ws ++ xs) hC6
     have ep : (1 : Int) * 2 ^ ((l : Int)).toNat = ((2 ^ l : Nat) : Int) := by rw [Int.one_mul, Int.toNat_natCast, Int.natCast_pow]; rfl
     refine ⟨_, rfl, _, rfl, _, _, rfl, rfl, ⟨by omega, by omega, by decide⟩, _, _, rfl, rfl, ?_⟩
     refine ⟨m - 2 ^ l, hless, cs ++ js.map (fun j => (l, j)), ws ++ xs, k, some (.int (l : Int)), ?_, ((s4.trans s5).trans s6).put gC, upd_same, ?_, by omega, by omega, ?_⟩
     · have e : (m : Int) - 1 * 2 ^ ((l : Int)).toNat = ((m - 2 ^ l : Nat) : Int) := by
         have := bit_le hbit
         rw [ep]
         omega
       rw [← e]
       rfl
     · unfold cutN
       rw [List.map_append]
       exact paired_app (Paired.mapP hws fun _ _ z => ts2_tups ((s5.trans s6).tups.trans T7) z) (Paired.mapP hxs fun _ _ z => ts2_tups T7 z)
     · rw [List.append_assoc]
       exact hcs
   · have hm0 : m = 0 := by
       have h0 : ¬ (0 : Int) < (m : Int) := fun z => hlt (decide_eq_true z)
       omega
     subst hm0
     rw [pick_zero, List.append_nil] at hcs
     subst hcs
     refine ⟨_, rfl, q C ws _ H4 (s02.trans s4) hC4 hws (cut_ok hopt hbl htn ht8) (by unfold cutN; rw [List.length_map]; exact hsmall) (fun bs' ho' hl' => ?_) ⟨bs, hopt, hbl⟩⟩
     have h1 := pick_len hopt 256 (2 ^ tg.length - 1) (by omega) (by omega) (by omega)
     unfold cutN
     rw [List.length_map, h1]
     exact opt_uniq hopt ho' (by omega) _ _ (Nat.le_refl _) (by omega)
noncomputable def key2 (k : Str × Str) : List Key := [Sum.inr k.1, Sum.inr k.2]
theorem key2_inj {a b : Str × Str} (h : key2 a = key2 b) : a = b := by
 unfold key2 at h
 simp only [List.cons.injEq, Sum.inr.injEq, and_true] at h
 exact Prod.ext h.1 h.2
noncomputable def CutL (ps : List Pt) (cs : List (Str × Str)) (tg : List Str) : Prop := CutOk (k1 ps) tg cs ∧ (∀ bs, OptL (fun k => (stepsOf ps tg).getD k 0) bs → bs.length = 2 ^ tg.length → (cs.length : Int) = (bs.getD (2 ^ tg.length - 1) (0, 0)).1) ∧ (∃ bs, OptL (fun k => (stepsOf ps tg).getD k 0) bs ∧ bs.length = 2 ^ tg.length)
noncomputable def spFewest : Sp := fun vs H Q _ => ∃ (a : Addr) (ps : List Pt), vs = [.ref a] ∧ PartsF H a ps ∧ PsFit ps ∧ ClosedB ps ∧ (∀ tg ∈ knotsOf (k1 ps) (ps.map (·.1)) (ps.map (·.1)), tg.length ≤ 8) ∧
 ∀ (p : Addr) (us : List V) (css : List (List (Str × Str))) (H' : Hp), Same H H' → H' p = some (.tup us) → Paired (TS2 H') us (pairsOf (ps.map (·.1)) fun a b => decide ((a, b) ∈ css.flatten)) → Paired (CutL ps) css (knotsOf (k1 ps) (ps.map (·.1)) (ps.map (·.1))) → Q (.ref p) H'
theorem some_put {kvs : List (List Key × V)} {C : List (Str × Str)} {c0 : Str × Str} {v : V} (h : ∀ c, (valV kvs (key2 c)).isSome = decide (c ∈ C)) : ∀ c, (valV (putK kvs (key2 c0) v) (key2 c)).isSome = decide (c ∈ C ++ [c0]) := fun c => by
 rw [valV_put]
 by_cases e : c = c0
 · subst e
   rw [if_pos rfl]
   simp
 · rw [if_neg fun z => e (key2_inj z), h c]
   simp [e]
theorem ok_fewest (T : Txt K mg) : L2.Cl P w K mg base 6 "fewest" ["parts"] spFewest := by
 have C_tangles := ok_tangles (P := P) (w := w) (base := base) T
 have C_fewest_within := ok_fwithin (P := P) (w := w) (base := base) T
 refine Cl.of T.d_fewest sc_fewest (fun vs H Q E h => ?_) (fun _ _ _ _ _ _ us hl => by obtain ⟨a, rfl⟩ := len1 hl; rfl) (fun f cdv A outer s H vs Q E hr h => ?_)
 · obtain ⟨a, ps, rfl, _⟩ := h
   rfl
 · obtain ⟨a, ps, rfl, hpf, hfit, hcl, h8, q⟩ := h
   have hu := hu_of hr
   have hpl := hfit.hi
   obtain ⟨o, vs, ha, ho, hps⟩ := id hpf
   have hvl : vs.length = ps.length := Paired.length hps
   have hks24 : (knotsOf (k1 ps) (ps.map (·.1)) (ps.map (·.1))).length ≤ 24 := by
     have := knots_len (k1 ps) (ps.map (·.1)) (ps.map (·.1))
     rw [List.length_map] at this
     omega
   have hsub := fun tg (h : tg ∈ knotsOf (k1 ps) (ps.map (·.1)) (ps.map (·.1))) => knot_sub h
   have hknd := fun tg (h : tg ∈ knotsOf (k1 ps) (ps.map (·.1)) (ps.map (·.1))) => knot_nd hfit.nd h
   refine ⟨_, (pss_cons (ps_set (i := 1) sc_fewest.nd rfl (Or.inr rfl) pe_dnewT)
     (pss_cons (ps_for PassesOwn.never rfl (pi_tup (pe_fn C_tangles hr (by rfl) (pa_cons (pv 0) pa_nil))) (pg_name (i := 2) sc_fewest.nd rfl (Or.inl rfl))
       (pss_one (ps_for PassesOwn.never rfl (pi_list (pe_fn C_fewest_within hr (by rfl) (pa_cons (pv 0) (pa_cons (pv 2) pa_nil)))) (pg_name (i := 3) sc_fewest.nd rfl (Or.inl rfl))
         (pss_one (ps_dput hu (pv 1) (pv 3) pe_bl rfl)))))
     (pss_cons (ps_set (i := 4) sc_fewest.nd rfl (Or.inl rfl) (pe_lst pa_nil))
     (pss_cons (ps_for PassesOwn.never rfl (pi_tup (pv 0)) (pg_tup rfl (pgs_cons (pg_name (i := 5) sc_fewest.nd rfl (Or.inr rfl)) (pgs_cons (pg_name (i := 6) sc_fewest.nd rfl (Or.inl rfl)) pgs_nil)))
       (pss_one (ps_expr (pe_bm PySem.F.plainAttrs_list PySem.F.slot_list_extend PySem.F.type_list_extend mt_extend (pv 4) (pa_cons (pe_comp (M := ["other", "inner", "part", "cut"]) (ρ := [none, none, some 5, some 1]) (defScope s_fewest) ["parts", "cut", "tangle", "pair", "found", "part", "rows"] ⟨rfl, by decide +kernel, by decide +kernel, by decide +kernel, rfl, by decide +kernel, by decide +kernel⟩ (pi_tup (pv 0)) (fun _ _ _ _ _ _ => (pg_tupK (K := K) (n := 2) rfl rfl (pgs_cons (pg_name (i := 0) (show (["other", "inner", "part", "cut"] : List Str).Nodup by decide +kernel) rfl (Or.inl rfl)) (pgs_cons (pg_name (i := 1) (show (["other", "inner", "part", "cut"] : List Str).Nodup by decide +kernel) rfl (Or.inl rfl)) pgs_nil)))) (fun _ _ _ _ _ _ => (pts_one (pt_cmp (pc_din hu (pe_tup (pa_cons (pv 2) (pa_cons (pv 0) pa_nil))) (pv 3))))) (fun _ _ _ _ _ _ => (pe_tup (pa_cons (pv 2) (pa_cons (pv 0) pa_nil))))) pa_nil)))))
     (pss_one (ps_ret (pe_callTy call_tuple_of (by rfl) T.n_tuple boot_tuple (pa_cons (pv 4) pa_nil)))))))), ?_⟩
   intro d gd
   have s1 : Same H (upd H d (.dT [])) := (Same.refl H).new gd
   have hd1 : upd H d (.dT []) d = some (.dT []) := upd_same
   generalize upd H d (.dT []) = H1 at s1 hd1 ⊢
   refine ⟨_, rfl, a, ps, rfl, s1.partsF hpf, hfit, hcl, fun p us H2 s2 hp hus => ?_⟩
   generalize knotsOf (k1 ps) (ps.map (·.1)) (ps.map (·.1)) = ks at h8 q hks24 hsub hknd hus
   have hul : us.length = ks.length := Paired.length hus
   have hpd : p ≠ d := fun z => by rw [z, s2 _ _ hd1] at hp; cases hp
   have same2 : ∀ {H3 : Hp}, (∀ c o, c ≠ d → H2 c = some o → H3 c = some o) → Same H H3 := fun h c o e => h c o (fun z => by rw [z, gd] at e; cases e) (s2 _ _ (s1 _ _ e))
   refine ⟨p, rfl, ⟨_, SqT.of hp⟩, for_tup (K := K) (a := p) (xs := us) (fun i σ H3 => ∃ (kvs : List (List Key × V)) (css : List (List (Str × Str))) (v2 v3 : Option V), σ = [some (.ref a), some (.ref d), v2, v3, none, none, none] ∧ (∀ c o, c ≠ d → H2 c = some o → H3 c = some o) ∧ H3 d = some (.dT kvs) ∧ kvs.length ≤ 6144 * i ∧ Paired (CutL ps) css (ks.take i) ∧ ∀ c, (valV kvs (key2 c)).isSome = decide (c ∈ css.flatten))
     ⟨[], [], none, none, rfl, fun _ _ _ h => h, s2 _ _ hd1, Nat.zero_le _, by rw [List.take_zero]; exact .nil, fun c => by simp [valV]⟩ (fun i σ H3 _ ⟨_, _, _, _, _, hk3, _⟩ => SqT.of (hk3 _ _ hpd hp)) ?_ ?_⟩
   · rintro i y σ H3 hy ⟨kvs, css, v2, v3, rfl, hk3, hd3, hkl, hcss, hval⟩
     obtain ⟨tg, htg, t, et, ht⟩ := Paired.get? hus hy
     subst et
     have htm := List.mem_of_getElem? htg
     have hi24 : i < 24 := by have := (List.getElem?_eq_some_iff.mp htg).1; omega
     have ht3 := hk3 _ _ (fun z => by rw [z, s2 _ _ hd1] at ht; cases ht) ht
     refine ⟨_, rfl, _, rfl, a, t, ps, tg, rfl, (same2 hk3).partsF hpf, hfit, ht3, hsub tg htm, hknd tg htm, h8 tg htm, fun l ws cs H4 s4 hl hws hok hc6 hlen hex => ?_⟩
     have hd4 := s4 _ _ hd3
     have hld : l ≠ d := fun z => by rw [z, hd4] at hl; cases hl
     have hwl : ws.length = cs.length := Paired.length hws
     refine ⟨l, rfl, ⟨_, SqL.of hl⟩, for_list (K := K) (a := l) (xs := ws) (fun j σ H5 => ∃ (kvs' : List (List Key × V)) (v3 : Option V), σ = [some (.ref a), some (.ref d), some (.ref t), v3, none, none, none] ∧ (∀ c o, c ≠ d → H4 c = some o → H5 c = some o) ∧ H5 d = some (.dT kvs') ∧ kvs'.length ≤ kvs.length + j ∧ ∀ c, (valV kvs' (key2 c)).isSome = decide (c ∈ css.flatten ++ cs.take j))
       ⟨kvs, _, rfl, fun _ _ _ h => h, hd4, Nat.le_refl _, fun c => by rw [List.take_zero, List.append_nil]; exact hval c⟩ (fun j σ H5 _ ⟨_, _, _, hk5, _⟩ => SqL.of (hk5 _ _ hld hl)) ?_ ?_⟩
     · rintro j y σ H5 hy5 ⟨kvs', v3', rfl, hk5, hd5, hkl5, hval5⟩
       obtain ⟨c0, hc0, r, er, hr0⟩ := Paired.get? hws hy5
       subst er
       have hj : j < ws.length := (List.getElem?_eq_some_iff.mp hy5).1
       have hr5 := hk5 _ _ (fun z => by rw [z, hd4] at hr0; cases hr0) hr0
       refine ⟨_, rfl, _, rfl, d, _, rfl, DPut.t (k := key2 c0) hd5 hr5 (by show kvs'.length < 2 ^ 24; omega), ?_⟩
       refine ⟨_, _, rfl, fun c o hc h => by rw [upd_ne hc]; exact hk5 c o hc h, upd_same, ?_, ?_⟩
       · have := length_putK kvs' (key2 c0) (.bl true)
         omega
       · rw [take_succ_get hc0, ← List.append_assoc]
         exact some_put hval5
     · rintro σ H5 ⟨kvs', v3', rfl, hk5, hd5, hkl5, hval5⟩
       refine ⟨kvs', css ++ [cs], _, _, rfl, fun c o hc h => hk5 c o hc (s4 _ _ (hk3 c o hc h)), hd5, by omega, ?_, fun c => ?_⟩
       · rw [take_succ_get htg]
         exact Paired.snoc hcss ⟨hok, hlen, hex⟩
       · rw [hval5 c, hwl, List.take_length, List.flatten_append]
         simp
   · rintro σ H3 ⟨kvs, css, v2, v3, rfl, hk3, hd3, hkl, hcss, hval⟩
     rw [hul, List.take_length] at hcss
     have s03 := same2 hk3
     refine ⟨(by show 0 ≤ sizeLine; decide), fun F gF => ?_⟩
     have gFH : H F = none := s03.free gF
     have s4 : Same H3 (upd H3 F (.lst [])) := (Same.refl H3).new gF
     have hF4 : upd H3 F (.lst []) F = some (.lst []) := upd_same
     generalize upd H3 F (.lst []) = H4 at s4 hF4 ⊢
     have sqa : ∀ {H5 : Hp}, Same H3 H5 → SqT K H5 a vs := fun s5 => .inl (.inr ⟨o, s5 _ _ (s03 _ _ ha)⟩)
     have hNl : (ps.map (·.1)).length ≤ 24 := by rw [List.length_map]; exact hpl
     refine ⟨_, rfl, a, rfl, ⟨_, sqa s4⟩, for_tup (K := K) (a := a) (xs := vs) (fun i σ H5 => ∃ (ws : List V) (v2 v3 v5 v6 : Option V), σ = [some (.ref a), some (.ref d), v2, v3, some (.ref F), v5, v6] ∧ Same H3 H5 ∧ H5 F = some (.lst ws) ∧ Paired (TS2 H5) ws (((ps.take i).map (·.1)).flatMap fun x => ((ps.map (·.1)).filter fun z => decide ((x, z) ∈ css.flatten)).map fun z => (x, z)))
       ⟨[], v2, v3, none, none, rfl, s4, hF4, by rw [List.take_zero]; exact .nil⟩ (fun i σ H5 _ ⟨_, _, _, _, _, _, s5, _⟩ => sqa s5) ?_ ?_⟩
     · rintro i y σ H5 hy ⟨ws, v2', v3', v5, v6, rfl, s5, hF5, hws⟩
       obtain ⟨pt, hpt, t, u, rs, ey, ht, hu', hrs⟩ := Paired.get? hps hy
       subst ey
       obtain ⟨n, rws⟩ := pt
       have s05 := s03.trans s5
       have hi24 : i < 24 := by have := (List.getElem?_eq_some_iff.mp hpt).1; omega
       refine ⟨t, _, rfl, SqT.of (s05 _ _ ht), rfl, _, _, rfl, _, _, rfl, rfl, ?_⟩
       refine ⟨_, rfl, .inl ⟨rfl, _, SqL.of hF5⟩, _, rfl, a, rfl, ⟨_, sqa s5⟩, fun D gD => ?_⟩
       refine comp_by vs.length (fun j σ H6 => ∃ (v0 v1 : Option V) (xs : List V), σ = [v0, v1, some (.str n), some (.ref d)] ∧ Same H5 H6 ∧ H6 D = some (.lst xs) ∧ Paired (TS2 H6) xs ((((ps.take j).map (·.1)).filter fun z => decide ((n, z) ∈ css.flatten)).map fun z => (n, z))) ⟨_, _, [], rfl, (Same.refl H5).new gD, upd_same, by rw [List.take_zero]; exact .nil⟩ ?_ ?_
       · rintro j σ H6 hj ⟨v0, v1, xs, rfl, s6, hD6, hxs⟩
         have s36 := s5.trans s6
         refine ⟨⟨vs, vs[j], sqa s36, by simp⟩, ?_⟩
         rintro y H7 ⟨rfl, hy7⟩
         obtain ⟨pt2, hpt2, t2, u2, rs2, ey, ht2, hu2, _⟩ := Paired.get? hps (hy7 _ (sqa s36))
         subst ey
         obtain ⟨m, rws2⟩ := pt2
         have hxl : xs.length ≤ 24 := by
           rw [Paired.length hxs, List.length_map]
           refine Nat.le_trans (List.length_filter_le _ _) ?_
           rw [List.length_map, List.length_take]
           omega
         refine ⟨t2, _, rfl, SqT.of (s36 _ _ (s03 _ _ ht2)), rfl, _, _, rfl, _, _, rfl, rfl, ?_⟩
         refine ⟨_, rfl, _, rfl, (by show 2 ≤ sizeLine; decide), fun r gr => ?_⟩
         have s7 : Same H7 (upd H7 r (.tup [.str n, .str m])) := (Same.refl H7).new gr
         have hr7 : upd H7 r (.tup [.str n, .str m]) r = some (.tup [.str n, .str m]) := upd_same
         generalize upd H7 r (.tup [.str n, .str m]) = H8 at s7 hr7 ⊢
         have s38 := s36.trans s7
         refine ⟨_, rfl, d, _, rfl, DGet.t (k := key2 (n, m)) (s38 _ _ hd3) hr7, _, rfl, ?_⟩
         rw [hval (n, m)]
         have hD8 := s7 _ _ hD6
         rw [take_succ_get hpt2, List.map_append, List.filter_append, List.map_append]
         by_cases hin : (n, m) ∈ css.flatten
         · rw [decide_eq_true hin]
           refine iteT ?_
           refine ⟨_, rfl, _, rfl, (by show 2 ≤ sizeLine; decide), fun r2 gr2 => ?_⟩
           have s9 := (Same.refl H8).new (o := .tup [.str n, .str m]) gr2
           have hD9 := s9 _ _ hD8
           have T9 := Tups.lst (ys := xs ++ [.ref r2]) hD9
           refine ⟨xs, hD9, small1000 (by omega), _, _, xs ++ [.ref r2], rfl, ((s6.trans s7).trans s9).put gD, upd_same, ?_⟩
           have e : [m].filter (fun z => decide ((n, z) ∈ css.flatten)) = [m] := by
             rw [List.filter_cons_of_pos (by exact decide_eq_true hin), List.filter_nil]
           show Paired _ _ (_ ++ ([m].filter fun z => decide ((n, z) ∈ css.flatten)).map _)
           rw [e]
           exact Paired.snoc (Paired.mapP hxs fun _ _ z => ts2_tups ((s7.trans s9).tups.trans T9) z) ⟨r2, rfl, T9 _ _ upd_same⟩
         · rw [decide_eq_false hin]
           refine iteF ?_
           refine ⟨_, _, xs, rfl, s6.trans s7, hD8, ?_⟩
           have e : [m].filter (fun z => decide ((n, z) ∈ css.flatten)) = [] := by
             rw [List.filter_cons_of_neg (by simpa using hin), List.filter_nil]
           show Paired _ _ (_ ++ ([m].filter fun z => decide ((n, z) ∈ css.flatten)).map _)
           rw [e, List.map_nil, List.append_nil]
           exact Paired.mapP hxs fun _ _ z => ts2_tups s7.tups z
       rintro σ H6 ⟨v0, v1, xs, rfl, s6, hD6, hxs⟩
       refine ⟨⟨vs, sqa (s5.trans s6), Nat.le_refl _⟩, ?_⟩
       rw [hvl, List.take_length] at hxs
       have hxl : xs.length ≤ 24 := by
         rw [Paired.length hxs, List.length_map]
         exact Nat.le_trans (List.length_filter_le _ _) hNl
       have hwl : ws.length ≤ 600 := by
         rw [Paired.length hws]
         refine Nat.le_trans (pairsOf_len _) ?_
         rw [List.length_map, List.length_take]
         have h1 : min i ps.length ≤ 24 := by omega
         exact Nat.le_trans (Nat.mul_le_mul h1 hNl) (by decide)
       have hF6 := s6 _ _ hF5
       refine ⟨F, D, _, _, rfl, rfl, hF6, hD6, (by show ws.length + xs.length ≤ 2 ^ 24; omega), ?_⟩
       have T7 := Tups.lst (ys := ws ++ xs) hF6
       refine ⟨ws ++ xs, _, _, _, _, rfl, (s5.trans s6).put gF, upd_same, ?_⟩
       rw [take_succ_get hpt, List.map_append, List.flatMap_append]
       refine paired_app (Paired.mapP hws fun _ _ z => ts2_tups (s6.tups.trans T7) z) ?_
       have e : ([(n, rws)].map (·.1)).flatMap (fun x => ((ps.map (·.1)).filter fun z => decide ((x, z) ∈ css.flatten)).map fun z => (x, z)) = ((ps.map (·.1)).filter fun z => decide ((n, z) ∈ css.flatten)).map fun z => (n, z) := by
         simp
       rw [e]
       exact Paired.mapP hxs fun _ _ z => ts2_tups T7 z
     · rintro σ H5 ⟨ws, v2', v3', v5, v6, rfl, s5, hF5, hws⟩
       rw [hvl, List.take_length] at hws
       refine ⟨_, rfl, F, _, rfl, .inl ⟨SqL.of hF5, fun p' gp => ?_⟩⟩
       have s6 : Same H5 (upd H5 p' (.tup ws)) := (Same.refl H5).new gp
       exact q p' ws css _ ((s03.trans s5).trans s6) upd_same (Paired.mapP hws fun _ _ z => ts2_tups s6.tups z) hcss
noncomputable def spPairs : Sp := fun vs H Q _ => ∃ (a : Addr) (ps : List Pt), vs = [.ref a] ∧ PartsF H a ps ∧ PsFit ps ∧ ∀ (l : Addr) (us : List V) (H' : Hp), Same H H' → H' l = some (.lst us) → Paired (TS2 H') us (pairsOf (ps.map (·.1)) fun a b => decide (b ∈ k1 ps a)) → Q (.ref l) H'
theorem ok_pairs (T : Txt K mg) : L2.Cl P w K mg base 1 "_law_pairs_of" ["_law_parts"] spPairs := by
 refine Cl.of T.d_law_pairs_of sc_law_pairs_of (fun vs H Q E h => ?_) (fun _ _ _ _ _ _ us hl => by obtain ⟨a, rfl⟩ := len1 hl; rfl) (fun f cdv A outer s H vs Q E hr h => ?_)
 · obtain ⟨a, ps, rfl, _⟩ := h
   rfl
 · obtain ⟨a, ps, rfl, hpf, hfit, q⟩ := h
   have hu := hu_of hr
   have hpl := hfit.hi
   obtain ⟨o, vs, ha, ho, hps⟩ := id hpf
   have hvl : vs.length = ps.length := Paired.length hps
   have hNl : (ps.map (·.1)).length ≤ 24 := by rw [List.length_map]; exact hpl
   refine ⟨_, (pss_cons (ps_set (i := 1) sc_law_pairs_of.nd rfl (Or.inl rfl) (pe_lst pa_nil))
     (pss_cons (ps_for PassesOwn.never rfl (pi_tup (pv 0)) (pg_tup rfl (pgs_cons (pg_name (i := 2) sc_law_pairs_of.nd rfl (Or.inr rfl)) (pgs_cons (pg_name (i := 3) sc_law_pairs_of.nd rfl (Or.inl rfl)) pgs_nil)))
       (pss_cons (ps_set (i := 4) sc_law_pairs_of.nd rfl (Or.inr rfl) (pe_comp (M := ["_law_row"]) (ρ := [none]) (defScope s_law_pairs_of) ["_law_parts", "_law_found", "_law_name", "_law_rows", "_law_others"] ⟨rfl, by decide +kernel, by decide +kernel, by decide +kernel, rfl, by decide +kernel, by decide +kernel⟩ (pi_tup (pv 3)) (fun _ _ _ _ _ _ => (pg_name (i := 0) (show (["_law_row"] : List Str).Nodup by decide +kernel) rfl (Or.inl rfl))) (fun _ _ _ _ _ _ => (pts_one (pt_cmpR op_eq (pe_ix (ix_tupK (K := K) rfl) (pv 0) pe_int (fun _ _ => rfl)) pe_str (nomark _)))) (fun _ _ _ _ _ _ => (pe_ix (ix_tupK (K := K) rfl) (pv 0) pe_int (fun _ _ => rfl)))))
       (pss_one (ps_expr (pe_bm PySem.F.plainAttrs_list PySem.F.slot_list_extend PySem.F.type_list_extend mt_extend (pv 1) (pa_cons (pe_comp (M := ["_law_other_here", "_law_some", "_law_name", "_law_others"]) (ρ := [none, none, some 2, some 4]) (defScope s_law_pairs_of) ["_law_parts", "_law_found", "_law_name", "_law_rows", "_law_others"] ⟨rfl, by decide +kernel, by decide +kernel, by decide +kernel, rfl, by decide +kernel, by decide +kernel⟩ (pi_tup (pv 0)) (fun _ _ _ _ _ _ => (pg_tupK (K := K) (n := 2) rfl rfl (pgs_cons (pg_name (i := 0) (show (["_law_other_here", "_law_some", "_law_name", "_law_others"] : List Str).Nodup by decide +kernel) rfl (Or.inl rfl)) (pgs_cons (pg_name (i := 1) (show (["_law_other_here", "_law_some", "_law_name", "_law_others"] : List Str).Nodup by decide +kernel) rfl (Or.inl rfl)) pgs_nil)))) (fun _ _ _ _ _ _ => (pts_one (pt_cmpR (op_in_seqK (K := K) rfl) (pv 0) (pv 3) (by with_unfolding_all rfl)))) (fun _ _ _ _ _ _ => (pe_tup (pa_cons (pv 2) (pa_cons (pv 0) pa_nil))))) pa_nil))))))
     (pss_one (ps_ret (pv 1))))), ?_⟩
   refine ⟨(by show 0 ≤ sizeLine; decide), fun F gF => ?_⟩
   have s4 : Same H (upd H F (.lst [])) := (Same.refl H).new gF
   have hF4 : upd H F (.lst []) F = some (.lst []) := upd_same
   generalize upd H F (.lst []) = H4 at s4 hF4 ⊢
   have sqa : ∀ {H5 : Hp}, Same H H5 → SqT K H5 a vs := fun s5 => .inl (.inr ⟨o, s5 _ _ ha⟩)
   refine ⟨_, rfl, a, rfl, ⟨_, sqa s4⟩, for_tup (K := K) (a := a) (xs := vs) (fun i σ H5 => ∃ (ws : List V) (v2 v3 v4 : Option V), σ = [some (.ref a), some (.ref F), v2, v3, v4] ∧ Same H H5 ∧ H5 F = some (.lst ws) ∧ Paired (TS2 H5) ws (((ps.take i).map (·.1)).flatMap fun x => ((ps.map (·.1)).filter fun z => decide (z ∈ k1 ps x)).map fun z => (x, z)))
     ⟨[], none, none, none, rfl, s4, hF4, by rw [List.take_zero]; exact .nil⟩ (fun i σ H5 _ ⟨_, _, _, _, _, s5, _⟩ => sqa s5) ?_ ?_⟩
   · rintro i y σ H5 hy ⟨ws, v2, v3, v4, rfl, s5, hF5, hws⟩
     obtain ⟨pt, hpt, t, u, rv, ey, ht, hu', hrs⟩ := Paired.get? hps hy
     subst ey
     obtain ⟨n, rs⟩ := pt
     have hmem := List.mem_of_getElem? hpt
     have h40 : rs.length ≤ 40 := hfit.rows _ hmem
     have hi24 : i < 24 := by have := (List.getElem?_eq_some_iff.mp hpt).1; omega
     have hu5 := s5 _ _ hu'
     have hrs5 := hrs.mono s5.tups
     have hrl : rv.length = rs.length := Paired.length hrs
     refine ⟨t, _, rfl, SqT.of (s5 _ _ ht), rfl, _, _, rfl, _, _, rfl, rfl, ?_⟩
     refine ⟨_, rfl, u, rfl, ⟨_, SqT.of hu5⟩, fun D gD => ?_⟩
     refine comp_by rv.length (fun j σ H6 => ∃ v0 : Option V, σ = [v0] ∧ Same H5 H6 ∧ H6 D = some (.lst (((rs.take j).filterMap (namesIt "bring")).map V.str))) ⟨_, rfl, (Same.refl H5).new gD, by rw [upd_same, List.take_zero]; rfl⟩ ?_ ?_
     · rintro j σ H6 hj ⟨v0, rfl, s6, hD⟩
       refine ⟨⟨rv, rv[j], SqT.of (s6 _ _ hu5), by simp⟩, ?_⟩
       rintro y H7 ⟨rfl, hy7⟩
       obtain ⟨rw, hrw, r, er, hra⟩ := Paired.get? hrs5 (hy7 _ (SqT.of (s6 _ _ hu5)))
       subst er
       have hra7 := hra.mono s6.tups
       have hdl : (((rs.take j).filterMap (namesIt "bring")).map V.str).length ≤ 40 := by
         rw [List.length_map]
         have h2 : ((rs.take j).filterMap (namesIt "bring")).length ≤ (rs.take j).length := List.length_filterMap_le _ _
         rw [List.length_take] at h2
         omega
       rcases row_br hra7 with ⟨m, rest, hm, hrt⟩ | ⟨hk, hm⟩
       · have z0 : atI (V.str "bring" :: V.str m :: rest) 0 = some (.str "bring") := atI_nat (j := 0) rfl
         have z1 : atI (V.str "bring" :: V.str m :: rest) 1 = some (.str m) := atI_nat (j := 1) rfl
         refine ⟨_, rfl, r, _, _, _, rfl, rfl, SqT.of hrt, z0, rfl, _, rfl, iteSE ?_⟩
         refine ⟨_, rfl, r, _, _, _, rfl, rfl, SqT.of hrt, z1, _, hD, small1000 (by omega), _, rfl, s6.put gD, ?_⟩
         rw [upd_same, take_succ_get hrw, List.filterMap_append, List.map_append]
         simp [hm]
       · obtain ⟨x1, rest, hrt⟩ := hra7.kind
         have z0 : atI (V.str (kindS rw) :: x1 :: rest) 0 = some (.str (kindS rw)) := atI_nat (j := 0) rfl
         refine ⟨_, rfl, r, _, _, _, rfl, rfl, SqT.of hrt, z0, rfl, _, rfl, iteSN hk ?_⟩
         refine ⟨_, rfl, s6, ?_⟩
         rw [take_succ_get hrw, List.filterMap_append, hD]
         simp [hm]
     rintro σ H6 ⟨v0, rfl, s6, hD⟩
     refine ⟨⟨rv, SqT.of (s6 _ _ hu5), Nat.le_refl _⟩, ?_⟩
     rw [hrl, List.take_length] at hD
     have hos : ∀ m, m ∈ rs.filterMap (namesIt "bring") ↔ m ∈ k1 ps n := fun m => by
       rw [mem_k1 hfit.nd hmem, List.mem_filterMap]
     generalize rs.filterMap (namesIt "bring") = os at hD hos
     have s06 := s5.trans s6
     have hF6 := s6 _ _ hF5
     refine ⟨_, rfl, .inl ⟨rfl, _, SqL.of hF6⟩, _, rfl, a, rfl, ⟨_, sqa s06⟩, fun D2 gD2 => ?_⟩
     refine comp_by vs.length (fun j σ H7 => ∃ (v0 v1 : Option V) (xs : List V), σ = [v0, v1, some (.str n), some (.ref D)] ∧ Same H6 H7 ∧ H7 D2 = some (.lst xs) ∧ Paired (TS2 H7) xs ((((ps.take j).map (·.1)).filter fun z => decide (z ∈ k1 ps n)).map fun z => (n, z))) ⟨_, _, [], rfl, (Same.refl H6).new gD2, upd_same, by rw [List.take_zero]; exact .nil⟩ ?_ ?_
     · rintro j σ H7 hj ⟨v0, v1, xs, rfl, s7, hD7, hxs⟩
       have s07 := s06.trans s7
       refine ⟨⟨vs, vs[j], sqa s07, by simp⟩, ?_⟩
       rintro y H8 ⟨rfl, hy8⟩
       obtain ⟨pt2, hpt2, t2, u2, rs2, ey, ht2, hu2, _⟩ := Paired.get? hps (hy8 _ (sqa s07))
       subst ey
       obtain ⟨m, rws2⟩ := pt2
       have hxl : xs.length ≤ 24 := by
         rw [Paired.length hxs, List.length_map]
         refine Nat.le_trans (List.length_filter_le _ _) ?_
         rw [List.length_map, List.length_take]
         omega
       refine ⟨t2, _, rfl, SqT.of (s07 _ _ ht2), rfl, _, _, rfl, _, _, rfl, rfl, ?_⟩
       refine ⟨_, rfl, _, rfl, D, _, rfl, .inl (SqL.of (s7 _ _ hD)), rfl, strs_flat _, _, rfl, ?_⟩
       have emem : decide (m ∈ os) = decide (m ∈ k1 ps n) := decide_eq_decide.mpr (hos m)
       rw [if_neg Bool.false_ne_true, inV_strs, emem]
       rw [take_succ_get hpt2, List.map_append, List.filter_append, List.map_append]
       by_cases hin : m ∈ k1 ps n
       · rw [decide_eq_true hin]
         refine iteT ?_
         refine ⟨_, rfl, _, rfl, (by show 2 ≤ sizeLine; decide), fun r2 gr2 => ?_⟩
         have s9 := (Same.refl H8).new (o := .tup [.str n, .str m]) gr2
         have hD9 := s9 _ _ hD7
         have T9 := Tups.lst (ys := xs ++ [.ref r2]) hD9
         refine ⟨xs, hD9, small1000 (by omega), _, _, xs ++ [.ref r2], rfl, (s7.trans s9).put gD2, upd_same, ?_⟩
         have e : [m].filter (fun z => decide (z ∈ k1 ps n)) = [m] := by
           rw [List.filter_cons_of_pos (by exact decide_eq_true hin), List.filter_nil]
         show Paired _ _ (_ ++ ([m].filter fun z => decide (z ∈ k1 ps n)).map _)
         rw [e]
         exact Paired.snoc (Paired.mapP hxs fun _ _ z => ts2_tups (s9.tups.trans T9) z) ⟨r2, rfl, T9 _ _ upd_same⟩
       · rw [decide_eq_false hin]
         refine iteF ?_
         refine ⟨_, _, xs, rfl, s7, hD7, ?_⟩
         have e : [m].filter (fun z => decide (z ∈ k1 ps n)) = [] := by
           rw [List.filter_cons_of_neg (by simpa using hin), List.filter_nil]
         show Paired _ _ (_ ++ ([m].filter fun z => decide (z ∈ k1 ps n)).map _)
         rw [e, List.map_nil, List.append_nil]
         exact hxs
     rintro σ H7 ⟨v0, v1, xs, rfl, s7, hD7, hxs⟩
     refine ⟨⟨vs, sqa (s06.trans s7), Nat.le_refl _⟩, ?_⟩
     rw [hvl, List.take_length] at hxs
     have hxl : xs.length ≤ 24 := by
       rw [Paired.length hxs, List.length_map]
       exact Nat.le_trans (List.length_filter_le _ _) hNl
     have hwl : ws.length ≤ 600 := by
       rw [Paired.length hws]
       refine Nat.le_trans (pairsOf_len _) ?_
       rw [List.length_map, List.length_take]
       have h1 : min i ps.length ≤ 24 := by omega
       exact Nat.le_trans (Nat.mul_le_mul h1 hNl) (by decide)
     have hF7 := s7 _ _ hF6
     refine ⟨F, D2, _, _, rfl, rfl, hF7, hD7, (by show ws.length + xs.length ≤ 2 ^ 24; omega), ?_⟩
     have T7 := Tups.lst (ys := ws ++ xs) hF7
     refine ⟨ws ++ xs, _, _, _, rfl, (s06.trans s7).put gF, upd_same, ?_⟩
     rw [take_succ_get hpt, List.map_append, List.flatMap_append]
     refine paired_app (Paired.mapP hws fun _ _ z => ts2_tups ((s6.trans s7).tups.trans T7) z) ?_
     have e : ([(n, rs)].map (·.1)).flatMap (fun x => ((ps.map (·.1)).filter fun z => decide (z ∈ k1 ps x)).map fun z => (x, z)) = ((ps.map (·.1)).filter fun z => decide (z ∈ k1 ps n)).map fun z => (n, z) := by
       simp
     rw [e]
     exact Paired.mapP hxs fun _ _ z => ts2_tups T7 z
   · rintro σ H5 ⟨ws, v2, v3, v4, rfl, s5, hF5, hws⟩
     rw [hvl, List.take_length] at hws
     exact ⟨_, rfl, q F ws _ s5 hF5 hws⟩
theorem ts2_tupis {H : Hp} {us : List V} {F : List (Str × Str)} (h : Paired (TS2 H) us F) : Paired (TupIs H) us (F.map fun c => [V.str c.1, V.str c.2]) := by
 induction h with
 | nil => exact .nil
 | cons h _ ih => exact .cons h ih
noncomputable def spIsCut : Sp := fun vs H Q _ => ∃ (p l : Addr) (us ws : List V) (F Pp : List (Str × Str)), vs = [.ref p, .ref l] ∧ H p = some (.tup us) ∧ Paired (TS2 H) us F ∧ H l = some (.lst ws) ∧ Paired (TS2 H) ws Pp ∧ Pp.filter (fun c => decide (c ∈ F)) = F ∧ ws.length ≤ 600 ∧ ∀ H', Same H H' → Q (.bl true) H'
theorem ok_isCut (T : Txt K mg) : L2.Cl P w K mg base 1 "_law_is_cut" ["_law_found", "_law_pairs"] spIsCut := by
 refine Cl.of T.d_law_is_cut sc_law_is_cut (fun vs H Q E h => ?_) (fun _ _ _ _ _ _ us hl => by obtain ⟨a, b, rfl⟩ := len2 hl; rfl) (fun f cdv A outer s H vs Q E hr h => ?_)
 · obtain ⟨p, l, us, ws, F, Pp, rfl, _⟩ := h
   rfl
 · obtain ⟨p, l, us, ws, F, Pp, rfl, hp, hus, hl, hws, hF, hwl, q⟩ := h
   have hu := hu_of hr
   refine ⟨_, (pss_cons (ps_if (pt_not (pt_val (pe_callB call_isinst (by rfl) T.n_isinstance PyProof.Rows.boot_isinstance (pa_cons (pv 0) (pa_cons (pe_bltn (v := .ty "tuple") (by rfl) T.n_tuple boot_tuple rfl) pa_nil)))))
       (pss_one (ps_ret pe_bl)) pss_nil)
     (pss_cons (ps_for PassesOwn.never rfl (pi_tup (pv 0)) (pg_name (i := 2) sc_law_is_cut.nd rfl (Or.inl rfl))
       (pss_cons (ps_if (PW.pt (pw_or (pt_not (pt_val (pe_callB call_isinst (by rfl) T.n_isinstance PyProof.Rows.boot_isinstance (pa_cons (pv 2) (pa_cons (pe_bltn (v := .ty "tuple") (by rfl) T.n_tuple boot_tuple rfl) pa_nil))))) (pw_or1 (pt_cmpR op_ne (pe_callB call_len_seq (by rfl) T.n_len PySem.boot_len (pa_cons (pv 2) pa_nil)) pe_int (nomark _)))))
         (pss_one (ps_ret pe_bl)) pss_nil)
       (pss_one (ps_if (PW.pt (pw_or (pt_not (pt_val (pe_callB call_isinst (by rfl) T.n_isinstance PyProof.Rows.boot_isinstance (pa_cons (pe_ix ix_tup (pv 2) pe_int (fun _ _ => rfl)) (pa_cons (pe_bltn (v := .ty "str") (by rfl) T.n_str boot_str rfl) pa_nil))))) (pw_or1 (pt_not (pt_val (pe_callB call_isinst (by rfl) T.n_isinstance PyProof.Rows.boot_isinstance (pa_cons (pe_ix ix_tup (pv 2) pe_int (fun _ _ => rfl)) (pa_cons (pe_bltn (v := .ty "str") (by rfl) T.n_str boot_str rfl) pa_nil))))))))
         (pss_one (ps_ret pe_bl)) pss_nil))))
     (pss_one (ps_ret (pe_cmpR (op_eqL_tups hu) (pe_callTy call_list_of (by rfl) T.n_list boot_list (pa_cons (pv 0) pa_nil)) (pe_comp (M := ["_law_pair", "_law_found"]) (ρ := [none, some 0]) (defScope s_law_is_cut) ["_law_found", "_law_pairs", "_law_pair"] ⟨rfl, by decide +kernel, by decide +kernel, by decide +kernel, rfl, by decide +kernel, by decide +kernel⟩ (pi_list (pv 1)) (fun _ _ _ _ _ _ => (pg_name (i := 0) (show (["_law_pair", "_law_found"] : List Str).Nodup by decide +kernel) rfl (Or.inl rfl))) (fun _ _ _ _ _ _ => (pts_one (pt_cmpR (op_inP (K := K) rfl hu) (pv 0) (pv 1) (by with_unfolding_all rfl)))) (fun _ _ _ _ _ _ => (pv 0))) (nomark _)))))), ?_⟩
   refine ⟨_, rfl, _, _, _, _, rfl, .tup hp, kit_same _ _, _, rfl, iteF ?_⟩
   refine ⟨_, rfl, p, rfl, ⟨_, SqT.of hp⟩, for_tup (K := K) (a := p) (xs := us) (fun i σ H2 => H2 = H ∧ ∃ v2 : Option V, σ = [some (.ref p), some (.ref l), v2])
     ⟨rfl, none, rfl⟩ (fun i σ H2 _ ⟨z, _⟩ => by rw [z]; exact SqT.of hp) ?_ ?_⟩
   · rintro i y σ H2 hy ⟨rfl, v2, rfl⟩
     obtain ⟨c, hc, r, er, hr0⟩ := Paired.get? hus hy
     subst er
     have z0 : atI [V.str c.1, V.str c.2] 0 = some (.str c.1) := atI_nat (j := 0) rfl
     have z1 : atI [V.str c.1, V.str c.2] 1 = some (.str c.2) := atI_nat (j := 1) rfl
     refine ⟨_, rfl, _, _, _, _, rfl, .tup hr0, kit_same _ _, _, rfl, iteF ?_⟩
     refine ⟨_, rfl, r, _, rfl, .inr (SqT.of hr0), rfl, _, rfl, iteF ?_⟩
     refine ⟨_, rfl, r, _, _, _, rfl, rfl, SqT.of hr0, z0, _, _, _, _, rfl, .str _, kit_same _ _, _, rfl, iteF ?_⟩
     refine ⟨_, rfl, r, _, _, _, rfl, rfl, SqT.of hr0, z1, _, _, _, _, rfl, .str _, kit_same _ _, _, rfl, iteF ?_⟩
     exact ⟨rfl, _, rfl⟩
   · rintro σ H2 ⟨rfl, v2, rfl⟩
     refine ⟨_, rfl, p, _, rfl, .inr (SqT.of hp), fun L gL => ?_⟩
     have s3 : Same H2 (upd H2 L (.lst us)) := (Same.refl H2).new gL
     have hL3 : upd H2 L (.lst us) L = some (.lst us) := upd_same
     generalize upd H2 L (.lst us) = H3 at s3 hL3 ⊢
     have hl3 := s3 _ _ hl
     refine ⟨_, rfl, l, rfl, ⟨_, SqL.of hl3⟩, fun D gD => ?_⟩
     refine comp_by ws.length (fun j σ H4 => ∃ (v0 : Option V) (xs : List V), σ = [v0, some (.ref p)] ∧ Same H3 H4 ∧ H4 D = some (.lst xs) ∧ xs.length ≤ j ∧ Paired (TS2 H4) xs ((Pp.take j).filter fun c => decide (c ∈ F))) ⟨_, [], rfl, (Same.refl H3).new gD, upd_same, Nat.le_refl _, by rw [List.take_zero]; exact .nil⟩ ?_ ?_
     · rintro j σ H4 hj ⟨v0, xs, rfl, s4, hD4, hxl, hxs⟩
       refine ⟨⟨ws, ws[j], SqL.of (s4 _ _ hl3), by simp⟩, ?_⟩
       rintro y H5 ⟨rfl, hy⟩
       obtain ⟨c, hc, r, er, hr0⟩ := Paired.get? hws (hy _ (SqL.of (s4 _ _ hl3)))
       subst er
       have s34 := s3.trans s4
       have hr4 := s34 _ _ hr0
       refine ⟨_, rfl, _, rfl, r, p, us, c, F, rfl, rfl, hr4, .inr (SqT.of (s34 _ _ hp)), Paired.mapP hus fun _ _ z => ts2_tups s34.tups z, _, rfl, ?_⟩
       rw [if_neg Bool.false_ne_true, take_succ_get hc, List.filter_append]
       have T5 := Tups.lst (ys := xs ++ [.ref r]) hD4
       by_cases hin : c ∈ F
       · rw [decide_eq_true hin]
         refine iteT ⟨_, rfl, xs, hD4, small1000 (by omega), _, xs ++ [.ref r], rfl, s4.put gD, upd_same, by rw [List.length_append]; simp; omega, ?_⟩
         have e : [c].filter (fun c => decide (c ∈ F)) = [c] := by rw [List.filter_cons_of_pos (by exact decide_eq_true hin), List.filter_nil]
         rw [e]
         exact Paired.snoc (Paired.mapP hxs fun _ _ z => ts2_tups T5 z) ⟨r, rfl, T5 _ _ hr4⟩
       · rw [decide_eq_false hin]
         refine iteF ⟨_, xs, rfl, s4, hD4, by omega, ?_⟩
         have e : [c].filter (fun c => decide (c ∈ F)) = [] := by rw [List.filter_cons_of_neg (by simpa using hin), List.filter_nil]
         rw [e, List.append_nil]
         exact hxs
     rintro σ H4 ⟨v0, xs, rfl, s4, hD4, hxl, hxs⟩
     refine ⟨⟨ws, SqL.of (s4 _ _ hl3), Nat.le_refl _⟩, ?_⟩
     rw [Paired.length hws, List.take_length, hF] at hxs
     refine ⟨L, D, us, xs, _, rfl, rfl, SqL.of (s4 _ _ hL3), SqL.of hD4, ts2_tupis (Paired.mapP hus fun _ _ z => ts2_tups (s3.trans s4).tups z), ts2_tupis hxs, fun d hd => ?_, q H4 (s3.trans s4)⟩
     obtain ⟨c, _, e⟩ := List.mem_map.mp hd
     rw [← e]
     rfl
theorem all_facts {ps : List Pt} {css : List (List (Str × Str))} (hn : (ps.map (·.1)).Nodup) (h : Paired (CutL ps) css (knotsOf (k1 ps) (ps.map (·.1)) (ps.map (·.1)))) : css.flatten.Nodup ∧ (∀ c ∈ css.flatten, c.1 ∈ ps.map (·.1) ∧ c.2 ∈ ps.map (·.1) ∧ c.2 ∈ k1 ps c.1) ∧ ∃ ρ : Str → Nat, ∀ a ∈ ps.map (·.1), ∀ b ∈ ps.map (·.1), b ∈ k1 ps a → (a, b) ∉ css.flatten → ρ b < ρ a := by
 refine ⟨cuts_nodup (Paired.mapP h fun _ _ z => z.1) (knots_apart hn), fun c hc => ?_, rank_all fun n hnN => ?_⟩
 · obtain ⟨cs, hcs, hc'⟩ := List.mem_flatten.mp hc
   obtain ⟨i, hi⟩ := List.getElem?_of_mem hcs
   obtain ⟨tg, htg, hok⟩ := Paired.get? h hi
   obtain ⟨a1, a2, a3⟩ := hok.1.mem c hc'
   have hsub := knot_sub (List.mem_of_getElem? htg)
   exact ⟨hsub _ a1, hsub _ a2, a3⟩
 · obtain ⟨i, hi⟩ := List.getElem?_of_mem (knot_in (g := k1 ps) hnN)
   obtain ⟨cs, hcs, hok⟩ := Paired.get?' h hi
   obtain ⟨ρ, h1, h2⟩ := hok.1.rank
   exact ⟨ρ, h1, fun a ha b hb hg hc => h2 a ha b hb hg fun z => hc (List.mem_flatten.mpr ⟨cs, List.mem_of_getElem? hcs, z⟩)⟩
theorem atI_end {α : Type} {xs : List α} {v : α} (h : xs[xs.length - 1]? = some v) : atI xs (-1) = some v := by
 have hl : 0 < xs.length := by
   cases xs with
   | nil => simp at h
   | cons a b => simp
 unfold atI ixN
 rw [if_neg (by decide), if_pos (by omega), show ((-1 : Int) + (xs.length : Int)).toNat = xs.length - 1 by omega]
 exact h
theorem least_of (r : Nat → Nat) : ∀ l : List Nat, l ≠ [] → ∃ a ∈ l, ∀ b ∈ l, r a ≤ r b
 | [], h => absurd rfl h
 | [a], _ => ⟨a, List.mem_singleton.mpr rfl, fun b hb => by rw [List.mem_singleton.mp hb]; exact Nat.le_refl _⟩
 | a :: c :: t, _ => by
   obtain ⟨m, hm, h⟩ := least_of r (c :: t) (by simp)
   by_cases z : r a ≤ r m
   · refine ⟨a, List.mem_cons_self, fun b hb => ?_⟩
     rcases List.mem_cons.mp hb with y | y
     · rw [y]; exact Nat.le_refl _
     · exact Nat.le_trans z (h b y)
   · refine ⟨m, List.mem_cons_of_mem _ hm, fun b hb => ?_⟩
     rcases List.mem_cons.mp hb with y | y
     · rw [y]; omega
     · exact h b y
theorem bits_ne {x : Nat} (hx : x ≠ 0) (h24 : x < 2 ^ 24) : bitsL x ≠ [] := fun z => by
 obtain ⟨k, m, e⟩ := odd_part x (by omega)
 have : k ∈ bitsL x := (bitsL_mem h24).mpr (by rw [Nat.testBit_eq_decide_div_mod_eq, e, Nat.mul_div_cancel_left _ (Nat.two_pow_pos k)]; exact decide_eq_true (by omega))
 rw [z] at this
 simp at this
theorem few_cut {st : Nat → Nat} {bs : List (Int × Nat)} (h : OptL st bs) (r : Nat → Nat) (cut : Nat → Nat → Prop) (hr : ∀ a b, (st a).testBit b = true → ¬ cut a b → r b < r a) : ∀ k x, x ≤ k → x < bs.length → x < 2 ^ 24 → ∃ ys : List (Nat × Nat), ys.Nodup ∧ (∀ p ∈ ys, x.testBit p.1 = true ∧ x.testBit p.2 = true ∧ (st p.1).testBit p.2 = true ∧ cut p.1 p.2) ∧ (bs.getD x (0, 0)).1 ≤ (ys.length : Int)
 | k, 0, _, hl, _ => ⟨[], List.nodup_nil, fun p hp => by simp at hp, by rw [h.zero _ (getD_some hl)]; exact Int.le_refl _⟩
 | 0, x + 1, hk, _, _ => by omega
 | k + 1, x + 1, hk, hl, h24 => by
   obtain ⟨l, hlm, hmin⟩ := least_of r (bitsL (x + 1)) (bits_ne (by omega) h24)
   have hb := (bitsL_mem h24).mp hlm
   have hle := bit_le hb
   have h2 := Nat.two_pow_pos l
   have hlow := h.low (x + 1) _ (by omega) (getD_some hl) l hb
   obtain ⟨ys, n1, n2, n3⟩ := few_cut h r cut hr k (x + 1 - 2 ^ l) (by omega) (by omega) (by omega)
   refine ⟨(bitsL (st l &&& (x + 1))).map (fun m => (l, m)) ++ ys, ?_, fun p hp => ?_, ?_⟩
   · refine List.nodup_append.mpr ⟨?_, n1, fun a ha b hb' e => ?_⟩
     · unfold List.Nodup
       rw [List.pairwise_map]
       refine List.Pairwise.imp (fun hne z => hne (Prod.mk.inj z).2) (show (bitsL _).Nodup from ?_)
       unfold bitsL
       exact List.nodup_range.filter _
     · obtain ⟨m, hm, e1⟩ := List.mem_map.mp ha
       have a1 := (n2 b hb').1
       rw [sub_bit _ _ _ hb, ← e, ← e1] at a1
       simp at a1
   · rcases List.mem_append.mp hp with z | z
     · obtain ⟨m, hm, e⟩ := List.mem_map.mp z
       have hm' := (bitsL_mem (and24 h24)).mp hm
       rw [Nat.testBit_and] at hm'
       have h3 := Bool.and_eq_true_iff.mp hm'
       rw [← e]
       refine ⟨hb, h3.2, h3.1, Classical.byContradiction fun hc => ?_⟩
       have h4 := hr l m h3.1 hc
       have h5 := hmin m ((bitsL_mem h24).mpr h3.2)
       omega
     · obtain ⟨a1, a2, a3, a4⟩ := n2 p z
       rw [sub_bit _ _ _ hb] at a1 a2
       exact ⟨(Bool.and_eq_true_iff.mp a1).1, (Bool.and_eq_true_iff.mp a2).1, a3, a4⟩
   · rw [List.length_append, List.length_map, bits_ones (and24 h24)]
     omega
theorem few_names {ps : List Pt} {tg : List Str} {bs : List (Int × Nat)} (h : OptL (fun k => (stepsOf ps tg).getD k 0) bs) (hl : bs.length = 2 ^ tg.length) (hn : tg.Nodup) (h8 : tg.length ≤ 8) {L : List (Str × Str)} {ρ : Str → Nat} (hρ : ∀ c ∈ L, ρ c.2 < ρ c.1) : ∃ ys : List (Str × Str), ys.Nodup ∧ (∀ c ∈ ys, c.1 ∈ tg ∧ c.2 ∈ tg ∧ c.2 ∈ k1 ps c.1 ∧ c ∉ L) ∧ (bs.getD (2 ^ tg.length - 1) (0, 0)).1 ≤ (ys.length : Int) := by
 have h256 : 2 ^ tg.length ≤ 256 := two_le h8
 have hpos := Nat.two_pow_pos tg.length
 have hbit : ∀ i, (2 ^ tg.length - 1).testBit i = decide (i < tg.length) := fun i => Nat.testBit_two_pow_sub_one _ _
 obtain ⟨ys, n1, n2, n3⟩ := few_cut h (fun i => ρ (tg.getD i "")) (fun a b => (tg.getD a "", tg.getD b "") ∉ L) (fun a b _ hc => hρ _ (Classical.not_not.mp hc)) 256 (2 ^ tg.length - 1) (by omega) (by omega) (by omega)
 have n2' : ∀ p ∈ ys, p.1 < tg.length ∧ p.2 < tg.length := fun p hp => by
   obtain ⟨a1, a2, _⟩ := n2 p hp
   rw [hbit] at a1 a2
   exact ⟨of_decide_eq_true a1, of_decide_eq_true a2⟩
 refine ⟨cutN tg ys, ?_, fun c hc => ?_, by unfold cutN; rw [List.length_map]; exact n3⟩
 · unfold cutN List.Nodup
   rw [List.pairwise_map]
   refine List.Pairwise.imp_of_mem (fun {a b} ha hb hne z => hne ?_) n1
   obtain ⟨z1, z2⟩ := Prod.mk.inj z
   exact Prod.ext (getD_inj hn (n2' a ha).1 (n2' b hb).1 z1) (getD_inj hn (n2' a ha).2 (n2' b hb).2 z2)
 · obtain ⟨p, hp, e⟩ := List.mem_map.mp hc
   obtain ⟨l1, l2⟩ := n2' p hp
   obtain ⟨_, _, a3, a4⟩ := n2 p hp
   rw [← e]
   refine ⟨getD_in l1, getD_in l2, ?_, a4⟩
   have := steps_bit (ps := ps) l1 l2
   have a3' : ((stepsOf ps tg).getD p.1 0).testBit p.2 = true := a3
   rw [a3'] at this
   exact of_decide_eq_true this.symm
theorem few_all {ps : List Pt} {L : List (Str × Str)} {ρ : Str → Nat} (hρ : ∀ c ∈ L, ρ c.2 < ρ c.1) : ∀ {css : List (List (Str × Str))} {ks : List (List Str)}, Paired (CutL ps) css ks → (∀ tg ∈ ks, tg.Nodup ∧ tg.length ≤ 8) → (ks.Pairwise fun s t => ∀ x ∈ s, x ∉ t) → ∃ ys : List (Str × Str), ys.Nodup ∧ (∀ c ∈ ys, (∃ tg ∈ ks, c.1 ∈ tg ∧ c.2 ∈ tg) ∧ c.2 ∈ k1 ps c.1 ∧ c ∉ L) ∧ css.flatten.length ≤ ys.length
 | _, _, .nil, _, _ => ⟨[], List.nodup_nil, fun c hc => by simp at hc, Nat.le_refl _⟩
 | _, _, .cons (a := cs) (l₁ := css) (b := tg) (l₂ := ks) h t, hk, hp => by
   obtain ⟨h1, h2⟩ := List.pairwise_cons.mp hp
   obtain ⟨ys, n1, n2, n3⟩ := few_all hρ t (fun s hs => hk s (List.mem_cons_of_mem _ hs)) h2
   obtain ⟨hn, h8⟩ := hk tg List.mem_cons_self
   obtain ⟨bs, ho, hl⟩ := h.2.2
   obtain ⟨zs, m1, m2, m3⟩ := few_names ho hl hn h8 hρ
   have hc := h.2.1 bs ho hl
   refine ⟨zs ++ ys, List.nodup_append.mpr ⟨m1, n1, fun a ha b hb e => ?_⟩, fun c hc => ?_, ?_⟩
   · obtain ⟨⟨s, hs, q1, _⟩, _⟩ := n2 b hb
     have q2 := (m2 a ha).1
     rw [← e] at q1
     exact h1 s hs _ q2 q1
   · rcases List.mem_append.mp hc with z | z
     · obtain ⟨a1, a2, a3, a4⟩ := m2 c z
       exact ⟨⟨tg, List.mem_cons_self, a1, a2⟩, a3, a4⟩
     · obtain ⟨⟨s, hs, a1⟩, a2⟩ := n2 c z
       exact ⟨⟨s, List.mem_cons_of_mem _ hs, a1⟩, a2⟩
   · rw [List.flatten_cons, List.length_append, List.length_append]
     omega
theorem none_fewer {ps : List Pt} {L Pp : List (Str × Str)} {ρ : Str → Nat} {css : List (List (Str × Str))} (hPn : Pp.Nodup) (hPm : ∀ c, c ∈ Pp ↔ c.1 ∈ ps.map (·.1) ∧ c.2 ∈ ps.map (·.1) ∧ c.2 ∈ k1 ps c.1) (hL : L.Sublist Pp) (hρ : ∀ c ∈ L, ρ c.2 < ρ c.1) (hn : (ps.map (·.1)).Nodup) (hc : Paired (CutL ps) css (knotsOf (k1 ps) (ps.map (·.1)) (ps.map (·.1)))) (hk : ∀ tg ∈ knotsOf (k1 ps) (ps.map (·.1)) (ps.map (·.1)), tg.length ≤ 8) : css.flatten.length + L.length ≤ Pp.length := by
 obtain ⟨ys, n1, n2, n3⟩ := few_all hρ hc (fun tg htg => ⟨knot_nd hn htg, hk tg htg⟩) (knots_apart hn)
 have h1 : (ys ++ L).Nodup := List.nodup_append.mpr ⟨n1, hPn.sublist hL, fun a ha b hb e => (n2 a ha).2.2 (e ▸ hb)⟩
 have h2 := nodup_lenG (ys ++ L) Pp h1 fun c hc => by
   rcases List.mem_append.mp hc with z | z
   · obtain ⟨⟨s, hs, q1, q2⟩, q3, _⟩ := n2 c z
     exact (hPm c).mpr ⟨knot_sub hs _ q1, knot_sub hs _ q2, q3⟩
   · exact hL.subset z
 rw [List.length_append] at h2
 omega
theorem no_self {ps : List Pt} {nms : List Str} (hnm : ps.map (·.1) = nms) (hnd : nms.Nodup) (h : ∀ pt ∈ ps, ∀ r ∈ pt.2, InS nms pt.1 r) {n : Str} (hn : n ∈ ps.map (·.1)) : n ∉ k1 ps n := fun hm => by
 obtain ⟨rs, hmem⟩ := part_of hn
 obtain ⟨r, hr, e⟩ := (mem_k1 (by rw [hnm]; exact hnd) hmem).mp hm
 have h1 := (h _ hmem r hr).2
 cases r with
 | bring p ps' =>
   have : p = n := by simpa [namesIt] using e
   exact h1 this
 | ask p w =>
   have : namesIt "bring" (.ask p w) = none := by simp [namesIt]; decide +kernel
   rw [this] at e
   cases e
 | _ => cases e
inductive Wk (k : Str → List Str) : Str → Nat → Str → Prop where
 | nil {a : Str} : Wk k a 0 a
 | cons {a b c : Str} {n : Nat} : b ∈ k a → Wk k b n c → Wk k a (n + 1) c
theorem Wk.snoc {k : Str → List Str} {a b c : Str} {n : Nat} (h : Wk k a n b) (e : c ∈ k b) : Wk k a (n + 1) c := by
 induction h with
 | nil => exact .cons e .nil
 | cons e1 _ ih => exact .cons e1 (ih e)
theorem Wk.one {k : Str → List Str} {a c : Str} (h : Wk k a 1 c) : c ∈ k a := by
 cases h with
 | cons e w => cases w; exact e
structure Bf (k : Str → List Str) (S E seen F : List Str) (t : Nat) : Prop where
 out : ∀ x ∈ seen, x ∉ E
 cl : ∀ z ∈ seen, z ∉ F → ∀ y ∈ k z, y ∈ seen
 wk : ∀ f ∈ F, ∃ s ∈ S, Wk k s t f
 fr : ∀ x ∈ E, ∀ m, 1 ≤ m → ∀ s ∈ S, Wk k s (t + m) x → ∃ f ∈ F, ∃ m', 1 ≤ m' ∧ m' ≤ m ∧ Wk k f m' x
 no : ∀ x ∈ E, ∀ t', 1 ≤ t' → t' ≤ t → ∀ s ∈ S, ¬ Wk k s t' x
theorem Bf.start {k : Str → List Str} {S E : List Str} : Bf k S E [] S 0 where
 out := fun x hx => by simp at hx
 cl := fun z hz => by simp at hz
 wk := fun f hf => ⟨f, hf, .nil⟩
 fr := fun x _ m hm s hs h => ⟨s, hs, m, hm, Nat.le_refl _, by rw [Nat.zero_add] at h; exact h⟩
 no := fun x _ t' h1 h2 => by omega
theorem out_walk {k : Str → List Str} {E seen F : List Str} (ho : ∀ x ∈ seen, x ∉ E) (hc : ∀ z ∈ seen, z ∉ F → ∀ y ∈ k z, y ∈ seen) {z x : Str} {m : Nat} (hz : z ∈ seen) (hx : x ∈ E) (h : Wk k z m x) : ∃ f ∈ F, ∃ m', 1 ≤ m' ∧ m' ≤ m ∧ Wk k f m' x := by
 induction h with
 | nil => exact absurd hx (ho _ hz)
 | cons e w ih =>
   rename_i a b c n
   by_cases hf : a ∈ F
   · exact ⟨a, hf, n + 1, by omega, Nat.le_refl _, .cons e w⟩
   · obtain ⟨f, h1, m', h2, h3, h4⟩ := ih (hc a hz hf b e) hx
     exact ⟨f, h1, m', h2, by omega, h4⟩
theorem Bf.step {k : Str → List Str} {S E seen F new : List Str} {t : Nat} (h : Bf k S E seen F t) (hall : ∀ f ∈ F, ∀ y ∈ k f, y ∈ seen ++ new ∧ y ∉ E) (hnew : ∀ y ∈ new, ∃ f ∈ F, y ∈ k f) : Bf k S E (seen ++ new) new (t + 1) where
 out := fun x hx => by
   rcases List.mem_append.mp hx with z | z
   · exact h.out x z
   · obtain ⟨f, hf, hy⟩ := hnew x z
     exact (hall f hf x hy).2
 cl := fun z hz hn y hy => by
   rcases List.mem_append.mp hz with w | w
   · by_cases hf : z ∈ F
     · exact (hall z hf y hy).1
     · exact List.mem_append_left _ (h.cl z w hf y hy)
   · exact absurd w hn
 wk := fun f hf => by
   obtain ⟨a, ha, hy⟩ := hnew f hf
   obtain ⟨s, hs, w⟩ := h.wk a ha
   exact ⟨s, hs, w.snoc hy⟩
 fr := fun x hx m hm s hs w => by
   obtain ⟨f, hf, m', h1, h2, w'⟩ := h.fr x hx (m + 1) (by omega) s hs (by rw [show t + (m + 1) = t + 1 + m by omega]; exact w)
   cases w' with
   | nil => omega
   | cons e w2 =>
     rename_i b n
     have hb := hall f hf b e
     have ho : ∀ x ∈ seen ++ new, x ∉ E := fun x hx => by
       rcases List.mem_append.mp hx with z | z
       · exact h.out x z
       · obtain ⟨f, hf, hy⟩ := hnew x z
         exact (hall f hf x hy).2
     have hc : ∀ z ∈ seen ++ new, z ∉ new → ∀ y ∈ k z, y ∈ seen ++ new := fun z hz hn y hy => by
       rcases List.mem_append.mp hz with w | w
       · by_cases hf : z ∈ F
         · exact (hall z hf y hy).1
         · exact List.mem_append_left _ (h.cl z w hf y hy)
       · exact absurd w hn
     obtain ⟨f', h3, m'', h4, h5, w3⟩ := out_walk ho hc hb.1 hx w2
     exact ⟨f', h3, m'', h4, by omega, w3⟩
 no := fun x hx t' h1 h2 s hs w => by
   by_cases e : t' = t + 1
   · subst e
     obtain ⟨f, hf, m', h3, h4, w'⟩ := h.fr x hx 1 (Nat.le_refl _) s hs w
     have : m' = 1 := by omega
     subst this
     exact (hall f hf x w'.one).2 hx
   · exact h.no x hx t' h1 (by omega) s hs w
noncomputable def NoWay (k : Str → List Str) (S E : List Str) : Prop := ∀ x ∈ E, ∀ t, 1 ≤ t → ∀ s ∈ S, ¬ Wk k s t x
structure Best (k : Str → List Str) (S E : List Str) (t : Nat) : Prop where
 pos : 1 ≤ t
 has : ∃ s ∈ S, ∃ x ∈ E, Wk k s t x
 min : ∀ x ∈ E, ∀ t', 1 ≤ t' → t' < t → ∀ s ∈ S, ¬ Wk k s t' x
theorem Bf.none {k : Str → List Str} {S E seen : List Str} {t : Nat} (h : Bf k S E seen [] t) : NoWay k S E := fun x hx t' h1 s hs w => by
 by_cases c : t' ≤ t
 · exact h.no x hx t' h1 c s hs w
 · obtain ⟨f, hf, _⟩ := h.fr x hx (t' - t) (by omega) s hs (by rw [show t + (t' - t) = t' by omega]; exact w)
   simp at hf
theorem Bf.hit {k : Str → List Str} {S E seen F : List Str} {t : Nat} (h : Bf k S E seen F t) {f y : Str} (hf : f ∈ F) (hy : y ∈ k f) (hE : y ∈ E) : Best k S E (t + 1) := by
 obtain ⟨s, hs, w⟩ := h.wk f hf
 exact ⟨by omega, ⟨s, hs, y, hE, w.snoc hy⟩, fun x hx t' h1 h2 s hs => h.no x hx t' h1 (by omega) s hs⟩
structure WayTo (k : Str → List Str) (S : List Str) (t : Nat) (w : List Str) (f : Str) : Prop where
 len : w.length = t + 1
 fst : ∃ s ∈ S, w[0]? = some s
 lst : w[t]? = some f
 edg : ∀ i a b, w[i]? = some a → w[i + 1]? = some b → b ∈ k a
theorem WayTo.one {k : Str → List Str} {S : List Str} {s : Str} (h : s ∈ S) : WayTo k S 0 [s] s := ⟨rfl, ⟨s, h, rfl⟩, rfl, fun i a b _ h2 => by simp at h2⟩
theorem WayTo.snoc {k : Str → List Str} {S w : List Str} {t : Nat} {f y : Str} (h : WayTo k S t w f) (e : y ∈ k f) : WayTo k S (t + 1) (w ++ [y]) y := by
 have hl := h.len
 refine ⟨by rw [List.length_append, hl]; rfl, ?_, ?_, fun i a b h1 h2 => ?_⟩
 · obtain ⟨s, hs, hw⟩ := h.fst
   exact ⟨s, hs, by rw [List.getElem?_append_left (by omega)]; exact hw⟩
 · rw [List.getElem?_append_right (by omega), hl, Nat.sub_self]; rfl
 · have hi : i + 1 < (w ++ [y]).length := (List.getElem?_eq_some_iff.mp h2).1
   rw [List.length_append, hl] at hi
   have hi : i + 1 < t + 1 + 1 := hi
   rw [List.getElem?_append_left (by omega)] at h1
   by_cases c : i + 1 < w.length
   · rw [List.getElem?_append_left c] at h2
     exact h.edg i a b h1 h2
   · have ei : i = t := by omega
     subst ei
     rw [h.lst] at h1
     cases h1
     rw [List.getElem?_append_right (by omega), hl, Nat.sub_self] at h2
     cases h2
     exact e
noncomputable def FAt (H : Hp) (v : V) (x : Str × Str) : Prop := ∃ t, v = .ref t ∧ H t = some (.tup [.str x.1, .str x.2])
theorem FAt.mono {H H' : Hp} (s : Tups H H') {v : V} {x : Str × Str} (h : FAt H v x) : FAt H' v x := by
 obtain ⟨t, e, h⟩ := h
 exact ⟨t, e, s _ _ h⟩
noncomputable def inF (fl : List (Str × Str)) (n : Str) : List Str := (fl.filter fun x => decide (x.2 = n)).map (·.1)
theorem inF_len (fl : List (Str × Str)) (n : Str) : (inF fl n).length ≤ fl.length := by
 unfold inF
 rw [List.length_map]
 exact List.length_filter_le _ _
theorem inF_snoc {fl : List (Str × Str)} {i : Nat} {x : Str × Str} (h : fl[i]? = some x) (n : Str) : inF (fl.take (i + 1)) n = inF (fl.take i) n ++ (if decide (x.2 = n) = true then [x.1] else []) := by
 unfold inF
 rw [take_succ_get h, List.filter_append, List.map_append]
 by_cases e : decide (x.2 = n) = true
 · rw [if_pos e, List.filter_cons_of_pos (p := fun x : Str × Str => decide (x.2 = n)) e]; rfl
 · rw [if_neg e, List.filter_cons_of_neg (p := fun x : Str × Str => decide (x.2 = n)) e]; rfl
theorem inF_mem {fl : List (Str × Str)} {n m : Str} (h : m ∈ inF fl n) : ∃ x ∈ fl, x.1 = m := by
 obtain ⟨x, hx, e⟩ := List.mem_map.mp h
 exact ⟨x, (List.mem_filter.mp hx).1, e⟩
noncomputable def spLaid : Sp := fun vs H Q _ => ∃ (a : Addr) (n : Str) (us : List V) (fl : List (Str × Str)), vs = [.ref a, .str n] ∧ H a = some (.tup us) ∧ Paired (FAt H) us fl ∧ fl.length ≤ 24 ∧ ∀ (l : Addr) (H' : Hp), Same H H' → H' l = some (.lst ((inF fl n).map V.str)) → Q (.ref l) H'
theorem ok_laid (T : Txt K mg) : L2.Cl P w K mg base 1 "laid_in" ["folders", "name"] spLaid := by
 refine Cl.of T.d_laid_in sc_laid_in (fun vs H Q E h => ?_) (fun _ _ _ _ _ _ us hl => by obtain ⟨a, b, rfl⟩ := len2 hl; rfl) (fun f cdv A outer s H vs Q E hr h => ?_)
 · obtain ⟨a, n, us, fl, rfl, _⟩ := h
   rfl
 · obtain ⟨a, n, us, fl, rfl, ha, hus, hfl, q⟩ := h
   have hul : us.length = fl.length := Paired.length hus
   refine ⟨_, (pss_one (ps_ret (pe_comp (M := ["part", "folder", "name"]) (ρ := [none, none, some 1]) (defScope s_laid_in) ["folders", "name"] ⟨rfl, by decide +kernel, by decide +kernel, by decide +kernel, rfl, by decide +kernel, by decide +kernel⟩ (pi_tup (pv 0)) (fun _ _ _ _ _ _ => (pg_tupK (K := K) (n := 2) rfl rfl (pgs_cons (pg_name (i := 0) (show (["part", "folder", "name"] : List Str).Nodup by decide +kernel) rfl (Or.inl rfl)) (pgs_cons (pg_name (i := 1) (show (["part", "folder", "name"] : List Str).Nodup by decide +kernel) rfl (Or.inl rfl)) pgs_nil)))) (fun _ _ _ _ _ _ => (pts_one (pt_cmpR op_eq (pv 1) (pv 2) (nomark _)))) (fun _ _ _ _ _ _ => (pv 0))))), ?_⟩
   refine ⟨_, rfl, a, rfl, ⟨_, SqT.of ha⟩, fun D gD => ?_⟩
   refine comp_by us.length (fun i σ H2 => ∃ v0 v1 : Option V, σ = [v0, v1, some (.str n)] ∧ Same H H2 ∧ H2 D = some (.lst ((inF (fl.take i) n).map V.str))) ⟨_, _, rfl, (Same.refl H).new gD, by rw [upd_same, List.take_zero]; rfl⟩ ?_ ?_
   · rintro i σ H2 hi ⟨v0, v1, rfl, s2, hD2⟩
     refine ⟨⟨us, us[i], SqT.of (s2 _ _ ha), by simp⟩, ?_⟩
     rintro y H3 ⟨rfl, hy⟩
     obtain ⟨x, hx, t, ey, ht⟩ := Paired.get? hus (hy _ (SqT.of (s2 _ _ ha)))
     subst ey
     have hll : ((inF (fl.take i) n).map V.str).length ≤ 24 := by
       rw [List.length_map]
       have := inF_len (fl.take i) n
       rw [List.length_take] at this
       omega
     refine ⟨t, _, rfl, SqT.of (s2 _ _ ht), rfl, _, _, rfl, _, _, rfl, rfl, ?_⟩
     refine ⟨_, rfl, _, rfl, rfl, _, rfl, ?_⟩
     by_cases e : x.2 = n
     · rw [e]
       refine iteSE ?_
       refine ⟨_, rfl, _, hD2, small1000 (by omega), _, _, rfl, s2.put gD, ?_⟩
       rw [upd_same, inF_snoc hx, if_pos (decide_eq_true e), List.map_append]
       rfl
     · refine iteSN e ?_
       refine ⟨_, _, rfl, s2, ?_⟩
       rw [inF_snoc hx, if_neg (by simp [e]), List.append_nil]
       exact hD2
   · rintro σ H2 ⟨v0, v1, rfl, s2, hD2⟩
     refine ⟨⟨us, SqT.of (s2 _ _ ha), Nat.le_refl _⟩, ?_⟩
     rw [hul, List.take_length] at hD2
     exact q D H2 s2 hD2
structure Lv (g : Str → List Str) (N S E seen F : List Str) (t : Nat) (new : List Str) (lw : List (List Str)) : Prop where
 nd : (seen ++ new).Nodup
 inN : ∀ x ∈ seen ++ new, x ∈ N
 frm : ∀ y ∈ new, ∃ f ∈ F, y ∈ g f
 ways : Paired (fun w y => WayTo g S (t + 1) w y) lw new
theorem Lv.start {g : Str → List Str} {N S E seen F : List Str} {t : Nat} (h : seen.Nodup) (hN : ∀ x ∈ seen, x ∈ N) : Lv g N S E seen F t [] [] := ⟨by rw [List.append_nil]; exact h, by rw [List.append_nil]; exact hN, by simp, .nil⟩
theorem Lv.more {g : Str → List Str} {N S E seen F : List Str} {t : Nat} {new : List Str} {lw : List (List Str)} {w : List Str} {x y : Str} (h : Lv g N S E seen F t new lw) (hx : x ∈ F) (hw : WayTo g S t w x) (hy : y ∈ g x) (hyN : y ∈ N) (hn : y ∉ seen ++ new) : Lv g N S E seen F t (new ++ [y]) (lw ++ [w ++ [y]]) := by
 refine ⟨?_, fun z hz => ?_, fun z hz => ?_, Paired.snoc h.ways (hw.snoc hy)⟩
 · rw [← List.append_assoc]
   refine List.nodup_append.mpr ⟨h.nd, by simp, fun a ha b hb z => ?_⟩
   rw [List.mem_singleton.mp hb] at z
   exact hn (by rw [← z]; exact ha)
 · rw [← List.append_assoc] at hz
   rcases List.mem_append.mp hz with c | c
   · exact h.inN z c
   · rw [List.mem_singleton.mp c]; exact hyN
 · rcases List.mem_append.mp hz with c | c
   · exact h.frm z c
   · rw [List.mem_singleton.mp c]; exact ⟨x, hx, hy⟩
theorem way_last {w : List Str} {t : Nat} {x : Str} (h1 : w.length = t + 1) (h2 : w[t]? = some x) : ∃ w', w = w' ++ [x] := by
 refine ⟨w.take t, ?_⟩
 have h3 := take_succ_get h2
 rw [List.take_of_length_le (by omega)] at h3
 exact h3
noncomputable def msr (s w : Nat) : Nat := 2 * (24 - s) + (if w = 0 then 0 else 1)
noncomputable def Ans (g : Str → List Str) (S E : List Str) (w : List Str) : Prop := (w = [] ∧ NoWay g S E) ∨ ∃ t x, Best g S E t ∧ WayTo g S t w x ∧ x ∈ E ∧ w.length ≤ 30
noncomputable def spShort : Sp := fun vs H Q _ => ∃ (d sa ea : Addr) (kvs : List (Key × V)) (N S E : List Str) (g : Str → List Str), vs = [.ref d, .ref sa, .ref ea] ∧ H d = some (.dK kvs) ∧ (∀ n ∈ N, ∃ u, valV kvs (Sum.inr n) = some (.ref u) ∧ H u = some (.tup ((g n).map V.str))) ∧ (∀ n ∈ N, ∀ m ∈ g n, m ∈ N) ∧ N.length ≤ 24 ∧ H sa = some (.lst (S.map V.str)) ∧ H ea = some (.lst (E.map V.str)) ∧ (∀ n ∈ S, n ∈ N) ∧ S.length ≤ 24 ∧
 ∀ (p : Addr) (w : List Str) (H' : Hp), Same H H' → H' p = some (.tup (w.map V.str)) → Ans g S E w → Q (.ref p) H'
noncomputable def ShInv (d sa ea f : Addr) (g : Str → List Str) (N S E' : List Str) (H : Hp) (m : Nat) (σ : L2.St) (H3 : Hp) : Prop := ∃ (seen F : List Str) (t : Nat) (wl : Addr) (us : List V) (ws : List (List Str)) (v5 v6 v7 : Option V), σ = [some (.ref d), some (.ref sa), some (.ref ea), some (.ref f), some (.ref wl), v5, v6, v7] ∧ Same H H3 ∧ H3 f = some (.dK (setD seen)) ∧ H3 wl = some (.lst us) ∧ Paired (TsAt H3) us ws ∧ Paired (fun w x => WayTo g S t w x) ws F ∧ Bf g S E' seen F t ∧ seen.Nodup ∧ (∀ x ∈ seen, x ∈ N) ∧ (∀ x ∈ F, x ∈ N) ∧ us.length ≤ 24 ∧ (us ≠ [] → t ≤ seen.length) ∧ m = msr seen.length us.length
theorem ok_short (T : Txt K mg) : L2.Cl P w K mg base 1 "shortest_way" ["onward", "starts", "ends"] spShort := by
 refine Cl.of T.d_shortest_way sc_shortest_way (fun vs H Q E h => ?_) (fun _ _ _ _ _ _ us hl => by obtain ⟨a, b, c, rfl⟩ := len3 hl; rfl) (fun fa cdv A outer s H vs Q E hr h => ?_)
 · obtain ⟨d, sa, ea, kvs, N, S, E', g, rfl, _⟩ := h
   rfl
 · obtain ⟨d, sa, ea, kvs, N, S, E', g, rfl, hd, hg, hgN, hN24, hsa, hea, hSN, hS24, q⟩ := h
   have hu := hu_of hr
   refine ⟨_, (pss_cons (ps_set (i := 3) sc_shortest_way.nd rfl (Or.inl rfl) pe_dnewK)
     (pss_cons (ps_setC (j := 4) (M := ["part"]) (ρ := [none]) (defScope s_shortest_way) ["onward", "starts", "ends", "seen", "ways", "longer", "way", "part"] ⟨rfl, by decide +kernel, by decide +kernel, by decide +kernel, rfl, by decide +kernel, by decide +kernel⟩ sc_shortest_way.nd rfl (Or.inl rfl) (pi_list (pv 1)) (fun _ _ _ _ _ _ => (pg_name (i := 0) (show (["part"] : List Str).Nodup by decide +kernel) rfl (Or.inl rfl))) (fun _ _ _ _ _ _ => pts_nil) (fun _ _ _ _ _ _ => (pe_tup (pa_cons (pv 0) pa_nil))))
     (pss_cons (ps_while PassesOwn.never (pt_truth (pv 4) (fun _ => rfl))
       (pss_cons (ps_set (i := 5) sc_shortest_way.nd rfl (Or.inl rfl) (pe_lst pa_nil))
       (pss_cons (ps_for PassesOwn.never rfl (pi_list (pv 4)) (pg_name (i := 6) sc_shortest_way.nd rfl (Or.inl rfl))
         (pss_one (ps_for PassesOwn.never rfl (pi_tup (pe_dget hu (pv 0) (pe_ix ix_tup (pv 6) (pe_un un_neg pe_int) (fun _ _ => rfl)) (fun _ _ => rfl))) (pg_name (i := 7) sc_shortest_way.nd rfl (Or.inl rfl))
           (pss_cons (ps_if (pt_cmpR op_in_seq (pv 7) (pv 2) (by with_unfolding_all rfl))
             (pss_one (ps_ret (pe_op op_catA (pv 6) (pe_tup (pa_cons (pv 7) pa_nil))))) pss_nil)
           (pss_one (ps_if (pt_cmp (pc_dnotin hu (pv 7) (pv 3)))
             (pss_cons (ps_dput hu (pv 3) (pv 7) pe_bl rfl)
             (pss_one (ps_expr (pe_bm PySem.F.plainAttrs_list PySem.F.slot_list_append PySem.F.type_list_append mt_append (pv 5) (pa_cons (pe_op op_catA (pv 6) (pe_tup (pa_cons (pv 7) pa_nil))) pa_nil))))) pss_nil))))))
       (pss_one (ps_set (i := 4) sc_shortest_way.nd rfl (Or.inl rfl) (pv 5))))))
     (pss_one (ps_ret (pe_tup pa_nil)))))), ?_⟩
   intro f gf
   have s1 : Same H (upd H f (.dK [])) := (Same.refl H).new gf
   have hf1 : upd H f (.dK []) f = some (.dK (setD [])) := upd_same
   generalize upd H f (.dK []) = H1 at s1 hf1 ⊢
   refine ⟨_, rfl, sa, rfl, ⟨_, SqL.of (s1 _ _ hsa)⟩, fun w0 gw0 => ?_⟩
   refine comp_by S.length (fun i σ H2 => ∃ (v0 : Option V) (us : List V), σ = [v0] ∧ Same H1 H2 ∧ H2 w0 = some (.lst us) ∧ Paired (TsAt H2) us ((S.take i).map fun x => [x])) ⟨_, [], rfl, (Same.refl H1).new gw0, upd_same, by rw [List.take_zero]; exact .nil⟩ ?_ ?_
   · rintro i σ H2 hi ⟨v0, us, rfl, s2, hD, hus⟩
     have hn : S[i]? = some S[i] := by simp [hi]
     have hsa2 := s2 _ _ (s1 _ _ hsa)
     refine ⟨⟨_, .str S[i], SqL.of hsa2, by simp [hi]⟩, ?_⟩
     rintro y H3 ⟨rfl, hy⟩
     have ey : y = .str S[i] := Option.some.inj ((hy _ (SqL.of hsa2)).symm.trans (by rw [List.getElem?_map, hn]; rfl))
     subst ey
     have hul : us.length ≤ 24 := by rw [Paired.length hus, List.length_map, List.length_take]; omega
     refine ntG ?_
     refine ⟨_, rfl, (by show 1 ≤ sizeLine; decide), fun t gt => ?_⟩
     have s3 : Same H3 (upd H3 t (.tup [.str S[i]])) := (Same.refl H3).new gt
     have T4 := Tups.lst (ys := us ++ [.ref t]) (s3 _ _ hD)
     refine ⟨us, s3 _ _ hD, small1000 (by omega), _, us ++ [.ref t], rfl, (s2.trans s3).put gw0, upd_same, ?_⟩
     rw [take_succ_get hn, List.map_append]
     exact Paired.snoc (Paired.mapP hus fun _ _ ⟨t, e, h⟩ => ⟨t, e, (s3.tups.trans T4) _ _ h⟩) ⟨t, rfl, T4 _ _ upd_same⟩
   rintro σ H2 ⟨v0, us0, rfl, s2, hw0, hus0⟩
   refine ⟨⟨_, SqL.of (s2 _ _ (s1 _ _ hsa)), by simp⟩, ?_⟩
   rw [List.take_length] at hus0
   have hway0 : Paired (fun w x => WayTo g S 0 w x) (S.map fun x => [x]) S := by
     have : ∀ l : List Str, (∀ x ∈ l, x ∈ S) → Paired (fun w x => WayTo g S 0 w x) (l.map fun x => [x]) l := by
       intro l
       induction l with
       | nil => exact fun _ => .nil
       | cons a r ih => exact fun h => .cons (WayTo.one (h a List.mem_cons_self)) (ih fun x hx => h x (List.mem_cons_of_mem _ hx))
     exact this S fun x hx => hx
   have hul0 : us0.length = S.length := by rw [Paired.length hus0, List.length_map]
   refine to_g ?_
   refine ⟨ShInv d sa ea f g N S E' H,
     ⟨msr 0 us0.length, [], S, 0, w0, us0, _, none, none, none, rfl, s1.trans s2, s2 _ _ hf1, hw0, hus0, hway0, Bf.start, List.nodup_nil, by simp, hSN, by omega, fun _ => Nat.zero_le _, rfl⟩, ?_⟩
   rintro m σ H3 ⟨seen, F, t, wl, us, ws, v5, v6, v7, rfl, s3, hf3, hwl, hus, hws, hbf, hnd, hsN, hFN, hul, htl, rfl⟩
   have hsl := nodup_lenG seen N hnd hsN
   have hfwl : f ≠ wl := fun z => by rw [← z, hf3] at hwl; cases hwl
   refine ⟨_, rfl, _, .inl ⟨_, SqL.of hwl, rfl⟩, ?_⟩
   cases hue : us with
   | nil =>
     subst hue
     refine iteF ?_
     cases hus
     cases hws
     refine ⟨(by show 0 ≤ sizeLine; decide), fun p gp => ?_⟩
     exact q p [] _ (s3.new gp) upd_same (.inl ⟨rfl, hbf.none⟩)
   | cons u0 ur =>
     have htl' : t ≤ seen.length := htl (by rw [hue]; simp)
     have hm1 : msr seen.length us.length = 2 * (24 - seen.length) + 1 := by unfold msr; rw [hue]; simp
     rw [← hue]
     show if (!us.isEmpty) = true then _ else _
     rw [show (!us.isEmpty) = true by rw [hue]; rfl]
     refine iteT ?_
     clear hue u0 ur
     refine ⟨fun σ' H' => ∃ m', m' < msr seen.length us.length ∧ ShInv d sa ea f g N S E' H m' σ' H', fun σ' H' hN => hN, ?_⟩
     refine ⟨(by show 0 ≤ sizeLine; decide), fun L gL => ?_⟩
     have s4 : Same H3 (upd H3 L (.lst [])) := (Same.refl H3).new gL
     have hL4 : upd H3 L (.lst []) L = some (.lst []) := upd_same
     have gLH : H L = none := s3.free gL
     generalize upd H3 L (.lst []) = H4 at s4 hL4 ⊢
     have hfL : f ≠ L := fun z => by rw [← z, hf3] at gL; cases gL
     have hwlL : wl ≠ L := fun z => by rw [← z, hwl] at gL; cases gL
     refine ⟨_, rfl, wl, rfl, ⟨_, SqL.of (s4 _ _ hwl)⟩, for_list (K := K) (a := wl) (xs := us) (fun i σ H5 => ∃ (new : List Str) (lw : List (List Str)) (lus : List V) (v6 v7 : Option V), σ = [some (.ref d), some (.ref sa), some (.ref ea), some (.ref f), some (.ref wl), some (.ref L), v6, v7] ∧ Same H H5 ∧ Tups H3 H5 ∧ H5 wl = some (.lst us) ∧ H5 f = some (.dK (setD (seen ++ new))) ∧ H5 L = some (.lst lus) ∧ Paired (TsAt H5) lus lw ∧ Lv g N S E' seen F t new lw ∧ ∀ x ∈ F.take i, ∀ y ∈ g x, y ∈ seen ++ new ∧ y ∉ E')
       ⟨[], [], [], _, _, rfl, s3.trans s4, s4.tups, s4 _ _ hwl, by rw [List.append_nil]; exact s4 _ _ hf3, hL4, .nil, Lv.start hnd hsN, by simp⟩ (fun i σ H5 _ ⟨_, _, _, _, _, _, _, _, h, _⟩ => SqL.of h) ?_ ?_⟩
     · rintro i v σ H5 hv ⟨new, lw, lus, v6', v7', rfl, s5, T5, hwl5, hf5, hL5, hlus, hlv, hsc⟩
       obtain ⟨w, hw, tw, ev, htw⟩ := Paired.get? hus hv
       subst ev
       obtain ⟨x, hx, hwx⟩ := Paired.get? hws hw
       have hxF := List.mem_of_getElem? hx
       have hxN := hFN x hxF
       obtain ⟨u, hu1, hu2⟩ := hg x hxN
       obtain ⟨w', hw'⟩ := way_last hwx.len hwx.lst
       have atl : atI (w.map V.str) (-1) = some (.str x) := by rw [hw', List.map_append]; exact atI_last _ _
       have hgt : DGet H5 d (.str x) (some (.ref u)) := by
         have := DGet.k (k := Sum.inr x) (s5 _ _ hd)
         rw [hu1] at this
         exact this
       have hwlen := hwx.len
       refine ⟨_, rfl, _, rfl, _, rfl, tw, _, _, _, rfl, rfl, SqT.of (T5 _ _ htw), atl, d, _, rfl, hgt, u, rfl, ⟨_, SqT.of (s5 _ _ hu2)⟩, for_tup (K := K) (a := u) (xs := (g x).map V.str) (fun j σ H6 => ∃ (new : List Str) (lw : List (List Str)) (lus : List V) (v7 : Option V), σ = [some (.ref d), some (.ref sa), some (.ref ea), some (.ref f), some (.ref wl), some (.ref L), some (.ref tw), v7] ∧ Same H H6 ∧ Tups H3 H6 ∧ H6 wl = some (.lst us) ∧ H6 f = some (.dK (setD (seen ++ new))) ∧ H6 L = some (.lst lus) ∧ Paired (TsAt H6) lus lw ∧ Lv g N S E' seen F t new lw ∧ (∀ x ∈ F.take i, ∀ y ∈ g x, y ∈ seen ++ new ∧ y ∉ E') ∧ ∀ y ∈ (g x).take j, y ∈ seen ++ new ∧ y ∉ E')
         ⟨new, lw, lus, _, rfl, s5, T5, hwl5, hf5, hL5, hlus, hlv, hsc, by simp⟩ (fun j σ H6 _ ⟨_, _, _, _, _, h, _⟩ => SqT.of (h _ _ hu2)) ?_ ?_⟩
       · rintro j v σ H6 hv6 ⟨new, lw, lus, v7'', rfl, s6, T6, hwl6, hf6, hL6, hlus6, hlv6, hsc6, hin6⟩
         obtain ⟨y, hy, rfl⟩ : ∃ y, (g x)[j]? = some y ∧ v = .str y := by
           rw [List.getElem?_map] at hv6
           cases z : (g x)[j]? with
           | none => rw [z] at hv6; cases hv6
           | some y => rw [z] at hv6; exact ⟨y, rfl, (Option.some.inj hv6).symm⟩
         have hyg := List.mem_of_getElem? hy
         have hyN := hgN x hxN y hyg
         have htw6 := T6 _ _ htw
         have hnl := nodup_lenG _ N hlv6.nd hlv6.inN
         have hll : lus.length ≤ 24 := by
           rw [Paired.length hlus6, Paired.length hlv6.ways]
           rw [List.length_append] at hnl
           omega
         refine ⟨_, rfl, _, rfl, ea, _, rfl, .inl (SqL.of (s6 _ _ hea)), rfl, strs_flat _, _, rfl, ?_⟩
         rw [if_neg Bool.false_ne_true, inV_strs]
         refine ite2 (fun hE => ?_) (fun hE => ?_)
         · have hyE : y ∈ E' := of_decide_eq_true hE
           refine ⟨_, rfl, _, rfl, (by show 1 ≤ sizeLine; decide), fun t1 g1 => ?_⟩
           refine catA_any (K := K) (upd_keep htw6 g1) upd_same (Nat.le_of_lt (small1000 (by rw [List.length_map]; simp; omega))) fun l H7 s7 hl7 => ?_
           refine q l (w ++ [y]) H7 ((s6.new g1).trans s7) (by rw [List.map_append]; exact hl7) (.inr ⟨t + 1, y, hbf.hit hxF hyg hyE, hwx.snoc hyg, hyE, ?_⟩)
           rw [List.length_append]; simp; omega
         · have hyE : y ∉ E' := fun z => hE (decide_eq_true z)
           refine ⟨_, rfl, _, rfl, f, _, rfl, DGet.k (k := Sum.inr y) hf6, ?_⟩
           refine ⟨_, rfl, ?_⟩
           rw [setD_some]
           by_cases hys : y ∈ seen ++ new
           · rw [decide_eq_true hys]
             refine iteF ?_
             refine ⟨new, lw, lus, _, rfl, s6, T6, hwl6, hf6, hL6, hlus6, hlv6, hsc6, fun z hz => ?_⟩
             rw [take_succ_get hy] at hz
             rcases List.mem_append.mp hz with c | c
             · exact hin6 z c
             · rw [List.mem_singleton.mp c]; exact ⟨hys, hyE⟩
           · rw [decide_eq_false hys]
             refine iteT ?_
             have hadd : addN (seen ++ new) y = seen ++ (new ++ [y]) := by unfold addN; rw [if_neg hys, List.append_assoc]
             refine ⟨_, rfl, _, rfl, f, _, rfl, DPut.k (k := Sum.inr y) hf6 (small1000 (by rw [setD_len]; omega)), ?_⟩
             rw [setD_put, hadd]
             have T7 : Tups H6 (upd H6 f (.dK (setD (seen ++ (new ++ [y]))))) := Tups.dK hf6
             have s7 : Same H (upd H6 f (.dK (setD (seen ++ (new ++ [y]))))) := s6.put gf
             have hf7 : upd H6 f (.dK (setD (seen ++ (new ++ [y])))) f = some (.dK (setD (seen ++ (new ++ [y])))) := upd_same
             have hL7 : upd H6 f (.dK (setD (seen ++ (new ++ [y])))) L = some (.lst lus) := by rw [upd_ne hfL.symm]; exact hL6
             have hwl7 : upd H6 f (.dK (setD (seen ++ (new ++ [y])))) wl = some (.lst us) := by rw [upd_ne hfwl.symm]; exact hwl6
             generalize upd H6 f (.dK (setD (seen ++ (new ++ [y])))) = H7 at T7 s7 hf7 hL7 hwl7 ⊢
             refine ⟨_, rfl, .inl ⟨rfl, _, SqL.of hL7⟩, _, rfl, _, rfl, (by show 1 ≤ sizeLine; decide), fun t1 g1 => ?_⟩
             have s8 : Same H7 (upd H7 t1 (.tup [.str y])) := (Same.refl H7).new g1
             refine catA_any (K := K) (s8 _ _ (T7 _ _ htw6)) upd_same (Nat.le_of_lt (small1000 (by rw [List.length_map]; simp; omega))) fun l H9 s9 hl9 => ?_
             have s79 := s8.trans s9
             have hL9 := s79 _ _ hL7
             have hlL : l ≠ L := fun z => by rw [z, hL9] at hl9; cases hl9
             refine ⟨L, _, _, rfl, rfl, hL9, small1000 (by omega), ?_⟩
             have T10 := Tups.lst (ys := lus ++ [.ref l]) hL9
             have T610 := (T7.trans s79.tups).trans T10
             refine ⟨new ++ [y], lw ++ [w ++ [y]], lus ++ [.ref l], _, rfl, (s7.trans s79).put gLH, T6.trans T610, ?_, ?_, upd_same, ?_, hlv6.more hxF hwx hyg hyN hys, fun x' hx' y' hy' => ?_, fun z hz => ?_⟩
             · rw [upd_ne hwlL]; exact s79 _ _ hwl7
             · rw [upd_ne hfL]; exact s79 _ _ hf7
             · exact Paired.snoc (Paired.mapP hlus6 fun _ _ ⟨t, e, h⟩ => ⟨t, e, T610 _ _ h⟩) ⟨l, rfl, T10 _ _ (by rw [List.map_append]; exact hl9)⟩
             · obtain ⟨a1, a2⟩ := hsc6 x' hx' y' hy'
               exact ⟨by rw [← List.append_assoc]; exact List.mem_append_left _ a1, a2⟩
             · rw [take_succ_get hy] at hz
               rcases List.mem_append.mp hz with c | c
               · obtain ⟨a1, a2⟩ := hin6 z c
                 exact ⟨by rw [← List.append_assoc]; exact List.mem_append_left _ a1, a2⟩
               · rw [List.mem_singleton.mp c]
                 exact ⟨by rw [← List.append_assoc]; exact List.mem_append_right _ (List.mem_singleton.mpr rfl), hyE⟩
       · rintro σ H6 ⟨new, lw, lus, v7'', rfl, s6, T6, hwl6, hf6, hL6, hlus6, hlv6, hsc6, hin6⟩
         rw [List.length_map, List.take_length] at hin6
         refine ⟨new, lw, lus, _, _, rfl, s6, T6, hwl6, hf6, hL6, hlus6, hlv6, fun x' hx' => ?_⟩
         rw [take_succ_get hx] at hx'
         rcases List.mem_append.mp hx' with c | c
         · exact hsc6 x' c
         · rw [List.mem_singleton.mp c]; exact hin6
     · rintro σ H5 ⟨new, lw, lus, v6', v7', rfl, s5, T5, hwl5, hf5, hL5, hlus, hlv, hsc⟩
       have hFl : us.length = F.length := by rw [Paired.length hus, Paired.length hws]
       rw [hFl, List.take_length] at hsc
       have hnl := nodup_lenG _ N hlv.nd hlv.inN
       rw [List.length_append] at hnl
       have hll : lus.length = new.length := by rw [Paired.length hlus, Paired.length hlv.ways]
       refine ⟨_, rfl, msr (seen ++ new).length lus.length, ?_, seen ++ new, new, t + 1, L, lus, lw, _, _, _, rfl, s5, hf5, hL5, hlus, hlv.ways, hbf.step hsc hlv.frm, hlv.nd, hlv.inN, fun x hx => hlv.inN x (List.mem_append_right _ hx), by omega, fun hne => ?_, rfl⟩
       · rw [hm1]
         unfold msr
         rw [List.length_append, hll]
         split <;> omega
       · rw [List.length_append]
         have : new.length ≠ 0 := fun z => hne (List.length_eq_zero_iff.mp (by omega))
         omega
noncomputable def outs (k : Nat) : List (List Str) → List (Nat × List Str)
 | [] => []
 | [] :: r => outs (k + 1) r
 | (a :: w) :: r => (k, a :: w) :: outs (k + 1) r
theorem outs_snoc : ∀ (l : List (List Str)) (k : Nat) (w : List Str), outs k (l ++ [w]) = outs k l ++ (if w = [] then [] else [(k + l.length, w)])
 | [], k, [] => rfl
 | [], k, a :: w => rfl
 | [] :: r, k, w => by
   have ih := outs_snoc r (k + 1) w
   show outs (k + 1) (r ++ [w]) = outs (k + 1) r ++ _
   rw [ih]
   simp only [List.length_cons, show k + 1 + r.length = k + (r.length + 1) by omega]
 | (a :: v) :: r, k, w => by
   have ih := outs_snoc r (k + 1) w
   show (k, a :: v) :: outs (k + 1) (r ++ [w]) = (k, a :: v) :: (outs (k + 1) r ++ _)
   rw [ih]
   simp only [List.length_cons, show k + 1 + r.length = k + (r.length + 1) by omega]
theorem outs_len : ∀ (l : List (List Str)) (k : Nat), (outs k l).length ≤ l.length
 | [], k => Nat.le_refl _
 | [] :: r, k => by
   have := outs_len r (k + 1)
   show (outs (k + 1) r).length ≤ r.length + 1
   omega
 | (a :: v) :: r, k => by
   have := outs_len r (k + 1)
   show (outs (k + 1) r).length + 1 ≤ r.length + 1
   omega
noncomputable def OkA (g : Str → List Str) (fl : List (Str × Str)) (r : Str × Str) (w : List Str) : Prop := Ans g (inF fl r.1) (inF fl r.2) w
noncomputable def BkAt (H : Hp) (v : V) (x : Nat × List Str) : Prop := ∃ t u, v = .ref t ∧ H t = some (.tup [.int (x.1 : Int), .ref u]) ∧ H u = some (.tup (x.2.map V.str))
theorem BkAt.mono {H H' : Hp} (s : Tups H H') {v : V} {x : Nat × List Str} (h : BkAt H v x) : BkAt H' v x := by
 obtain ⟨t, u, e, h1, h2⟩ := h
 exact ⟨t, u, e, s _ _ h1, s _ _ h2⟩
noncomputable def spBroken : Sp := fun vs H Q _ => ∃ (a fo ru : Addr) (ps : List Pt) (us rs : List V) (fl rl : List (Str × Str)), vs = [.ref a, .ref fo, .ref ru] ∧ PartsF H a ps ∧ PsFit ps ∧ ClosedB ps ∧ H fo = some (.tup us) ∧ Paired (FAt H) us fl ∧ fl.length ≤ 24 ∧ (∀ x ∈ fl, x.1 ∈ ps.map (·.1)) ∧ H ru = some (.tup rs) ∧ Paired (FAt H) rs rl ∧ rl.length ≤ 10 ∧
 ∀ (p : Addr) (zs : List V) (al : List (List Str)) (H' : Hp), Same H H' → H' p = some (.tup zs) → Paired (BkAt H') zs (outs 0 al) → Paired (OkA (k1 ps) fl) rl al → Q (.ref p) H'
theorem ok_broken (T : Txt K mg) : L2.Cl P w K mg base 4 "broken" ["parts", "folders", "rules"] spBroken := by
 have C_bringings := ok_bringings (P := P) (w := w) (base := base) T
 have C_laid_in := ok_laid (P := P) (w := w) (base := base) T
 have C_shortest_way := ok_short (P := P) (w := w) (base := base) T
 refine Cl.of T.d_broken sc_broken (fun vs H Q E h => ?_) (fun _ _ _ _ _ _ us hl => by obtain ⟨a, b, c, rfl⟩ := len3 hl; rfl) (fun fa cdv A outer s H vs Q E hr h => ?_)
 · obtain ⟨a, fo, ru, ps, us, rs, fl, rl, rfl, _⟩ := h
   rfl
 · obtain ⟨a, fo, ru, ps, us, rs, fl, rl, rfl, hpf, hfit, hcl, hfo, hus, hfl, hfin, hru, hrs, hrl, q⟩ := h
   have hu := hu_of hr
   have hrsl : rs.length = rl.length := Paired.length hrs
   refine ⟨_, (pss_cons (ps_set (i := 3) sc_broken.nd rfl (Or.inl rfl) (pe_fn C_bringings hr (by rfl) (pa_cons (pv 0) pa_nil)))
     (pss_cons (ps_set (i := 4) sc_broken.nd rfl (Or.inl rfl) (pe_lst pa_nil))
     (pss_cons (ps_for PassesOwn.never rfl (pi_enumT (by rfl) T.n_enumerate (pa_cons (pv 2) pa_nil)) (pg_tup rfl (pgs_cons (pg_name (i := 5) sc_broken.nd rfl (Or.inl rfl)) (pgs_cons (pg_name (i := 6) sc_broken.nd rfl (Or.inl rfl)) pgs_nil)))
       (pss_cons (ps_set (i := 7) sc_broken.nd rfl (Or.inl rfl) (pe_fn C_shortest_way hr (by rfl) (pa_cons (pv 3) (pa_cons (pe_fn C_laid_in hr (by rfl) (pa_cons (pv 1) (pa_cons (pe_ix ix_tup (pv 6) pe_int (fun _ _ => rfl)) pa_nil))) (pa_cons (pe_fn C_laid_in hr (by rfl) (pa_cons (pv 1) (pa_cons (pe_ix ix_tup (pv 6) pe_int (fun _ _ => rfl)) pa_nil))) pa_nil)))))
       (pss_one (ps_if (pt_truth (pv 7) (fun _ => rfl))
         (pss_one (ps_expr (pe_bm PySem.F.plainAttrs_list PySem.F.slot_list_append PySem.F.type_list_append mt_append (pv 4) (pa_cons (pe_tup (pa_cons (pv 5) (pa_cons (pv 7) pa_nil))) pa_nil)))) pss_nil))))
     (pss_one (ps_ret (pe_callTy call_tuple_of (by rfl) T.n_tuple boot_tuple (pa_cons (pv 4) pa_nil))))))), ?_⟩
   refine ⟨_, rfl, a, ps, rfl, hpf, hfit, fun d qs H1 s1 gd hd hqs => ?_⟩
   have hgv := br_val hfit.nd hqs
   have hN : (ps.map (fun p => p.1)).length ≤ 24 := by rw [List.length_map]; exact hfit.hi
   refine ⟨(by show 0 ≤ sizeLine; decide), fun B gB => ?_⟩
   have s2 : Same H1 (upd H1 B (.lst [])) := (Same.refl H1).new gB
   refine ⟨_, rfl, ru, rfl, ⟨_, SqT.of (s2 _ _ (s1 _ _ hru))⟩, for_enum (K := K) (a := ru) (xs := rs) (fun i σ H2 => ∃ (zs : List V) (al : List (List Str)) (v5 v6 v7 : Option V), σ = [some (.ref a), some (.ref fo), some (.ref ru), some (.ref d), some (.ref B), v5, v6, v7] ∧ Same H1 H2 ∧ H2 B = some (.lst zs) ∧ Paired (BkAt H2) zs (outs 0 al) ∧ Paired (OkA (k1 ps) fl) (rl.take i) al)
     ⟨[], [], none, none, none, rfl, s2, upd_same, .nil, by rw [List.take_zero]; exact .nil⟩ (fun i σ H2 _ ⟨_, _, _, _, _, _, s3, _⟩ => SqT.of (s3 _ _ (s1 _ _ hru))) ?_ ?_⟩
   · rintro i v p σ H2 hv ⟨zs, al, v5, v6, v7, rfl, s3, hB2, hzs, hal⟩ hp
     obtain ⟨r, hr', t, ev, ht⟩ := Paired.get? hrs hv
     subst ev
     have s4 : Same H2 (upd H2 p (.tup [.int (i : Int), .ref t])) := (Same.refl H2).new hp
     have hp4 : upd H2 p (.tup [.int (i : Int), .ref t]) p = some (.tup [.int (i : Int), .ref t]) := upd_same
     generalize upd H2 p (.tup [.int (i : Int), .ref t]) = H4 at s4 hp4 ⊢
     have s14 := s3.trans s4
     have sH4 := s1.trans s14
     have ht4 := sH4 _ _ ht
     have hall : al.length = i := by
       have h1 := Paired.length hal
       rw [List.length_take] at h1
       have := (List.getElem?_eq_some_iff.mp hr').1
       omega
     have hzl : zs.length ≤ 10 := by
       have h1 := Paired.length hzs
       have h2 := outs_len al 0
       have := (List.getElem?_eq_some_iff.mp hr').1
       omega
     have z0 : atI [V.str r.1, V.str r.2] 0 = some (.str r.1) := atI_nat (j := 0) rfl
     have z1 : atI [V.str r.1, V.str r.2] 1 = some (.str r.2) := atI_nat (j := 1) rfl
     refine ⟨p, _, rfl, SqT.of hp4, rfl, _, _, rfl, _, _, rfl, rfl, ?_⟩
     refine ⟨_, rfl, _, rfl, _, rfl, t, _, _, _, rfl, rfl, SqT.of ht4, z0, fo, r.1, us, fl, rfl, sH4 _ _ hfo, Paired.mapP hus fun _ _ z => z.mono sH4.tups, hfl, fun l1 H5 s5 hl1 => ?_⟩
     have sH5 := sH4.trans s5
     refine ⟨_, rfl, _, rfl, t, _, _, _, rfl, rfl, SqT.of (s5 _ _ ht4), z1, fo, r.2, us, fl, rfl, sH5 _ _ hfo, Paired.mapP hus fun _ _ z => z.mono sH5.tups, hfl, fun l2 H6 s6 hl2 => ?_⟩
     have s16 := (s14.trans s5).trans s6
     have hS24 := inF_len fl r.1
     refine ⟨d, l1, l2, _, ps.map (fun p => p.1), inF fl r.1, inF fl r.2, k1 ps, rfl, s16 _ _ hd, fun n hn => ?_, (fun n hn m hm => hcl n hn m hm), hN, s6 _ _ hl1, hl2, fun n hn => ?_, by omega, fun pw w H7 s7 hpw hans => ?_⟩
     · obtain ⟨u, h1, h2⟩ := hgv n hn
       exact ⟨u, h1, s16 _ _ h2⟩
     · obtain ⟨x, hx, e⟩ := inF_mem hn
       rw [← e]
       exact hfin x hx
     have s17 := s16.trans s7
     have s27 := ((s4.trans s5).trans s6).trans s7
     have hB7 := s27 _ _ hB2
     have hzs7 : Paired (BkAt H7) zs (outs 0 al) := Paired.mapP hzs fun _ _ z => z.mono s27.tups
     have hal' : Paired (OkA (k1 ps) fl) (rl.take (i + 1)) (al ++ [w]) := by
       rw [take_succ_get hr']
       exact Paired.snoc hal hans
     refine ⟨_, rfl, _, .inr (.inl ⟨_, SqT.of hpw, rfl⟩), ?_⟩
     cases w with
     | nil =>
       refine iteF ?_
       refine ⟨zs, al ++ [[]], _, _, _, rfl, s17, hB7, ?_, hal'⟩
       rw [outs_snoc, if_pos rfl, List.append_nil]
       exact hzs7
     | cons w0 wr =>
       refine iteT ?_
       refine ⟨_, rfl, .inl ⟨rfl, _, SqL.of hB7⟩, _, rfl, _, rfl, (by show 2 ≤ sizeLine; decide), fun t8 g8 => ?_⟩
       have s8 : Same H7 (upd H7 t8 (.tup [.int (i : Int), .ref pw])) := (Same.refl H7).new g8
       have hB8 := s8 _ _ hB7
       refine ⟨B, _, _, rfl, rfl, hB8, small1000 (by omega), ?_⟩
       have T9 := Tups.lst (ys := zs ++ [.ref t8]) hB8
       refine ⟨zs ++ [.ref t8], al ++ [w0 :: wr], _, _, _, rfl, (s17.trans s8).put gB, upd_same, ?_, hal'⟩
       rw [outs_snoc, if_neg (by simp), Nat.zero_add, hall]
       exact Paired.snoc (Paired.mapP hzs7 fun _ _ z => z.mono (s8.tups.trans T9)) ⟨t8, pw, rfl, T9 _ _ upd_same, (s8.tups.trans T9) _ _ hpw⟩
   · rintro σ H2 ⟨zs, al, v5, v6, v7, rfl, s3, hB2, hzs, hal⟩
     rw [hrsl, List.take_length] at hal
     refine ⟨_, rfl, B, _, rfl, .inl ⟨SqL.of hB2, fun p gp => ?_⟩⟩
     have s4 : Same H2 (upd H2 p (.tup zs)) := (Same.refl H2).new gp
     exact q p zs al _ ((s1.trans s3).trans s4) upd_same (Paired.mapP hzs fun _ _ z => z.mono s4.tups) hal
structure GrP (ns : List Str) (H0 : Hp) (R : Addr) (ra : List Addr) (H : Hp) : Prop where
 sm : Same H0 H
 hR : H R = some (.lst (ra.map V.ref))
 rw : ∀ (i : Nat) (b : Addr), ra[i]? = some b → ∃ vs rws, H b = some (.lst vs) ∧ RowsAt H vs rws ∧ rws.length ≤ 40 ∧ ∀ r ∈ rws, InS ns (ns.getD i "") r
theorem GrP.same {ns : List Str} {H0 : Hp} {R : Addr} {ra : List Addr} {H H' : Hp} (g : GrP ns H0 R ra H) (s : Same H H') : GrP ns H0 R ra H' := by
 refine ⟨g.sm.trans s, s _ _ g.hR, fun i b hb => ?_⟩
 obtain ⟨vs, rws, h1, h2, h3, h4⟩ := g.rw i b hb
 exact ⟨vs, rws, s _ _ h1, h2.mono s.tups, h3, h4⟩
theorem GrP.putR {ns : List Str} {H0 : Hp} {R : Addr} {ra : List Addr} {k : Nat} {H : Hp} (g : GrP ns H0 R ra H) (hnd : ra.Nodup) {b x : Addr} (hk : ra[k]? = some b) (hb0 : H0 b = none) (hbR : b ≠ R) {vs : List V} {rws : List Rw} {rw : Rw} (hb : H b = some (.lst vs)) (hrows : RowsAt H vs rws) (hlt : rws.length < 40) (hin : ∀ r ∈ rws, InS ns (ns.getD k "") r) (hx : RowAt H x rw) (hxin : InS ns (ns.getD k "") rw) : GrP ns H0 R ra (upd H b (.lst (vs ++ [.ref x]))) := by
 have T := Tups.lst (ys := vs ++ [.ref x]) hb
 refine ⟨g.sm.put hb0, by rw [upd_ne hbR.symm]; exact g.hR, fun i c hc => ?_⟩
 by_cases e : c = b
 · subst e
   have ei := nd_at hnd hc hk
   subst ei
   refine ⟨_, rws ++ [rw], upd_same, Paired.snoc (hrows.mono T) ⟨x, rfl, hx.mono T⟩, by rw [List.length_append]; simp; omega, fun r hr => ?_⟩
   rcases List.mem_append.mp hr with z | z
   · exact hin r z
   · rw [List.mem_singleton.mp z]; exact hxin
 · obtain ⟨vs1, rws1, h1, h2, h3, h4⟩ := g.rw i c hc
   exact ⟨vs1, rws1, by rw [upd_ne e]; exact h1, h2.mono T, h3, h4⟩
theorem tand_any {t u : TT} {σ : L2.St} {H : Hp} (Pa Pb : Prop) (ht : ∀ Q : Bool → Hp → Prop, (∀ b, (b = true → Pa) → Q b H) → t σ H Q) (hu : ∀ Q : Bool → Hp → Prop, (∀ b, (b = true → Pb) → Q b H) → u σ H Q) : ∀ Q : Bool → Hp → Prop, (∀ b, (b = true → Pa ∧ Pb) → Q b H) → tAnd t u σ H Q := fun Q h => by
 refine ht _ fun a ha => ?_
 cases a with
 | true => exact iteT (hu _ fun b hb => h b fun z => ⟨ha rfl, hb z⟩)
 | false => exact iteF (h false fun z => by cases z)
theorem if_any {t : TT} {A B : TS} {D : Ends} {σ : L2.St} {H : Hp} (Pa : Prop) (ht : ∀ Q : Bool → Hp → Prop, (∀ b, (b = true → Pa) → Q b H) → t σ H Q) (h1 : Pa → A D σ H) (h2 : B D σ H) : tIfS t A B D σ H := by
 refine ht _ fun b hb => ?_
 cases b with
 | true => exact iteT (h1 (hb rfl))
 | false => exact iteF h2
theorem to_e {t : TT} {A B : TS} {D : Ends} {r : VK} {b k : L2.St → Hp → Prop} {i : Nat} {v : V} {σ : L2.St} {H : Hp} (h : tIfS t A B D (σ.set i (some v)) H) : gName i v σ H (Ends.nx ⟨tIfS t A B D, r, b, k⟩) := h
noncomputable def spPlain (K : PySem.W.Frag) : Sp := fun vs H Q _ => ∃ (a : Addr) (sc : List Int) (d : Int) (nl : Addr) (ns : List Str), vs = [.ref a, .ref nl, .int d] ∧ SqL K H a (sc.map V.int) ∧ sc.length ≤ 63 ∧ H nl = some (.lst (ns.map V.str)) ∧ 1 ≤ ns.length ∧ ns.length ≤ 24 ∧ ns.Nodup ∧
 ∀ (x : Addr) (ps : List Pt) (H' : Hp), Same H H' → PartsF H' x ps → ps.map (·.1) = ns → PsFit ps → (∀ pt ∈ ps, ∀ r ∈ pt.2, InS ns pt.1 r) → Q (.ref x) H'
theorem ok_plain (T : Txt K mg) : L2.Cl P w K mg base 2 "_law_plain" ["_law_script", "_law_names_here", "_law_mode"] (spPlain K) := by
 have C_law_mixed := ok_mixed (P := P) (w := w) (base := base) T
 have C_law_other := ok_other (P := P) (w := w) (base := base) T
 refine Cl.of T.d_law_plain sc_law_plain (fun vs H Q E h => ?_) (fun _ _ _ _ _ _ us hl => by obtain ⟨a, b, c, rfl⟩ := len3 hl; rfl) (fun f cdv A outer s H vs Q E hr h => ?_)
 · obtain ⟨a, sc, d, nl, ns, rfl, _⟩ := h
   rfl
 · obtain ⟨a, sc, d, nl, ns, rfl, hS, hsc, hnl, hn1, hn2, hnd, q⟩ := h
   refine ⟨_, (pss_cons (ps_set (i := 3) sc_law_plain.nd rfl (Or.inl rfl) (pe_callB call_len_seq (by rfl) T.n_len PySem.boot_len (pa_cons (pv 1) pa_nil)))
     (pss_cons (ps_setC (j := 4) (M := ["_law_name"]) (ρ := [none]) (defScope s_law_plain) ["_law_script", "_law_names_here", "_law_mode", "_law_many", "_law_rows", "_law_k", "_law_mix", "_law_here", "_law_at"] ⟨rfl, by decide +kernel, by decide +kernel, by decide +kernel, rfl, by decide +kernel, by decide +kernel⟩ sc_law_plain.nd rfl (Or.inl rfl) (pi_list (pv 1)) (fun _ _ _ _ _ _ => (pg_name (i := 0) (show (["_law_name"] : List Str).Nodup by decide +kernel) rfl (Or.inl rfl))) (fun _ _ _ _ _ _ => pts_nil) (fun _ _ _ _ _ _ => (pe_lst pa_nil)))
     (pss_cons (ps_for PassesOwn.never rfl (pi_range2 (by rfl) T.n_range (pa_cons pe_int (pa_cons (pe_callB (call_min2 rfl) (by rfl) T.n_min boot_min (pa_cons (pe_callB call_len_seq (by rfl) T.n_len PySem.boot_len (pa_cons (pv 0) pa_nil)) (pa_cons pe_int pa_nil))) pa_nil))) (pg_name (i := 5) sc_law_plain.nd rfl (Or.inl rfl))
       (pss_cons (ps_set (i := 6) sc_law_plain.nd rfl (Or.inl rfl) (pe_fn C_law_mixed hr (by rfl) (pa_cons (pe_ix ix_list (pv 0) (pv 5) (fun _ _ => rfl)) (pa_cons (pv 5) (pa_cons pe_int pa_nil)))))
       (pss_cons (ps_set (i := 7) sc_law_plain.nd rfl (Or.inl rfl) (pe_op op_mod (pe_ix ix_list (pv 0) (pv 5) (fun _ _ => rfl)) (pv 3)))
       (pss_cons (ps_set (i := 8) sc_law_plain.nd rfl (Or.inl rfl) (pe_fn C_law_other hr (by rfl) (pa_cons (pv 7) (pa_cons (pv 3) (pa_cons (pv 6) (pa_cons (pv 2) pa_nil))))))
       (pss_one (ps_if (PW.pt (pw_and (pt_cmpR op_lt (pe_callB call_len_seq (by rfl) T.n_len PySem.boot_len (pa_cons (pe_ix ix_list (pv 4) (pv 7) (fun _ _ => rfl)) pa_nil)) pe_int (nomark _)) (pw_and (pt_cmpR op_ne (pv 8) (pv 7) (nomark _)) (pw_and1 (pt_cmpR op_lt (pe_op op_mod (pe_op op_fdiv (pe_ix ix_list (pv 0) (pv 5) (fun _ _ => rfl)) (pv 3)) pe_int) pe_int (nomark _))))))
         (pss_one (ps_expr (pe_bm PySem.F.plainAttrs_list PySem.F.slot_list_append PySem.F.type_list_append mt_append (pe_ix ix_list (pv 4) (pv 7) (fun _ _ => rfl)) (pa_cons (pe_tup (pa_cons pe_str (pa_cons (pe_ix ix_list (pv 1) (pv 8) (fun _ _ => rfl)) (pa_cons (pe_tup pa_nil) pa_nil)))) pa_nil)))) (pss_one (ps_if (PW.pt (pw_and (pt_cmpR op_lt (pe_callB call_len_seq (by rfl) T.n_len PySem.boot_len (pa_cons (pe_ix ix_list (pv 4) (pv 7) (fun _ _ => rfl)) pa_nil)) pe_int (nomark _)) (pw_and (pt_cmpR op_ne (pv 8) (pv 7) (nomark _)) (pw_and1 (pt_cmpR op_eq (pe_op op_mod (pe_op op_fdiv (pe_ix ix_list (pv 0) (pv 5) (fun _ _ => rfl)) (pv 3)) pe_int) pe_int (nomark _))))))
           (pss_one (ps_expr (pe_bm PySem.F.plainAttrs_list PySem.F.slot_list_append PySem.F.type_list_append mt_append (pe_ix ix_list (pv 4) (pv 7) (fun _ _ => rfl)) (pa_cons (pe_tup (pa_cons pe_str (pa_cons (pe_ix ix_list (pv 1) (pv 8) (fun _ _ => rfl)) (pa_cons pe_non pa_nil)))) pa_nil)))) (pss_one (ps_if (pt_cmpR op_lt (pe_callB call_len_seq (by rfl) T.n_len PySem.boot_len (pa_cons (pe_ix ix_list (pv 4) (pv 7) (fun _ _ => rfl)) pa_nil)) pe_int (nomark _))
             (pss_one (ps_expr (pe_bm PySem.F.plainAttrs_list PySem.F.slot_list_append PySem.F.type_list_append mt_append (pe_ix ix_list (pv 4) (pv 7) (fun _ _ => rfl)) (pa_cons (pe_tup (pa_cons pe_str (pa_cons (pe_tup (pa_cons (pe_tup (pa_cons pe_int (pa_cons (pv 6) pa_nil))) pa_nil)) (pa_cons pe_non pa_nil)))) pa_nil)))) pss_nil))))))))))
     (pss_one (ps_ret (pe_callTy call_tuple_ofF (by rfl) T.n_tuple boot_tuple (pa_cons (pe_comp (M := ["_law_name", "_law_some"]) (ρ := [none, none]) (defScope s_law_plain) ["_law_script", "_law_names_here", "_law_mode", "_law_many", "_law_rows", "_law_k", "_law_mix", "_law_here", "_law_at"] ⟨rfl, by decide +kernel, by decide +kernel, by decide +kernel, rfl, by decide +kernel, by decide +kernel⟩ (pi_zipL (by rfl) T.n_zip (pa_cons (pv 1) (pa_cons (pv 4) pa_nil))) (fun _ _ _ _ _ _ => (pg_tupK (K := K) (n := 2) rfl rfl (pgs_cons (pg_name (i := 0) (show (["_law_name", "_law_some"] : List Str).Nodup by decide +kernel) rfl (Or.inl rfl)) (pgs_cons (pg_name (i := 1) (show (["_law_name", "_law_some"] : List Str).Nodup by decide +kernel) rfl (Or.inl rfl)) pgs_nil)))) (fun _ _ _ _ _ _ => pts_nil) (fun _ _ _ _ _ _ => (pe_tup (pa_cons (pv 0) (pa_cons (pe_callTy (call_tuple_ofK (K := K) rfl) (by rfl) T.n_tuple boot_tuple (pa_cons (pv 1) pa_nil)) pa_nil))))) pa_nil))))))), ?_⟩
   have hxl : (ns.map V.str).length ≤ 900 := by rw [List.length_map]; omega
   refine ⟨_, rfl, nl, _, rfl, .inl (SqL.of hnl), ?_⟩
   refine ⟨_, rfl, nl, rfl, ⟨_, SqL.of hnl⟩, fun R gR => comp_new (K := K) hnl gR hxl fun ra H1 s1 hR1 hra hraN hraA => ?_⟩
   rw [List.length_map] at hra
   have g0 : GrP ns H R ra H1 := ⟨s1, hR1, fun i b hb => ⟨[], [], (hraA b (List.mem_of_getElem? hb)).2.2, .nil, by simp, by simp⟩⟩
   have hS' : ∀ {H' : Hp}, Same H H' → SqL K H' a (sc.map V.int) := fun s => s.seq hS
   have hnl' : ∀ {H' : Hp}, Same H H' → H' nl = some (.lst (ns.map V.str)) := fun s => s _ _ hnl
   refine ⟨_, rfl, a, _, rfl, .inl (hS' g0.sm), _, _, rfl, _, _, rfl, ⟨by decide, by decide, ?_, ?_⟩, for_range (fun i σ H5 => ∃ v5 v6 v7 v8 : Option V, σ = [some (.ref a), some (.ref nl), some (.int d), some (.int (ns.length : Int)), some (.ref R), v5, v6, v7, v8] ∧ GrP ns H R ra H5)
     ⟨none, none, none, none, by rw [List.length_map]; rfl, g0⟩ ?_ ?_⟩
   · rw [List.length_map]; split <;> omega
   · rw [List.length_map]; split <;> omega
   · rintro i σ H5 hi ⟨v5, v6, v7, v8, rfl, g5⟩
     rw [List.length_map] at hi
     have hik : 3 + (i : Int) < (sc.length : Int) ∧ i < 60 := by
       split at hi <;> omega
     have hat : atI (sc.map V.int) (3 + (i : Int)) = some (.int (sc.getD (3 + (i : Int)).toNat 0)) := atI_map V.int sc 0 (by omega) hik.1
     generalize sc.getD (3 + (i : Int)).toNat 0 = c at hat
     have hn0 : (0 : Int) < (ns.length : Int) := by omega
     refine ⟨_, rfl, _, rfl, a, _, _, _, rfl, rfl, hS' g5.sm, hat, _, rfl, c, 3 + (i : Int), 65521, rfl, by omega, by omega, by decide, ?_⟩
     have hmx : 0 ≤ mixM c (3 + (i : Int)) 65521 ∧ mixM c (3 + (i : Int)) 65521 < 65521 := by unfold mixM; omega
     generalize mixM c (3 + (i : Int)) 65521 = mx at hmx ⊢
     have hh := mod_lt (i := c) (n := ns.length) (by omega)
     refine ⟨_, rfl, _, rfl, a, _, _, _, rfl, rfl, hS' g5.sm, hat, _, rfl, _, _, rfl, rfl, hn0, ?_⟩
     show gName 7 (.int (c % (ns.length : Int))) _ H5 _
     generalize c % (ns.length : Int) = he at hh ⊢
     refine ⟨_, rfl, _, rfl, _, rfl, _, rfl, he, (ns.length : Int), mx, d, rfl, hh.1, hh.2, by omega, fun at' ha0 ha1 => ?_⟩
     obtain ⟨rb, hrbI, erb⟩ := at_refI hra hh.1 hh.2
     have hrb := List.mem_of_getElem? hrbI
     obtain ⟨vs, rws, hrbH, hrows, h40, hin⟩ := g5.rw _ rb hrbI
     have hvl : vs.length = rws.length := Paired.length hrows
     have l1 : at'.toNat < ns.length := by omega
     have l2 : he.toNat < ns.length := by omega
     have ey : atI (ns.map V.str) at' = some (.str ns[at'.toNat]) := by
       have e' : at' = ((at'.toNat : Nat) : Int) := by omega
       conv => lhs; rw [e']
       exact atI_nat (by rw [List.getElem?_map, List.getElem?_eq_getElem l1]; rfl)
     have eh : ns.getD he.toNat "" = ns[he.toNat] := by rw [List.getD_eq_getElem?_getD, List.getElem?_eq_getElem l2]; rfl
     have tl : ∀ Q : Bool → Hp → Prop, (∀ b, (b = true → rws.length < 40) → Q b H5) → Q (decide (((vs.length : Nat) : Int) < 40)) H5 := fun Q h => h _ fun z => by have := of_decide_eq_true z; omega
     have key : ∀ {H6 : Hp} {x : Addr} {rw : Rw}, Same H5 H6 → rws.length < 40 → RowAt H6 x rw → InS ns (ns.getD he.toNat "") rw → GrP ns H R ra (upd H6 rb (.lst (vs ++ [.ref x]))) := fun s6 hlt hx hxin =>
       (g5.same s6).putR hraN hrbI (hraA rb hrb).1 (hraA rb hrb).2.1 (s6 _ _ hrbH) (hrows.mono s6.tups) hlt hin hx hxin
     refine to_e ?_
     refine if_any (rws.length < 40 ∧ at' ≠ he ∧ True) (fun Q' hQ' => ?_) (fun ⟨hlt, hne, _⟩ => ?_) ?_
     · refine tand_any (rws.length < 40) (at' ≠ he ∧ True) (fun Q'' h => ⟨_, rfl, _, rfl, R, _, _, _, rfl, rfl, SqL.of g5.hR, erb, rb, _, rfl, .inl (SqL.of hrbH), _, _, rfl, rfl, _, rfl, tl _ h⟩) ?_ _ hQ'
       refine tand_any (at' ≠ he) True (fun Q'' h => ⟨_, rfl, _, rfl, rfl, _, rfl, h _ fun z => ?_⟩) (fun Q'' h => ⟨_, rfl, _, rfl, a, _, _, _, rfl, rfl, hS' g5.sm, hat, _, rfl, _, _, rfl, rfl, ⟨hn0, by omega⟩, _, _, rfl, rfl, (by show (0 : Int) < 8; decide), _, _, rfl, rfl, _, rfl, h _ fun _ => trivial⟩)
       intro e
       rw [e] at z
       simp at z
     · refine ⟨_, rfl, _, rfl, R, _, _, _, rfl, rfl, SqL.of g5.hR, erb, .inl ⟨rfl, _, SqL.of hrbH⟩, _, rfl, _, rfl, nl, _, _, _, rfl, rfl, SqL.of (hnl' g5.sm), ey, (by show 0 ≤ sizeLine; decide), fun e ge => ⟨(by show 3 ≤ sizeLine; decide), fun x gx => ?_⟩⟩
       have s8 := ((Same.refl H5).new (o := .tup []) ge).new (o := .tup [.str "bring", .str ns[at'.toNat], .ref e]) gx
       have hx : RowAt (upd (upd H5 e (.tup [])) x (.tup [.str "bring", .str ns[at'.toNat], .ref e])) x (.bring ns[at'.toNat] []) := ⟨e, upd_same, ⟨[], upd_keep upd_same gx, .nil⟩, by simp⟩
       generalize upd (upd H5 e (.tup [])) x (.tup [.str "bring", .str ns[at'.toNat], .ref e]) = H8 at s8 hx ⊢
       refine ⟨rb, _, _, rfl, rfl, s8 _ _ hrbH, small1000 (by omega), _, _, _, _, rfl, key s8 hlt hx ⟨List.getElem_mem l1, ?_⟩⟩
       show ns[at'.toNat] ≠ ns.getD he.toNat ""
       rw [eh]
       intro z
       have := nd_inj hnd l1 l2 z
       omega
     refine if_any (rws.length < 40 ∧ at' ≠ he ∧ True) (fun Q' hQ' => ?_) (fun ⟨hlt, hne, _⟩ => ?_) ?_
     · refine tand_any (rws.length < 40) (at' ≠ he ∧ True) (fun Q'' h => ⟨_, rfl, _, rfl, R, _, _, _, rfl, rfl, SqL.of g5.hR, erb, rb, _, rfl, .inl (SqL.of hrbH), _, _, rfl, rfl, _, rfl, tl _ h⟩) ?_ _ hQ'
       refine tand_any (at' ≠ he) True (fun Q'' h => ⟨_, rfl, _, rfl, rfl, _, rfl, h _ fun z => ?_⟩) (fun Q'' h => ⟨_, rfl, _, rfl, a, _, _, _, rfl, rfl, hS' g5.sm, hat, _, rfl, _, _, rfl, rfl, ⟨hn0, by omega⟩, _, _, rfl, rfl, (by show (0 : Int) < 8; decide), rfl, _, rfl, h _ fun _ => trivial⟩)
       intro e
       rw [e] at z
       simp at z
     · refine ⟨_, rfl, _, rfl, R, _, _, _, rfl, rfl, SqL.of g5.hR, erb, .inl ⟨rfl, _, SqL.of hrbH⟩, _, rfl, _, rfl, nl, _, _, _, rfl, rfl, SqL.of (hnl' g5.sm), ey, (by show 3 ≤ sizeLine; decide), fun x gx => ?_⟩
       have s8 := (Same.refl H5).new (o := .tup [.str "ask", .str ns[at'.toNat], .non]) gx
       have hx : RowAt (upd H5 x (.tup [.str "ask", .str ns[at'.toNat], .non])) x (.ask ns[at'.toNat] none) := upd_same
       generalize upd H5 x (.tup [.str "ask", .str ns[at'.toNat], .non]) = H8 at s8 hx ⊢
       exact ⟨rb, _, _, rfl, rfl, s8 _ _ hrbH, small1000 (by omega), _, _, _, _, rfl, key s8 hlt hx ⟨List.getElem_mem l1, trivial⟩⟩
     refine if_any (rws.length < 40) (fun Q' hQ' => ⟨_, rfl, _, rfl, R, _, _, _, rfl, rfl, SqL.of g5.hR, erb, rb, _, rfl, .inl (SqL.of hrbH), _, _, rfl, rfl, _, rfl, tl _ hQ'⟩) (fun hlt => ?_) ⟨_, _, _, _, rfl, g5⟩
     refine ⟨_, rfl, _, rfl, R, _, _, _, rfl, rfl, SqL.of g5.hR, erb, .inl ⟨rfl, _, SqL.of hrbH⟩, _, rfl, (by show 2 ≤ sizeLine; decide), fun t1 g1 => ⟨(by show 1 ≤ sizeLine; decide), fun t2 g2 => ⟨(by show 3 ≤ sizeLine; decide), fun t3 g3 => ?_⟩⟩⟩
     have s8 : Same H5 (upd (upd (upd H5 t1 (.tup [.int 1, .int mx])) t2 (.tup [.ref t1])) t3 (.tup [.str "say", .ref t2, .non])) := (((Same.refl H5).new g1).new g2).new g3
     have hx : RowAt (upd (upd (upd H5 t1 (.tup [.int 1, .int mx])) t2 (.tup [.ref t1])) t3 (.tup [.str "say", .ref t2, .non])) t3 (.say [(1, .num mx)] none) :=
       ⟨t2, upd_same, ⟨⟨[.ref t1], upd_keep upd_same g3, .cons ⟨t1, rfl, upd_keep (upd_keep upd_same g2) g3, hmx.1, Int.lt_trans hmx.2 (by decide)⟩ .nil⟩, (by show 1 ≤ 1; decide), (by show 1 ≤ 6; decide)⟩⟩
     generalize upd (upd (upd H5 t1 (.tup [.int 1, .int mx])) t2 (.tup [.ref t1])) t3 (.tup [.str "say", .ref t2, .non]) = H8 at s8 hx ⊢
     exact ⟨rb, _, _, rfl, rfl, s8 _ _ hrbH, small1000 (by omega), _, _, _, _, rfl, key s8 hlt hx ⟨trivial, trivial⟩⟩
   · rintro σ H5 ⟨v5, v6, v7, v8, rfl, g5⟩
     have hnl5 := hnl' g5.sm
     refine ⟨_, rfl, _, rfl, nl, R, rfl, ⟨_, SqL.of hnl5⟩, ⟨_, SqL.of g5.hR⟩, fun D gD => ?_⟩
     refine comp_by ns.length (fun i σ H6 => ∃ (v0 v1 : Option V) (us : List V) (ps : List Pt), σ = [v0, v1] ∧ Same H5 H6 ∧ H6 D = some (.lst us) ∧ Paired (PartAt H6) us ps ∧ ps.map (·.1) = ns.take i ∧ (∀ pt ∈ ps, pt.2.length ≤ 40 ∧ ∀ r ∈ pt.2, InS ns pt.1 r)) ⟨_, _, [], [], rfl, (Same.refl H5).new gD, upd_same, .nil, by simp, by simp⟩ ?_ ?_
     · rintro i σ H6 hi ⟨v0, v1, us, ps, rfl, s6, hD6, hps, hnm, hall⟩
       have hir : i < ra.length := by omega
       have e1 : (ns.map V.str)[i]? = some (.str ns[i]) := by simp [hi]
       have e2 : (ra.map V.ref)[i]? = some (.ref ra[i]) := by simp [hir]
       refine ⟨⟨_, _, _, _, SqL.of (s6 _ _ hnl5), SqL.of (s6 _ _ g5.hR), e1, e2⟩, ?_⟩
       rintro x H7 ⟨p, u, v, hu, hv, gp, rfl, rfl⟩
       have eu : u = .str ns[i] := Option.some.inj ((hu _ (SqL.of (s6 _ _ hnl5))).symm.trans e1)
       have ev : v = .ref ra[i] := Option.some.inj ((hv _ (SqL.of (s6 _ _ g5.hR))).symm.trans e2)
       subst eu ev
       obtain ⟨vs, rws, hrH, hrows, h40, hin⟩ := g5.rw i ra[i] (List.getElem?_eq_getElem hir)
       rw [show ns.getD i "" = ns[i] by rw [List.getD_eq_getElem?_getD, List.getElem?_eq_getElem hi]; rfl] at hin
       have s7 : Same H6 (upd H6 p (.tup [.str ns[i], .ref ra[i]])) := (Same.refl H6).new gp
       refine ⟨p, _, rfl, SqT.of upd_same, rfl, _, _, rfl, _, _, rfl, rfl, nt ?_⟩
       have hr7 := s7 _ _ (s6 _ _ hrH)
       refine ⟨_, rfl, _, rfl, ra[i], _, rfl, .inl ⟨SqL.of hr7, fun t gt => ⟨by show 2 ≤ sizeLine; decide, fun tp gtp => ?_⟩⟩⟩
       have s8 := s7.new (o := .tup vs) gt
       have s9 := s8.new (o := .tup [.str ns[i], .ref t]) gtp
       have hul : us.length = i := by
         have h1 := Paired.length hps
         have h2 := congrArg List.length hnm
         rw [List.length_map, List.length_take] at h2
         omega
       have hD9 := s9 _ _ hD6
       have T9 := Tups.lst (ys := us ++ [.ref tp]) hD9
       have Trows : Tups H5 _ := (s6.trans s9).tups.trans T9
       refine ⟨us, hD9, small1000 (by omega), _, _, us ++ [.ref tp], ps ++ [(ns[i], rws)], rfl, (s6.trans s9).put gD, upd_same, Paired.snoc (Paired.mapP hps fun _ _ z => z.mono (s9.tups.trans T9)) ⟨tp, t, vs, rfl, T9 _ _ upd_same, T9 _ _ (upd_keep upd_same gtp), hrows.mono Trows⟩, ?_, ?_⟩
       · rw [List.map_append, hnm, take_succ_get (x := ns[i]) (by simp)]
         rfl
       · intro pt hpt
         rcases List.mem_append.mp hpt with z | z
         · exact hall pt z
         · rw [List.mem_singleton.mp z]; exact ⟨h40, hin⟩
     · rintro σ H6 ⟨v0, v1, us, ps, rfl, s6, hD6, hps, hnm, hall⟩
       refine ⟨⟨_, _, SqL.of (s6 _ _ hnl5), SqL.of (s6 _ _ g5.hR), by simp, by simp [hra]⟩, ?_⟩
       rw [List.take_length] at hnm
       refine ⟨D, _, rfl, SqL.of hD6, fun x ob gx hob => ?_⟩
       have s7 : Same H6 (upd H6 x (.frz ob (.tup us))) := (Same.refl H6).new gx
       have hpl : ps.length = ns.length := by rw [← hnm, List.length_map]
       exact q x ps _ ((g5.sm.trans s6).trans s7) ⟨ob, us, upd_same, hob, Paired.mapP hps fun _ _ z => z.mono s7.tups⟩ hnm ⟨by rw [hnm]; exact hnd, by omega, fun pt hpt => (hall pt hpt).1⟩ fun pt hpt => (hall pt hpt).2
noncomputable def keepR (G : List (Str × Str)) (n : Str) (r : Rw) : Bool := match namesIt "bring" r with
 | some m => !decide ((n, m) ∈ G)
 | none => true
noncomputable def psW (G : List (Str × Str)) (ps : List Pt) : List Pt := ps.map fun pt => (pt.1, pt.2.filter (keepR G pt.1))
theorem psW_names (G : List (Str × Str)) (ps : List Pt) : (psW G ps).map (·.1) = ps.map (·.1) := by
 unfold psW
 rw [List.map_map]
 rfl
theorem psW_fit {G : List (Str × Str)} {ps : List Pt} (h : PsFit ps) : PsFit (psW G ps) := by
 refine ⟨by rw [psW_names]; exact h.nd, by unfold psW; rw [List.length_map]; exact h.hi, fun pt hpt => ?_⟩
 obtain ⟨pt', h1, e⟩ := List.mem_map.mp hpt
 rw [← e]
 exact Nat.le_trans (List.length_filter_le _ _) (h.rows pt' h1)
theorem psW_k1 {G : List (Str × Str)} {ps : List Pt} (hn : (ps.map (·.1)).Nodup) {n m : Str} (hm : n ∈ ps.map (·.1)) : m ∈ k1 (psW G ps) n ↔ m ∈ k1 ps n ∧ (n, m) ∉ G := by
 obtain ⟨rs, hmem⟩ := part_of hm
 have hmem' : (n, rs.filter (keepR G n)) ∈ psW G ps := List.mem_map.mpr ⟨_, hmem, rfl⟩
 rw [mem_k1 hn hmem, mem_k1 (by rw [psW_names]; exact hn) hmem']
 constructor
 · rintro ⟨r, hr, e⟩
   obtain ⟨h1, h2⟩ := List.mem_filter.mp hr
   refine ⟨⟨r, h1, e⟩, fun z => ?_⟩
   unfold keepR at h2
   rw [e] at h2
   simp [z] at h2
 · rintro ⟨⟨r, hr, e⟩, hG⟩
   refine ⟨r, List.mem_filter.mpr ⟨hr, ?_⟩, e⟩
   unfold keepR
   rw [e]
   simp [hG]
theorem psW_closed {G : List (Str × Str)} {ps : List Pt} (hn : (ps.map (·.1)).Nodup) (h : ClosedB ps) : ClosedB (psW G ps) := fun n hm m hk => by
 rw [psW_names] at hm ⊢
 exact h n hm m ((psW_k1 hn hm).mp hk).1
noncomputable def GoneAt (K : PySem.W.Frag) (H : Hp) (g : Addr) (gs : List V) : Prop := H g = some (.lst gs) ∨ H g = some (.tup gs)
noncomputable def spWithout (K : PySem.W.Frag) : Sp := fun vs H Q _ => ∃ (a g : Addr) (ps : List Pt) (gs : List V) (G : List (Str × Str)), vs = [.ref a, .ref g] ∧ PartsF H a ps ∧ PsFit ps ∧ GoneAt K H g gs ∧ Paired (TS2 H) gs G ∧ ∀ (x : Addr) (H' : Hp), Same H H' → PartsF H' x (psW G ps) → Q (.ref x) H'
theorem ok_without (T : Txt K mg) : L2.Cl P w K mg base 1 "_law_without" ["_law_parts", "_law_gone"] (spWithout K) := by
 refine Cl.of T.d_law_without sc_law_without (fun vs H Q E h => ?_) (fun _ _ _ _ _ _ us hl => by obtain ⟨a, b, rfl⟩ := len2 hl; rfl) (fun f cdv A outer s H vs Q E hr h => ?_)
 · obtain ⟨a, g, ps, gs, G, rfl, _⟩ := h
   rfl
 · obtain ⟨a, g, ps, gs, G, rfl, hpf, hfit, hg, hgs, q⟩ := h
   have hu := hu_of hr
   have hpl := hfit.hi
   obtain ⟨o, vs, ha, ho, hps⟩ := id hpf
   have hvl : vs.length = ps.length := Paired.length hps
   refine ⟨_, (pss_cons (ps_set (i := 2) sc_law_without.nd rfl (Or.inl rfl) (pe_lst pa_nil))
     (pss_cons (ps_for PassesOwn.never rfl (pi_tup (pv 0)) (pg_tup rfl (pgs_cons (pg_name (i := 3) sc_law_without.nd rfl (Or.inr rfl)) (pgs_cons (pg_name (i := 4) sc_law_without.nd rfl (Or.inl rfl)) pgs_nil)))
       (pss_cons (ps_setC (j := 5) (M := ["_law_row", "_law_gone", "_law_name"]) (ρ := [none, some 1, some 3]) (defScope s_law_without) ["_law_parts", "_law_gone", "_law_found", "_law_name", "_law_rows", "_law_kept"] ⟨rfl, by decide +kernel, by decide +kernel, by decide +kernel, rfl, by decide +kernel, by decide +kernel⟩ sc_law_without.nd rfl (Or.inl rfl) (pi_tup (pv 4)) (fun _ _ _ _ _ _ => (pg_name (i := 0) (show (["_law_row", "_law_gone", "_law_name"] : List Str).Nodup by decide +kernel) rfl (Or.inl rfl))) (fun _ _ _ _ _ _ => (pts_one (PW.pt (pw_or (pt_cmpR op_ne (pe_ix (ix_tupK (K := K) rfl) (pv 0) pe_int (fun _ _ => rfl)) pe_str (nomark _)) (pw_or1 (pt_cmpR (op_notInP (K := K) rfl hu) (pe_tup (pa_cons (pv 2) (pa_cons (pe_ix (ix_tupK (K := K) rfl) (pv 0) pe_int (fun _ _ => rfl)) pa_nil))) (pv 1) (by with_unfolding_all rfl))))))) (fun _ _ _ _ _ _ => (pv 0)))
       (pss_one (ps_expr (pe_bm PySem.F.plainAttrs_list PySem.F.slot_list_append PySem.F.type_list_append mt_append (pv 2) (pa_cons (pe_tup (pa_cons (pv 3) (pa_cons (pe_callTy call_tuple_of (by rfl) T.n_tuple boot_tuple (pa_cons (pv 5) pa_nil)) pa_nil))) pa_nil))))))
     (pss_one (ps_ret (pe_callTy call_tuple_ofF (by rfl) T.n_tuple boot_tuple (pa_cons (pv 2) pa_nil)))))), ?_⟩
   refine ⟨(by show 0 ≤ sizeLine; decide), fun F gF => ?_⟩
   have s4 : Same H (upd H F (.lst [])) := (Same.refl H).new gF
   have hF4 : upd H F (.lst []) F = some (.lst []) := upd_same
   generalize upd H F (.lst []) = H4 at s4 hF4 ⊢
   have sqa : ∀ {H5 : Hp}, Same H H5 → SqT K H5 a vs := fun s5 => .inl (.inr ⟨o, s5 _ _ ha⟩)
   have sqg : ∀ {H5 : Hp}, Same H H5 → SqL K H5 g gs ∨ SqT K H5 g gs := fun s5 => by
     rcases hg with h | h
     · exact .inl (SqL.of (s5 _ _ h))
     · exact .inr (SqT.of (s5 _ _ h))
   refine ⟨_, rfl, a, rfl, ⟨_, sqa s4⟩, for_tup (K := K) (a := a) (xs := vs) (fun i σ H5 => ∃ (ws : List V) (v3 v4 v5 : Option V), σ = [some (.ref a), some (.ref g), some (.ref F), v3, v4, v5] ∧ Same H H5 ∧ H5 F = some (.lst ws) ∧ Paired (PartAt H5) ws (psW G (ps.take i)))
     ⟨[], none, none, none, rfl, s4, hF4, by rw [List.take_zero]; exact .nil⟩ (fun i σ H5 _ ⟨_, _, _, _, _, s5, _⟩ => sqa s5) ?_ ?_⟩
   · rintro i y σ H5 hy ⟨ws, v3, v4, v5, rfl, s5, hF5, hws⟩
     obtain ⟨pt, hpt, t, u, rv, ey, ht, hu', hrs⟩ := Paired.get? hps hy
     subst ey
     obtain ⟨n, rs⟩ := pt
     have hmem := List.mem_of_getElem? hpt
     have h40 : rs.length ≤ 40 := hfit.rows _ hmem
     have hi24 : i < 24 := by have := (List.getElem?_eq_some_iff.mp hpt).1; omega
     have hu5 := s5 _ _ hu'
     have hrs5 := hrs.mono s5.tups
     have hrl : rv.length = rs.length := Paired.length hrs
     refine ⟨t, _, rfl, SqT.of (s5 _ _ ht), rfl, _, _, rfl, _, _, rfl, rfl, ?_⟩
     refine ⟨_, rfl, u, rfl, ⟨_, SqT.of hu5⟩, fun D gD => ?_⟩
     refine comp_by rv.length (fun j σ H6 => ∃ (v0 : Option V) (xs : List V), σ = [v0, some (.ref g), some (.str n)] ∧ Same H5 H6 ∧ H6 D = some (.lst xs) ∧ xs.length ≤ j ∧ RowsAt H6 xs ((rs.take j).filter (keepR G n))) ⟨_, [], rfl, (Same.refl H5).new gD, upd_same, Nat.le_refl _, by rw [List.take_zero]; exact .nil⟩ ?_ ?_
     · rintro j σ H6 hj ⟨v0, xs, rfl, s6, hD, hxl, hxs⟩
       refine ⟨⟨rv, rv[j], SqT.of (s6 _ _ hu5), by simp⟩, ?_⟩
       rintro y H7 ⟨rfl, hy7⟩
       obtain ⟨rw, hrw, r, er, hra⟩ := Paired.get? hrs5 (hy7 _ (SqT.of (s6 _ _ hu5)))
       subst er
       have hra7 := hra.mono s6.tups
       rw [take_succ_get hrw, List.filter_append]
       have yes : ∀ {H8 : Hp}, Same H7 H8 → keepR G n rw = true → ∃ ys, H8 D = some (.lst ys) ∧ ys.length < sizeLine ∧ ∃ (v0 : Option V) (xs : List V), [some (V.ref r), some (V.ref g), some (V.str n)] = [v0, some (.ref g), some (.str n)] ∧ Same H5 (upd H8 D (.lst (ys ++ [.ref r]))) ∧ (upd H8 D (.lst (ys ++ [.ref r]))) D = some (.lst xs) ∧ xs.length ≤ j + 1 ∧ RowsAt (upd H8 D (.lst (ys ++ [.ref r]))) xs ((rs.take j).filter (keepR G n) ++ [rw].filter (keepR G n)) := fun {H8} s8 hk => by
         have hD8 := s8 _ _ hD
         have T9 := Tups.lst (ys := xs ++ [.ref r]) hD8
         refine ⟨xs, hD8, small1000 (by omega), _, xs ++ [.ref r], rfl, (s6.trans s8).put gD, upd_same, by rw [List.length_append]; simp; omega, ?_⟩
         rw [List.filter_cons_of_pos hk, List.filter_nil]
         exact Paired.snoc ((hxs.mono s8.tups).mono T9) ⟨r, rfl, (hra7.mono s8.tups).mono T9⟩
       rcases row_br hra7 with ⟨m, rest, hm, hrt⟩ | ⟨hk, hm⟩
       · have z0 : atI (V.str "bring" :: V.str m :: rest) 0 = some (.str "bring") := atI_nat (j := 0) rfl
         have z1 : atI (V.str "bring" :: V.str m :: rest) 1 = some (.str m) := atI_nat (j := 1) rfl
         refine ⟨_, rfl, r, _, _, _, rfl, rfl, SqT.of hrt, z0, rfl, _, rfl, iteF ?_⟩
         refine ⟨_, rfl, _, rfl, r, _, _, _, rfl, rfl, SqT.of hrt, z1, (by show 2 ≤ sizeLine; decide), fun t8 g8 => ?_⟩
         have s8 : Same H7 (upd H7 t8 (.tup [.str n, .str m])) := (Same.refl H7).new g8
         have ht8 : upd H7 t8 (.tup [.str n, .str m]) t8 = some (.tup [.str n, .str m]) := upd_same
         generalize upd H7 t8 (.tup [.str n, .str m]) = H8 at s8 ht8 ⊢
         have s08 := (s5.trans s6).trans s8
         refine ⟨_, rfl, t8, g, gs, (n, m), G, rfl, rfl, ht8, sqg s08, Paired.mapP hgs fun _ _ z => ts2_tups s08.tups z, _, rfl, ?_⟩
         rw [if_pos rfl]
         have ek : keepR G n rw = !decide ((n, m) ∈ G) := by unfold keepR; rw [hm]
         rw [← ek]
         cases hkk : keepR G n rw with
         | true =>
           refine iteT ?_
           exact ⟨_, rfl, yes s8 hkk⟩
         | false =>
           refine iteF ⟨_, xs, rfl, s6.trans s8, s8 _ _ hD, by omega, ?_⟩
           rw [List.filter_cons_of_neg (by rw [hkk]; simp), List.filter_nil, List.append_nil]
           exact hxs.mono s8.tups
       · obtain ⟨x1, rest, hrt⟩ := hra7.kind
         have z0 : atI (V.str (kindS rw) :: x1 :: rest) 0 = some (.str (kindS rw)) := atI_nat (j := 0) rfl
         refine ⟨_, rfl, r, _, _, _, rfl, rfl, SqT.of hrt, z0, rfl, _, rfl, ?_⟩
         rw [decide_eq_false (fun z => hk (V.str.inj z))]
         refine iteT (iteT ?_)
         exact ⟨_, rfl, yes (Same.refl H7) (by unfold keepR; rw [hm])⟩
     rintro σ H6 ⟨v0, xs, rfl, s6, hD, hxl, hxs⟩
     refine ⟨⟨rv, SqT.of (s6 _ _ hu5), Nat.le_refl _⟩, ?_⟩
     rw [hrl, List.take_length] at hxs
     have hF6 := s6 _ _ hF5
     refine ⟨_, rfl, .inl ⟨rfl, _, SqL.of hF6⟩, _, rfl, _, rfl, D, _, rfl, .inl ⟨SqL.of hD, fun t1 g1 => ⟨by show 2 ≤ sizeLine; decide, fun tp gtp => ?_⟩⟩⟩
     have s7 : Same H6 (upd H6 t1 (.tup xs)) := (Same.refl H6).new g1
     have ht1 : upd H6 t1 (.tup xs) t1 = some (.tup xs) := upd_same
     generalize upd H6 t1 (.tup xs) = H7 at s7 ht1 gtp ⊢
     have s8 : Same H7 (upd H7 tp (.tup [.str n, .ref t1])) := (Same.refl H7).new gtp
     have htp : upd H7 tp (.tup [.str n, .ref t1]) tp = some (.tup [.str n, .ref t1]) := upd_same
     generalize upd H7 tp (.tup [.str n, .ref t1]) = H8 at s8 htp ⊢
     have s68 := s7.trans s8
     have hF8 := s68 _ _ hF6
     have hwl : ws.length ≤ 24 := by rw [Paired.length hws]; unfold psW; rw [List.length_map, List.length_take]; omega
     have T9 := Tups.lst (ys := ws ++ [.ref tp]) hF8
     refine ⟨F, _, _, rfl, rfl, hF8, small1000 (by omega), ws ++ [.ref tp], _, _, _, rfl, ((s5.trans s6).trans s68).put gF, upd_same, ?_⟩
     have e : psW G (ps.take (i + 1)) = psW G (ps.take i) ++ [(n, rs.filter (keepR G n))] := by
       unfold psW
       rw [take_succ_get hpt, List.map_append]
       rfl
     rw [e]
     exact Paired.snoc (Paired.mapP hws fun _ _ z => z.mono ((s6.trans s68).tups.trans T9)) ⟨tp, t1, xs, rfl, T9 _ _ htp, T9 _ _ (s8 _ _ ht1), hxs.mono (s68.tups.trans T9)⟩
   · rintro σ H5 ⟨ws, v3, v4, v5, rfl, s5, hF5, hws⟩
     rw [hvl, List.take_length] at hws
     refine ⟨_, rfl, F, _, rfl, SqL.of hF5, fun x ob gx hob => ?_⟩
     have s7 : Same H5 (upd H5 x (.frz ob (.tup ws))) := (Same.refl H5).new gx
     exact q x _ (s5.trans s7) ⟨ob, ws, upd_same, hob, Paired.mapP hws fun _ _ z => z.mono s7.tups⟩
noncomputable def outsOf (Pp : List (Str × Str)) (n : Str) : List Str := (Pp.filter fun c => decide (c.1 = n)).map (·.2)
theorem mem_outsOf {Pp : List (Str × Str)} {n m : Str} : m ∈ outsOf Pp n ↔ (n, m) ∈ Pp := by
 unfold outsOf
 rw [List.mem_map]
 constructor
 · rintro ⟨c, hc, e⟩
   obtain ⟨h1, h2⟩ := List.mem_filter.mp hc
   rw [← e, ← of_decide_eq_true h2]
   exact h1
 · intro h
   exact ⟨(n, m), List.mem_filter.mpr ⟨h, decide_eq_true rfl⟩, rfl⟩
theorem outsOf_nodup {Pp : List (Str × Str)} (h : Pp.Nodup) (n : Str) : (outsOf Pp n).Nodup := by
 unfold outsOf List.Nodup
 rw [List.pairwise_map]
 refine List.Pairwise.imp_of_mem (fun {a b} ha hb hne z => hne ?_) (h.filter _)
 have h1 := of_decide_eq_true (List.mem_filter.mp ha).2
 have h2 := of_decide_eq_true (List.mem_filter.mp hb).2
 exact Prod.ext (h1.trans h2.symm) z
noncomputable def RingP (Pp : List (Str × Str)) (n : Str) : Prop := Rch (fun a b => (a, b) ∈ Pp) (outsOf Pp n) n
noncomputable def spRound : Sp := fun vs H Q _ => ∃ (l : Addr) (n : Str) (us : List V) (Pp : List (Str × Str)) (N : List Str), vs = [.ref l, .str n] ∧ H l = some (.lst us) ∧ Paired (TS2 H) us Pp ∧ Pp.Nodup ∧ (∀ c ∈ Pp, c.2 ∈ N) ∧ N.length ≤ 24 ∧ us.length ≤ 600 ∧ ∀ (H' : Hp) (b : Bool), Same H H' → (b = true ↔ RingP Pp n) → Q (.bl b) H'
theorem ok_round (T : Txt K mg) : L2.Cl P w K mg base 1 "_law_round" ["_law_pairs", "_law_name"] spRound := by
 refine Cl.of T.d_law_round sc_law_round (fun vs H Q E h => ?_) (fun _ _ _ _ _ _ us hl => by obtain ⟨a, b, rfl⟩ := len2 hl; rfl) (fun f cdv A outer s H vs Q E hr h => ?_)
 · obtain ⟨l, n, us, Pp, N, rfl, _⟩ := h
   rfl
 · obtain ⟨l, n, us, Pp, N, rfl, hl, hus, hPn, hPN, hN, hul, q⟩ := h
   refine ⟨_, (pss_cons (ps_setC (j := 2) (M := ["_law_one", "_law_other_here", "_law_name"]) (ρ := [none, none, some 1]) (defScope s_law_round) ["_law_pairs", "_law_name", "_law_seen", "_law_at", "_law_one", "_law_other_here"] ⟨rfl, by decide +kernel, by decide +kernel, by decide +kernel, rfl, by decide +kernel, by decide +kernel⟩ sc_law_round.nd rfl (Or.inl rfl) (pi_list (pv 0)) (fun _ _ _ _ _ _ => (pg_tupK (K := K) (n := 2) rfl rfl (pgs_cons (pg_name (i := 0) (show (["_law_one", "_law_other_here", "_law_name"] : List Str).Nodup by decide +kernel) rfl (Or.inl rfl)) (pgs_cons (pg_name (i := 1) (show (["_law_one", "_law_other_here", "_law_name"] : List Str).Nodup by decide +kernel) rfl (Or.inl rfl)) pgs_nil)))) (fun _ _ _ _ _ _ => (pts_one (pt_cmpR op_eq (pv 0) (pv 2) (nomark _)))) (fun _ _ _ _ _ _ => (pv 1)))
     (pss_cons (ps_set (i := 3) sc_law_round.nd rfl (Or.inl rfl) pe_int)
     (pss_cons (ps_while PassesOwn.never (pt_cmpR op_lt (pv 3) (pe_callB call_len_seq (by rfl) T.n_len PySem.boot_len (pa_cons (pv 2) pa_nil)) (nomark _))
       (pss_cons (ps_for PassesOwn.never rfl (pi_list (pv 0)) (pg_tup rfl (pgs_cons (pg_name (i := 4) sc_law_round.nd rfl (Or.inl rfl)) (pgs_cons (pg_name (i := 5) sc_law_round.nd rfl (Or.inl rfl)) pgs_nil)))
         (pss_one (ps_if (PW.pt (pw_and (pt_cmpR op_eq (pv 4) (pe_ix ix_list (pv 2) (pv 3) (fun _ _ => rfl)) (nomark _)) (pw_and1 (pt_cmpR op_notIn_seq (pv 5) (pv 2) (by with_unfolding_all rfl)))))
           (pss_one (ps_expr (pe_bm PySem.F.plainAttrs_list PySem.F.slot_list_append PySem.F.type_list_append mt_append (pv 2) (pa_cons (pv 5) pa_nil)))) pss_nil)))
       (pss_one (ps_set (i := 3) sc_law_round.nd rfl (Or.inl rfl) (pe_op op_add (pv 3) pe_int)))))
     (pss_one (ps_ret (pe_cmpR op_in_seq (pv 1) (pv 2) (by with_unfolding_all rfl))))))), ?_⟩
   have huP : us.length = Pp.length := Paired.length hus
   refine ⟨_, rfl, l, rfl, ⟨_, SqL.of hl⟩, fun D gD => ?_⟩
   refine comp_by us.length (fun j σ H2 => ∃ v0 v1 : Option V, σ = [v0, v1, some (.str n)] ∧ Same H H2 ∧ H2 D = some (.lst ((outsOf (Pp.take j) n).map V.str))) ⟨_, _, rfl, (Same.refl H).new gD, by rw [upd_same, List.take_zero]; rfl⟩ ?_ ?_
   · rintro j σ H2 hj ⟨v0, v1, rfl, s2, hD2⟩
     refine ⟨⟨us, us[j], SqL.of (s2 _ _ hl), by simp⟩, ?_⟩
     rintro y H3 ⟨rfl, hy⟩
     obtain ⟨c, hc, r, er, hr0⟩ := Paired.get? hus (hy _ (SqL.of (s2 _ _ hl)))
     subst er
     have hol : (outsOf (Pp.take j) n).length ≤ 600 := by
       unfold outsOf
       rw [List.length_map]
       refine Nat.le_trans (List.length_filter_le _ _) ?_
       rw [List.length_take]
       omega
     refine ⟨r, _, rfl, SqT.of (s2 _ _ hr0), rfl, _, _, rfl, _, _, rfl, rfl, ?_⟩
     have eo : outsOf (Pp.take (j + 1)) n = outsOf (Pp.take j) n ++ (if c.1 = n then [c.2] else []) := by
       unfold outsOf
       rw [take_succ_get hc, List.filter_append, List.map_append]
       by_cases e : c.1 = n
       · rw [if_pos e, List.filter_cons_of_pos (by exact decide_eq_true e)]; rfl
       · rw [if_neg e, List.filter_cons_of_neg (by simpa using e)]; rfl
     rw [eo]
     by_cases e : c.1 = n
     · rw [if_pos e]
       subst e
       refine ⟨_, rfl, _, rfl, rfl, _, rfl, iteSE ?_⟩
       refine ⟨_, rfl, _, hD2, small1000 (by rw [List.length_map]; omega), _, _, rfl, s2.put gD, ?_⟩
       rw [upd_same, List.map_append]
       rfl
     · rw [if_neg e, List.append_nil]
       exact ⟨_, rfl, _, rfl, rfl, _, rfl, iteSN e ⟨_, _, rfl, s2, hD2⟩⟩
   rintro σ H2 ⟨v0, v1, rfl, s2, hD2⟩
   refine ⟨⟨us, SqL.of (s2 _ _ hl), Nat.le_refl _⟩, ?_⟩
   rw [huP, List.take_length] at hD2
   refine to_n ?_
   refine ⟨fun m σ H3 => ∃ (L : List Str) (i : Nat) (v4 v5 : Option V), m = 30 - i ∧ σ = [some (.ref l), some (.str n), some (.ref D), some (.int (i : Int)), v4, v5] ∧ Same H H3 ∧ H3 D = some (.lst (L.map V.str)) ∧ L.Nodup ∧ i ≤ L.length ∧ (∀ x ∈ L, x ∈ N) ∧ (∀ x ∈ outsOf Pp n, x ∈ L) ∧ (∀ x ∈ L, Rch (fun a b => (a, b) ∈ Pp) (outsOf Pp n) x) ∧ ∀ (j : Nat) (x : Str), j < i → L[j]? = some x → ∀ y, (x, y) ∈ Pp → y ∈ L,
     ⟨_, outsOf Pp n, 0, none, none, rfl, rfl, s2, hD2, outsOf_nodup hPn n, Nat.zero_le _, fun x hx => hPN _ (mem_outsOf.mp hx), fun x hx => hx, fun x hx => .base hx, fun j x hj => by omega⟩, ?_⟩
   rintro m σ H3 ⟨L, i, v4, v5, rfl, rfl, s3, hD3, hnd, hiL, hLN, hinit, hR, hcl⟩
   have hLl := nodup_len L N hnd hLN
   refine ⟨_, rfl, _, rfl, D, _, rfl, .inl (SqL.of hD3), _, _, rfl, rfl, _, rfl, ?_⟩
   rw [List.length_map]
   refine ite2 (fun hlt => ?_) (fun hlt => ?_)
   · have hi : i < L.length := by have := of_decide_eq_true hlt; omega
     have hxi : L[i]? = some L[i] := by simp [hi]
     obtain ⟨x, hxe⟩ : ∃ x, x = L[i] := ⟨_, rfl⟩
     rw [← hxe] at hxi
     refine ⟨_, fun σ' H' h => h, ?_⟩
     refine ⟨_, rfl, l, rfl, ⟨_, SqL.of (s3 _ _ hl)⟩, for_list (K := K) (a := l) (xs := us) (fun t σ H4 => ∃ (L' : List Str) (v4 v5 : Option V), σ = [some (.ref l), some (.str n), some (.ref D), some (.int (i : Int)), v4, v5] ∧ Same H H4 ∧ H4 D = some (.lst ((L ++ L').map V.str)) ∧ (L ++ L').Nodup ∧ (∀ x ∈ L ++ L', x ∈ N) ∧ (∀ x ∈ L ++ L', Rch (fun a b => (a, b) ∈ Pp) (outsOf Pp n) x) ∧ ∀ c ∈ Pp.take t, c.1 = x → c.2 ∈ L ++ L')
       ⟨[], v4, v5, rfl, s3, by rw [List.append_nil]; exact hD3, by rw [List.append_nil]; exact hnd, by rw [List.append_nil]; exact hLN, by rw [List.append_nil]; exact hR, by simp⟩ (fun t σ H4 _ ⟨_, _, _, _, s4, _⟩ => SqL.of (s4 _ _ hl)) ?_ ?_⟩
     · rintro t y σ H4 hy ⟨L', v4', v5', rfl, s4, hD4, hnd4, hN4, hR4, hc4⟩
       obtain ⟨c, hc, r, er, hr0⟩ := Paired.get? hus hy
       subst er
       have hLl4 := nodup_len _ N hnd4 hN4
       have hat : atI ((L ++ L').map V.str) (i : Int) = some (.str x) := atI_nat (by rw [List.getElem?_map, List.getElem?_append_left hi, hxi]; rfl)
       refine ⟨r, _, rfl, SqT.of (s4 _ _ hr0), rfl, _, _, rfl, _, _, rfl, rfl, ?_⟩
       refine ⟨_, rfl, _, rfl, _, rfl, D, _, _, _, rfl, rfl, SqL.of hD4, hat, rfl, _, rfl, ?_⟩
       by_cases e : c.1 = x
       · rw [e]
         refine iteSE ?_
         refine ⟨_, rfl, _, rfl, D, _, rfl, .inl (SqL.of hD4), rfl, strs_flat _, _, rfl, ?_⟩
         rw [if_pos rfl, inV_strs]
         by_cases hin : c.2 ∈ L ++ L'
         · rw [decide_eq_true hin]
           refine iteF ⟨L', _, _, rfl, s4, hD4, hnd4, hN4, hR4, fun c' hc' e' => ?_⟩
           rw [take_succ_get hc] at hc'
           rcases List.mem_append.mp hc' with z | z
           · exact hc4 c' z e'
           · rw [List.mem_singleton.mp z]; exact hin
         · rw [decide_eq_false hin]
           refine iteT ?_
           refine ⟨_, rfl, .inl ⟨rfl, _, SqL.of hD4⟩, _, rfl, D, _, _, rfl, rfl, hD4, small1000 (by rw [List.length_map]; omega), L' ++ [c.2], _, _, rfl, s4.put gD, ?_, ?_, ?_, ?_, ?_⟩
           · rw [upd_same, ← List.append_assoc, List.map_append (l₁ := L ++ L')]
             rfl
           · rw [← List.append_assoc]
             refine List.nodup_append.mpr ⟨hnd4, by simp, fun a ha b hb e2 => ?_⟩
             rw [List.mem_singleton.mp hb] at e2
             rw [e2] at ha
             exact hin ha
           · intro y hy
             rw [← List.append_assoc] at hy
             rcases List.mem_append.mp hy with z | z
             · exact hN4 y z
             · rw [List.mem_singleton.mp z]; exact hPN _ (List.mem_of_getElem? hc)
           · intro y hy
             rw [← List.append_assoc] at hy
             rcases List.mem_append.mp hy with z | z
             · exact hR4 y z
             · rw [List.mem_singleton.mp z]
               refine .step (hR x (List.mem_of_getElem? hxi)) ?_
               rw [← e]
               exact List.mem_of_getElem? hc
           · intro c' hc' e'
             rw [← List.append_assoc]
             rw [take_succ_get hc] at hc'
             rcases List.mem_append.mp hc' with z | z
             · exact List.mem_append_left _ (hc4 c' z e')
             · rw [List.mem_singleton.mp z]; exact List.mem_append_right _ (List.mem_singleton.mpr rfl)
       · refine iteSN e (iteF ⟨L', _, _, rfl, s4, hD4, hnd4, hN4, hR4, fun c' hc' e' => ?_⟩)
         rw [take_succ_get hc] at hc'
         rcases List.mem_append.mp hc' with z | z
         · exact hc4 c' z e'
         · rw [List.mem_singleton.mp z] at e'
           exact absurd e' e
     · rintro σ H4 ⟨L', v4', v5', rfl, s4, hD4, hnd4, hN4, hR4, hc4⟩
       rw [huP, List.take_length] at hc4
       refine ⟨_, rfl, _, _, rfl, rfl, 30 - (i + 1), by omega, L ++ L', i + 1, v4', v5', rfl, ?_, s4, hD4, hnd4, by rw [List.length_append]; omega, hN4, fun y hy => List.mem_append_left _ (hinit y hy), hR4, fun j y hj hy z hz => ?_⟩
       · show _ = [some (V.ref l), some (V.str n), some (V.ref D), some (V.int ((i + 1 : Nat) : Int)), _, _]
         rw [show ((i + 1 : Nat) : Int) = (i : Int) + 1 by omega]
         rfl
       · by_cases ej : j = i
         · subst ej
           rw [List.getElem?_append_left hi, hxi] at hy
           cases hy
           exact hc4 _ hz rfl
         · have hj' : j < i := by omega
           rw [List.getElem?_append_left (by omega)] at hy
           exact List.mem_append_left _ (hcl j y hj' hy z hz)
   · have hi : i = L.length := by
       have h0 : ¬ (i : Int) < (L.length : Int) := fun z => hlt (decide_eq_true z)
       omega
     refine ⟨_, rfl, _, rfl, D, _, rfl, .inl (SqL.of hD3), rfl, strs_flat _, ?_⟩
     rw [if_neg Bool.false_ne_true, inV_strs]
     refine q H3 _ s3 ⟨fun z => hR n (of_decide_eq_true z), fun z => decide_eq_true ?_⟩
     have key : ∀ x, Rch (fun a b => (a, b) ∈ Pp) (outsOf Pp n) x → x ∈ L := fun x hx => by
       induction hx with
       | base h => exact hinit _ h
       | step _ e ih =>
         obtain ⟨j, hj⟩ := List.getElem?_of_mem ih
         exact hcl j _ (by have := (List.getElem?_eq_some_iff.mp hj).1; omega) hj _ e
     exact key n z
noncomputable def WayOk (Pp : List (Str × Str)) (n : Str) (w : List Str) : Prop := 3 ≤ w.length ∧ w.length ≤ 30 ∧ w[0]? = some n ∧ w[w.length - 1]? = some n ∧ ∀ (i : Nat) (a b : Str), w[i]? = some a → w[i + 1]? = some b → (a, b) ∈ Pp
noncomputable def AnsR (Pp : List (Str × Str)) (n : Str) (w : List Str) : Prop := (w = [] ∧ ¬ RingP Pp n) ∨ (w ≠ [] ∧ RingP Pp n ∧ WayOk Pp n w)
theorem outs_mem : ∀ {al : List (List Str)} {b k : Nat} {w : List Str}, (k, w) ∈ outs b al → ∃ i, k = b + i ∧ al[i]? = some w ∧ w ≠ []
 | [], b, k, w, h => by simp [outs] at h
 | [] :: r, b, k, w, h => by
   obtain ⟨i, h1, h2, h3⟩ := outs_mem (al := r) (b := b + 1) h
   exact ⟨i + 1, by omega, by rw [List.getElem?_cons_succ]; exact h2, h3⟩
 | (a :: v) :: r, b, k, w, h => by
   rcases List.mem_cons.mp h with z | z
   · cases z
     exact ⟨0, rfl, rfl, by simp⟩
   · obtain ⟨i, h1, h2, h3⟩ := outs_mem (al := r) (b := b + 1) z
     exact ⟨i + 1, by omega, by rw [List.getElem?_cons_succ]; exact h2, h3⟩
theorem cut_init {xs : List V} (h : 1 ≤ xs.length) : HT.sIx xs.length xs.length (some (-1)) = xs.length - 1 ∧ cutV xs none (some (-1)) = xs.take (xs.length - 1) := by
 have e : HT.sIx xs.length xs.length (some (-1)) = xs.length - 1 := by
   show (if (-1 : Int) < 0 then ((-1 : Int) + (xs.length : Int)).toNat else min ((-1 : Int)).toNat xs.length) = _
   rw [if_pos (by decide)]
   omega
 refine ⟨e, ?_⟩
 unfold cutV
 rw [e, HT.sIx_none, List.drop_zero, Nat.sub_zero]
theorem cut_tail {xs : List V} (h : 1 ≤ xs.length) : HT.sIx xs.length 0 (some 1) = 1 ∧ cutV xs (some 1) none = xs.drop 1 := by
 have e : HT.sIx xs.length 0 (some 1) = 1 := by
   show HT.sIx xs.length 0 (some ((1 : Nat) : Int)) = 1
   rw [HT.sIx_nat]
   omega
 refine ⟨e, ?_⟩
 unfold cutV
 rw [e, HT.sIx_none, List.take_of_length_le (by rw [List.length_drop]; omega)]
theorem neSF {x : Str} {A B : Prop} (h : B) : if (!decide (V.str x = V.str x)) = true then A else B := by
 rw [decide_eq_true rfl]
 exact iteF h
noncomputable def spRounds : Sp := fun vs H Q _ => ∃ (p nl pl : Addr) (zs us : List V) (al : List (List Str)) (nms : List Str) (Pp : List (Str × Str)), vs = [.ref p, .ref nl, .ref pl] ∧ H p = some (.tup zs) ∧ Paired (BkAt H) zs (outs 0 al) ∧ H nl = some (.lst (nms.map V.str)) ∧ nms.length ≤ 24 ∧ H pl = some (.lst us) ∧ Paired (TS2 H) us Pp ∧ Pp.Nodup ∧ (∀ c ∈ Pp, c.2 ∈ nms) ∧ us.length ≤ 600 ∧ Paired (AnsR Pp) nms al ∧ ∀ H', Same H H' → Q (.bl true) H'
theorem ok_rounds (T : Txt K mg) : L2.Cl P w K mg base 2 "_law_rounds" ["_law_found", "_law_names_here", "_law_pairs"] spRounds := by
 have C_law_round := ok_round (P := P) (w := w) (base := base) T
 refine Cl.of T.d_law_rounds sc_law_rounds (fun vs H Q E h => ?_) (fun _ _ _ _ _ _ us hl => by obtain ⟨a, b, c, rfl⟩ := len3 hl; rfl) (fun f cdv A outer s H vs Q E hr h => ?_)
 · obtain ⟨p, nl, pl, zs, us, al, nms, Pp, rfl, _⟩ := h
   rfl
 · obtain ⟨p, nl, pl, zs, us, al, nms, Pp, rfl, hp, hzs, hnl, hN, hpl, hus, hPn, hPN, hul, hal, q⟩ := h
   have hu := hu_of hr
   have hu0 := Nat.lt_of_succ_lt hu
   have hnal : nms.length = al.length := Paired.length hal
   refine ⟨_, (pss_cons (ps_setC (j := 3) (M := ["_law_k", "_law_pairs", "_law_names_here"]) (ρ := [none, some 2, some 1]) (defScope s_law_rounds) ["_law_found", "_law_names_here", "_law_pairs", "_law_due", "_law_number", "_law_row", "_law_way"] ⟨rfl, by decide +kernel, by decide +kernel, by decide +kernel, rfl, by decide +kernel, by decide +kernel⟩ sc_law_rounds.nd rfl (Or.inl rfl) (pi_range1 (by rfl) T.n_range (pa_cons (pe_callB call_len_seq (by rfl) T.n_len PySem.boot_len (pa_cons (pv 1) pa_nil)) pa_nil)) (fun _ _ _ _ _ _ => (pg_name (i := 0) (show (["_law_k", "_law_pairs", "_law_names_here"] : List Str).Nodup by decide +kernel) rfl (Or.inl rfl))) (fun _ _ _ _ _ _ => (pts_one (pt_val (pe_fn C_law_round hr (by rfl) (pa_cons (pv 1) (pa_cons (pe_ix (ix_listK (K := K) rfl) (pv 2) (pv 0) (fun _ _ => rfl)) pa_nil)))))) (fun _ _ _ _ _ _ => (pv 0)))
     (pss_cons (ps_if (PW.pt (pw_or (pt_not (pt_val (pe_callB call_isinst (by rfl) T.n_isinstance PyProof.Rows.boot_isinstance (pa_cons (pv 0) (pa_cons (pe_bltn (v := .ty "tuple") (by rfl) T.n_tuple boot_tuple rfl) pa_nil))))) (pw_or1 (pt_cmpR op_ne (pe_callB call_len_seq (by rfl) T.n_len PySem.boot_len (pa_cons (pv 0) pa_nil)) (pe_callB call_len_seq (by rfl) T.n_len PySem.boot_len (pa_cons (pv 3) pa_nil)) (nomark _)))))
       (pss_one (ps_ret pe_bl)) pss_nil)
     (pss_cons (ps_for PassesOwn.never rfl (pi_zipLT (by rfl) T.n_zip (pa_cons (pv 3) (pa_cons (pv 0) pa_nil))) (pg_tup rfl (pgs_cons (pg_name (i := 4) sc_law_rounds.nd rfl (Or.inl rfl)) (pgs_cons (pg_name (i := 5) sc_law_rounds.nd rfl (Or.inl rfl)) pgs_nil)))
       (pss_cons (ps_if (PW.pt (pw_or (pt_not (pt_val (pe_callB call_isinst (by rfl) T.n_isinstance PyProof.Rows.boot_isinstance (pa_cons (pv 5) (pa_cons (pe_bltn (v := .ty "tuple") (by rfl) T.n_tuple boot_tuple rfl) pa_nil))))) (pw_or (pt_cmpR op_ne (pe_callB call_len_seq (by rfl) T.n_len PySem.boot_len (pa_cons (pv 5) pa_nil)) pe_int (nomark _)) (pw_or (pt_cmpR op_ne (pe_ix ix_tup (pv 5) pe_int (fun _ _ => rfl)) (pv 4) (nomark _)) (pw_or1 (pt_not (pt_val (pe_callB call_isinst (by rfl) T.n_isinstance PyProof.Rows.boot_isinstance (pa_cons (pe_ix ix_tup (pv 5) pe_int (fun _ _ => rfl)) (pa_cons (pe_bltn (v := .ty "tuple") (by rfl) T.n_tuple boot_tuple rfl) pa_nil))))))))))
         (pss_one (ps_ret pe_bl)) pss_nil)
       (pss_cons (ps_set (i := 6) sc_law_rounds.nd rfl (Or.inl rfl) (pe_ix ix_tup (pv 5) pe_int (fun _ _ => rfl)))
       (pss_cons (ps_if (PW.pt (pw_or (pt_cmpR op_lt (pe_callB call_len_seq (by rfl) T.n_len PySem.boot_len (pa_cons (pv 6) pa_nil)) pe_int (nomark _)) (pw_or (pt_cmpR op_ne (pe_ix ix_tup (pv 6) pe_int (fun _ _ => rfl)) (pe_ix ix_list (pv 1) (pv 4) (fun _ _ => rfl)) (nomark _)) (pw_or1 (pt_cmpR op_ne (pe_ix ix_tup (pv 6) (pe_un un_neg pe_int) (fun _ _ => rfl)) (pe_ix ix_list (pv 1) (pv 4) (fun _ _ => rfl)) (nomark _))))))
         (pss_one (ps_ret pe_bl)) pss_nil)
       (pss_one (ps_if (pt_cmpR (op_neL_nil hu0) (pe_comp (M := ["_law_step", "_law_pairs"]) (ρ := [none, some 2]) (defScope s_law_rounds) ["_law_found", "_law_names_here", "_law_pairs", "_law_due", "_law_number", "_law_row", "_law_way"] ⟨rfl, by decide +kernel, by decide +kernel, by decide +kernel, rfl, by decide +kernel, by decide +kernel⟩ (pi_zipNm (by rfl) T.n_zip (pa_cons (pe_slice sl_tupA (pv 6) po_none (po_some (pe_un un_neg pe_int))) (pa_cons (pe_slice sl_tupA (pv 6) (po_some pe_int) po_none) pa_nil))) (fun _ _ _ _ _ _ => (pg_name (i := 0) (show (["_law_step", "_law_pairs"] : List Str).Nodup by decide +kernel) rfl (Or.inl rfl))) (fun _ _ _ _ _ _ => (pts_one (pt_cmpR (op_notInP (K := K) rfl hu) (pv 0) (pv 1) (by with_unfolding_all rfl)))) (fun _ _ _ _ _ _ => (pv 0))) (pe_lst pa_nil) (nomark _))
         (pss_one (ps_ret pe_bl)) pss_nil))))))
     (pss_one (ps_ret pe_bl))))), ?_⟩
   refine ⟨_, rfl, nl, _, rfl, .inl (SqL.of hnl), _, rfl, by rw [List.length_map]; omega, by rw [List.length_map]; omega, fun D gD => ?_⟩
   rw [show ((((nms.map V.str).length : Nat) : Int)).toNat = nms.length by rw [List.length_map]; omega]
   refine comp_by nms.length (fun j σ H2 => ∃ v0 : Option V, σ = [v0, some (.ref pl), some (.ref nl)] ∧ Same H H2 ∧ H2 D = some (.lst (((outs 0 (al.take j)).map fun x => (x.1 : Int)).map V.int))) ⟨_, rfl, (Same.refl H).new gD, by rw [upd_same, List.take_zero]; rfl⟩ ?_ ?_
   · rintro j σ H2 hj ⟨v0, rfl, s2, hD2⟩
     have hnj : nms[j]? = some nms[j] := by simp [hj]
     obtain ⟨w, hw, hans⟩ := Paired.get? hal hnj
     have atj : atI (nms.map V.str) (0 + (j : Int)) = some (.str nms[j]) := by rw [Int.zero_add]; exact atI_nat (by rw [List.getElem?_map, hnj]; rfl)
     refine ⟨hj, ?_⟩
     rintro y H3 ⟨rfl, rfl⟩
     refine ⟨_, rfl, _, rfl, _, rfl, nl, _, _, _, rfl, rfl, SqL.of (s2 _ _ hnl), atj, pl, nms[j], us, Pp, nms, rfl, s2 _ _ hpl, Paired.mapP hus fun _ _ z => ts2_tups s2.tups z, hPn, hPN, hN, hul, fun H4 b s4 hb => ⟨_, rfl, ?_⟩⟩
     have hol := outs_len (al.take j) 0
     rw [List.length_take] at hol
     rw [take_succ_get hw, outs_snoc]
     have hjl : 0 + (al.take j).length = j := by rw [List.length_take]; omega
     rw [hjl]
     rcases hans with ⟨h1, h2⟩ | ⟨h1, h2, h3⟩
     · have hbf : b = false := by
         cases b with
         | false => rfl
         | true => exact absurd (hb.mp rfl) h2
       subst hbf
       refine iteF ⟨_, rfl, s2.trans s4, ?_⟩
       rw [if_pos h1, List.append_nil]
       exact s4 _ _ hD2
     · have hbt : b = true := hb.mpr h2
       subst hbt
       refine iteT ?_
       refine ⟨_, rfl, _, s4 _ _ hD2, small1000 (by rw [List.length_map, List.length_map]; omega), _, rfl, (s2.trans s4).put gD, ?_⟩
       rw [upd_same, if_neg h1, List.map_append, List.map_append, Int.zero_add]
       rfl
   rintro σ H2 ⟨v0, rfl, s2, hD2⟩
   refine ⟨Nat.le_refl _, ?_⟩
   rw [hnal, List.take_length] at hD2
   have hzl : zs.length = (outs 0 al).length := Paired.length hzs
   have hp2 := s2 _ _ hp
   have hzs2 : Paired (BkAt H2) zs (outs 0 al) := Paired.mapP hzs fun _ _ z => z.mono s2.tups
   refine ⟨_, rfl, _, _, _, _, rfl, .tup hp2, kit_same _ _, _, rfl, iteF ?_⟩
   refine ⟨_, rfl, p, _, rfl, .inr (SqT.of hp2), _, rfl, D, _, rfl, .inl (SqL.of hD2), rfl, _, rfl, ?_⟩
   rw [decide_eq_true (by rw [List.length_map, List.length_map, hzl])]
   refine iteF ?_
   refine ⟨_, rfl, _, rfl, D, p, rfl, ⟨_, SqL.of hD2⟩, ⟨_, SqT.of hp2⟩, for_zipLT (K := K) (a := D) (b := p) (xs := (((outs 0 al).map fun x => (x.1 : Int)).map V.int)) (ys := zs) (fun i σ H3 => ∃ v4 v5 v6 : Option V, σ = [some (.ref p), some (.ref nl), some (.ref pl), some (.ref D), v4, v5, v6] ∧ Same H2 H3) (by rw [List.length_map, List.length_map, hzl])
     ⟨none, none, none, rfl, Same.refl H2⟩ (fun i σ H3 _ ⟨_, _, _, _, s3⟩ => ⟨SqL.of (s3 _ _ hD2), SqT.of (s3 _ _ hp2)⟩) ?_ ?_⟩
   · rintro i xv yv pp σ H3 hx hy ⟨v4, v5, v6, rfl, s3⟩ gp
     obtain ⟨⟨k, w⟩, hkw, t, u, et, ht, hu'⟩ := Paired.get? hzs2 hy
     subst et
     have exv : xv = .int (k : Int) := by
       rw [List.getElem?_map, List.getElem?_map, hkw] at hx
       exact (Option.some.inj hx).symm
     subst exv
     have s4 : Same H3 (upd H3 pp (.tup [.int (k : Int), .ref t])) := (Same.refl H3).new gp
     have hpp : upd H3 pp (.tup [.int (k : Int), .ref t]) pp = some (.tup [.int (k : Int), .ref t]) := upd_same
     generalize upd H3 pp (.tup [.int (k : Int), .ref t]) = H4 at s4 hpp ⊢
     have s24 := s3.trans s4
     have ht4 : H4 t = some (.tup [.int (k : Int), .ref u]) := s24 _ _ ht
     have hu4 : H4 u = some (.tup (w.map V.str)) := s24 _ _ hu'
     obtain ⟨i0, ek, hw, hwne⟩ := outs_mem (List.mem_of_getElem? hkw)
     obtain ⟨n, hn, hans⟩ := Paired.get?' hal hw
     obtain ⟨hr1, hl3, hl30, hw0, hwl, hedge⟩ : RingP Pp n ∧ WayOk Pp n w := by
       rcases hans with ⟨h1, _⟩ | ⟨_, h2, h3⟩
       · exact absurd h1 hwne
       · exact ⟨h2, h3⟩
     have hk : nms[k]? = some n := by rw [ek, Nat.zero_add]; exact hn
     have atn : atI (nms.map V.str) (k : Int) = some (.str n) := atI_nat (by rw [List.getElem?_map, hk]; rfl)
     have z0 : atI [V.int (k : Int), V.ref u] 0 = some (.int (k : Int)) := atI_nat (j := 0) rfl
     have z1 : atI [V.int (k : Int), V.ref u] 1 = some (.ref u) := atI_nat (j := 1) rfl
     have w0 : atI (w.map V.str) 0 = some (.str n) := atI_nat (j := 0) (by rw [List.getElem?_map, hw0]; rfl)
     have wl : atI (w.map V.str) (-1) = some (.str n) := atI_end (by rw [List.length_map, List.getElem?_map, hwl]; rfl)
     have hnl4 := (s2.trans s24) _ _ hnl
     refine ⟨pp, _, rfl, SqT.of hpp, rfl, _, _, rfl, _, _, rfl, rfl, ?_⟩
     refine ⟨_, rfl, _, _, _, _, rfl, .tup ht4, kit_same _ _, _, rfl, iteF ?_⟩
     refine ⟨_, rfl, t, _, rfl, .inr (SqT.of ht4), rfl, _, rfl, iteF ?_⟩
     refine ⟨_, rfl, t, _, _, _, rfl, rfl, SqT.of ht4, z0, _, rfl, rfl, _, rfl, neIF ?_⟩
     refine ⟨_, rfl, t, _, _, _, rfl, rfl, SqT.of ht4, z1, _, _, _, _, rfl, .tup hu4, kit_same _ _, _, rfl, iteF ?_⟩
     refine ⟨_, rfl, t, _, _, _, rfl, rfl, SqT.of ht4, z1, ?_⟩
     refine ⟨_, rfl, u, _, rfl, .inr (SqT.of hu4), _, _, rfl, rfl, _, rfl, ?_⟩
     rw [decide_eq_false (by rw [List.length_map]; omega)]
     refine iteF ?_
     refine ⟨_, rfl, u, _, _, _, rfl, rfl, SqT.of hu4, w0, _, rfl, _, rfl, nl, _, _, _, rfl, rfl, SqL.of hnl4, atn, rfl, _, rfl, neSF ?_⟩
     refine ⟨_, rfl, _, rfl, u, _, _, _, rfl, rfl, SqT.of hu4, wl, _, rfl, _, rfl, nl, _, _, _, rfl, rfl, SqL.of hnl4, atn, rfl, _, rfl, neSF ?_⟩
     obtain ⟨ci1, ci2⟩ := cut_init (xs := w.map V.str) (by rw [List.length_map]; omega)
     obtain ⟨ct1, ct2⟩ := cut_tail (xs := w.map V.str) (by rw [List.length_map]; omega)
     refine ⟨_, rfl, _, rfl, _, rfl, u, _, rfl, SqT.of hu4, .inr ⟨fun z => ?_, fun t1 g1 => ?_⟩⟩
     · have z2 := z.2
       rw [ci1, List.length_map] at z2
       omega
     rw [ci2]
     have s5 : Same H4 (upd H4 t1 (.tup ((w.map V.str).take ((w.map V.str).length - 1)))) := (Same.refl H4).new g1
     have ht1 : upd H4 t1 (.tup ((w.map V.str).take ((w.map V.str).length - 1))) t1 = some (.tup ((w.map V.str).take ((w.map V.str).length - 1))) := upd_same
     generalize upd H4 t1 (.tup ((w.map V.str).take ((w.map V.str).length - 1))) = H5 at s5 ht1 ⊢
     refine ⟨_, rfl, _, rfl, u, _, rfl, SqT.of (s5 _ _ hu4), .inr ⟨fun z => ?_, fun t2 g2 => ?_⟩⟩
     · have z1 := z.1
       rw [ct1] at z1
       cases z1
     rw [ct2]
     have s6 : Same H5 (upd H5 t2 (.tup ((w.map V.str).drop 1))) := (Same.refl H5).new g2
     have ht2 : upd H5 t2 (.tup ((w.map V.str).drop 1)) t2 = some (.tup ((w.map V.str).drop 1)) := upd_same
     have ht1' := s6 _ _ ht1
     generalize upd H5 t2 (.tup ((w.map V.str).drop 1)) = H6 at s6 ht2 ht1' ⊢
     have s26 := (s24.trans s5).trans s6
     have s06 := s2.trans s26
     refine ⟨t1, t2, rfl, ⟨_, SqT.of ht1'⟩, ⟨_, SqT.of ht2⟩, fun D2 gD2 => ?_⟩
     have hlw : (w.map V.str).length = w.length := List.length_map _
     refine comp_by (w.length - 1) (fun j σ H7 => ∃ v0 : Option V, σ = [v0, some (.ref pl)] ∧ Same H6 H7 ∧ H7 D2 = some (.lst [])) ⟨_, rfl, (Same.refl H6).new gD2, upd_same⟩ ?_ ?_
     · rintro j σ H7 hj ⟨v0, rfl, s7, hD7⟩
       have hj1 : w[j]? = some w[j] := List.getElem?_eq_getElem (by omega)
       have hj2 : w[j + 1]? = some w[j + 1] := List.getElem?_eq_getElem (by omega)
       have e1 : ((w.map V.str).take ((w.map V.str).length - 1))[j]? = some (.str w[j]) := by
         rw [List.getElem?_take, if_pos (by rw [hlw]; exact hj), List.getElem?_map, hj1]
         rfl
       have e2 : ((w.map V.str).drop 1)[j]? = some (.str w[j + 1]) := by
         rw [List.getElem?_drop, Nat.add_comm 1 j, List.getElem?_map, hj2]
         rfl
       refine ⟨⟨_, _, _, _, SqT.of (s7 _ _ ht1'), SqT.of (s7 _ _ ht2), e1, e2⟩, ?_⟩
       rintro x H8 ⟨pq, a', b', ha', hb', gpq, rfl, rfl⟩
       have ea : a' = .str w[j] := Option.some.inj ((ha' _ (SqT.of (s7 _ _ ht1'))).symm.trans e1)
       have eb : b' = .str w[j + 1] := Option.some.inj ((hb' _ (SqT.of (s7 _ _ ht2))).symm.trans e2)
       subst ea eb
       have s8 : Same H7 (upd H7 pq (.tup [.str w[j], .str w[j + 1]])) := (Same.refl H7).new gpq
       have hpq : upd H7 pq (.tup [.str w[j], .str w[j + 1]]) pq = some (.tup [.str w[j], .str w[j + 1]]) := upd_same
       generalize upd H7 pq (.tup [.str w[j], .str w[j + 1]]) = H8 at s8 hpq ⊢
       have s08 := (s06.trans s7).trans s8
       refine ⟨_, rfl, _, rfl, pq, pl, us, (w[j], w[j + 1]), Pp, rfl, rfl, hpq, .inl (SqL.of (s08 _ _ hpl)), Paired.mapP hus fun _ _ z => ts2_tups s08.tups z, _, rfl, ?_⟩
       rw [if_pos rfl, decide_eq_true (hedge j _ _ hj1 hj2)]
       exact iteF ⟨_, rfl, s7.trans s8, s8 _ _ hD7⟩
     rintro σ H7 ⟨v0, rfl, s7, hD7⟩
     refine ⟨⟨_, _, SqT.of (s7 _ _ ht1'), SqT.of (s7 _ _ ht2), by rw [List.length_take, hlw]; omega, by rw [List.length_drop, hlw]⟩, ?_⟩
     refine ⟨(by show 0 ≤ sizeLine; decide), fun e ge => ⟨D2, e, _, rfl, rfl, SqL.of (upd_keep hD7 ge), SqL.of upd_same, _, rfl, iteF ?_⟩⟩
     exact ⟨_, _, _, rfl, (s26.trans s7).trans ((Same.refl H7).new ge)⟩
   · rintro σ H3 ⟨v4, v5, v6, rfl, s3⟩
     exact q H3 (s2.trans s3)
theorem filter_one {α : Type} [DecidableEq α] {N : List α} {n : α} (hn : N.Nodup) (hm : n ∈ N) (p : α → Bool) (hp : ∀ m ∈ N, p m = true ↔ m = n) : N.filter p = [n] := by
 induction N with
 | nil => simp at hm
 | cons a r ih =>
   obtain ⟨h1, h2⟩ := List.nodup_cons.mp hn
   by_cases e : a = n
   · have hpa : p a = true := (hp a List.mem_cons_self).mpr e
     have hr : r.filter p = [] := by
       rw [List.filter_eq_nil_iff]
       intro y hy z
       have := (hp y (List.mem_cons_of_mem _ hy)).mp z
       exact h1 (by rw [e, ← this]; exact hy)
     rw [List.filter_cons_of_pos hpa, hr, e]
   · have hpa : ¬ p a = true := fun z => e ((hp a List.mem_cons_self).mp z)
     rw [List.filter_cons_of_neg hpa]
     exact ih h2 (by rcases List.mem_cons.mp hm with z | z; exact absurd z.symm e; exact z) fun y hy => hp y (List.mem_cons_of_mem _ hy)
noncomputable def PpOf (ps : List Pt) : List (Str × Str) := pairsOf (ps.map (·.1)) fun a b => decide (b ∈ k1 ps a)
theorem mem_PpOf {ps : List Pt} {c : Str × Str} : c ∈ PpOf ps ↔ c.1 ∈ ps.map (·.1) ∧ c.2 ∈ ps.map (·.1) ∧ c.2 ∈ k1 ps c.1 := by
 unfold PpOf
 rw [mem_pairsOf, decide_eq_true_iff]
theorem PpOf_nodup {ps : List Pt} (h : (ps.map (·.1)).Nodup) : (PpOf ps).Nodup := pairsOf_nodup h
theorem ring_wk {ps : List Pt} {n x : Str} (h : Rch (fun a b => (a, b) ∈ PpOf ps) (outsOf (PpOf ps) n) x) : ∃ t, Wk (k1 ps) n (t + 1) x := by
 induction h with
 | base h => exact ⟨0, .cons (mem_PpOf.mp (mem_outsOf.mp h)).2.2 .nil⟩
 | step _ e ih =>
   obtain ⟨t, hw⟩ := ih
   exact ⟨t + 1, hw.snoc (mem_PpOf.mp e).2.2⟩
theorem wk_on {ps : List Pt} (hcl : ClosedB ps) {S : List Str} {b x : Str} {t : Nat} (h : Wk (k1 ps) b t x) : b ∈ ps.map (·.1) → Rch (fun a b => (a, b) ∈ PpOf ps) S b → Rch (fun a b => (a, b) ∈ PpOf ps) S x := by
 induction h with
 | nil => exact fun _ h => h
 | cons e _ ih =>
   intro hb hr
   have hc := hcl _ hb _ e
   exact ih hc (.step hr (mem_PpOf.mpr ⟨hb, hc, e⟩))
theorem wk_ring {ps : List Pt} (hcl : ClosedB ps) {n x : Str} {t : Nat} (hn : n ∈ ps.map (·.1)) (h : Wk (k1 ps) n (t + 1) x) : Rch (fun a b => (a, b) ∈ PpOf ps) (outsOf (PpOf ps) n) x := by
 cases h with
 | cons e w =>
   have hc := hcl _ hn _ e
   exact wk_on hcl w hc (.base (mem_outsOf.mpr (mem_PpOf.mpr ⟨hn, hc, e⟩)))
theorem way_in {ps : List Pt} (hcl : ClosedB ps) {n f : Str} {t : Nat} {w : List Str} (hn : n ∈ ps.map (·.1)) (h : WayTo (k1 ps) [n] t w f) : ∀ (i : Nat) (a : Str), w[i]? = some a → a ∈ ps.map (·.1)
 | 0, a, e => by
   obtain ⟨s, hs, e2⟩ := h.fst
   rw [e2] at e
   cases e
   rw [List.mem_singleton.mp hs]
   exact hn
 | i + 1, a, e => by
   have hl : i + 1 < w.length := (List.getElem?_eq_some_iff.mp e).1
   have e1 : w[i]? = some w[i] := List.getElem?_eq_getElem (by omega)
   exact hcl _ (way_in hcl hn h i _ e1) _ (h.edg i _ _ e1 e)
theorem ansR_of {ps : List Pt} (hcl : ClosedB ps) {n : Str} {w : List Str} (hn : n ∈ ps.map (·.1)) (hns : n ∉ k1 ps n) (h : Ans (k1 ps) [n] [n] w) : AnsR (PpOf ps) n w := by
 rcases h with ⟨h1, h2⟩ | ⟨t, x, hb, hw, hx, hl⟩
 · refine .inl ⟨h1, fun hr => ?_⟩
   obtain ⟨t, hk⟩ := ring_wk hr
   exact h2 n (List.mem_singleton.mpr rfl) (t + 1) (by omega) n (List.mem_singleton.mpr rfl) hk
 · have ex := List.mem_singleton.mp hx
   subst ex
   obtain ⟨s, hs, y, hy, hk⟩ := hb.has
   rw [List.mem_singleton.mp hs, List.mem_singleton.mp hy] at hk
   have hpos := hb.pos
   obtain ⟨t', rfl⟩ : ∃ t', t = t' + 1 := ⟨t - 1, by omega⟩
   have hlen := hw.len
   have ht2 : 1 ≤ t' := by
     rcases Nat.eq_zero_or_pos t' with z | z
     · subst z
       exact absurd hk.one hns
     · exact z
   refine .inr ⟨fun z => by rw [z] at hlen; simp at hlen, wk_ring hcl hn hk, by omega, hl, ?_, ?_, fun i a b h1 h2 => ?_⟩
   · obtain ⟨s, hs, e⟩ := hw.fst
     rw [e, List.mem_singleton.mp hs]
   · rw [hlen]
     exact hw.lst
   · have ha := way_in hcl hn hw i a h1
     have he := hw.edg i a b h1 h2
     exact mem_PpOf.mpr ⟨ha, hcl _ ha _ he, he⟩
noncomputable def Acyc (ps : List Pt) : Prop := ∃ ρ : Str → Nat, ∀ a ∈ ps.map (·.1), ∀ b ∈ k1 ps a, ρ b < ρ a
theorem wk_rank {ps : List Pt} (hcl : ClosedB ps) {ρ : Str → Nat} (hρ : ∀ a ∈ ps.map (·.1), ∀ b ∈ k1 ps a, ρ b < ρ a) {a b : Str} {t : Nat} (h : Wk (k1 ps) a t b) : a ∈ ps.map (·.1) → ρ b + t ≤ ρ a := by
 induction h with
 | nil => intro _; omega
 | cons e _ ih =>
   intro ha
   have h1 := ih (hcl _ ha _ e)
   have h2 := hρ _ ha _ e
   omega
theorem rch_wk {k : Str → List Str} {a b : Str} (h : Rch (fun a b => b ∈ k a) [a] b) : ∃ t, Wk k a t b := by
 induction h with
 | base h => rw [List.mem_singleton.mp h]; exact ⟨0, .nil⟩
 | step _ e ih =>
   obtain ⟨t, hw⟩ := ih
   exact ⟨t + 1, hw.snoc e⟩
theorem acyc_noway {ps : List Pt} (hcl : ClosedB ps) (h : Acyc ps) {n : Str} (hn : n ∈ ps.map (·.1)) : ¬ ∃ t, 1 ≤ t ∧ Wk (k1 ps) n t n := fun ⟨t, h1, h2⟩ => by
 obtain ⟨ρ, hρ⟩ := h
 have := wk_rank hcl hρ h2 hn
 omega
theorem acyc_eqv {ps : List Pt} (hcl : ClosedB ps) (h : Acyc ps) {a b : Str} (ha : a ∈ ps.map (·.1)) (he : eqv (k1 ps) a b = true) : b = a := by
 obtain ⟨ρ, hρ⟩ := h
 obtain ⟨h1, h2⟩ := eqv_iff.mp he
 obtain ⟨t1, w1⟩ := rch_wk (rB_iff.mp h1)
 obtain ⟨t2, w2⟩ := rch_wk (rB_iff.mp h2)
 have r1 := wk_rank hcl hρ w1 ha
 have hb : b ∈ ps.map (·.1) := Rch.inN (fun n hn m hm => hcl n hn m hm) ha (rB_iff.mp h1)
 have r2 := wk_rank hcl hρ w2 hb
 have : t1 = 0 := by omega
 subst this
 cases w1
 rfl
theorem acyc_knots {ps : List Pt} (hn : (ps.map (·.1)).Nodup) (hcl : ClosedB ps) (h : Acyc ps) : knotsOf (k1 ps) (ps.map (·.1)) (ps.map (·.1)) = (ps.map (·.1)).map fun n => [n] := by
 have hk : ∀ n ∈ ps.map (·.1), knotOf (k1 ps) (ps.map (·.1)) n = [n] := fun n hm => by
   rw [knotOf_eq]
   exact filter_one hn hm _ fun m _ => ⟨fun z => acyc_eqv hcl h hm z, fun z => by rw [z]; exact eqv_refl⟩
 unfold knotsOf
 have e : (ps.map (·.1)).filter (firstIn (k1 ps) (ps.map (·.1))) = ps.map (·.1) := List.filter_eq_self.mpr fun n hm => firstIn_iff.mpr (by rw [hk n hm]; rfl)
 rw [e]
 exact List.map_congr_left hk
theorem noway_acyc {ps : List Pt} (hcl : ClosedB ps) (h : ∀ n ∈ ps.map (·.1), ¬ ∃ t, 1 ≤ t ∧ Wk (k1 ps) n t n) : Acyc ps := by
 refine ⟨fun a => ((ps.map (·.1)).filter (rB (k1 ps) a)).length, fun a ha b hb => ?_⟩
 refine filter_less (p := rB (k1 ps) b) (q := rB (k1 ps) a) (fun z _ y => rB_trans (rB_edge hb) y) ⟨a, ha, rB_refl, ?_⟩
 cases hba : rB (k1 ps) b a with
 | false => rfl
 | true =>
   obtain ⟨t, w⟩ := rch_wk (rB_iff.mp hba)
   exact absurd ⟨t + 1, by omega, .cons hb w⟩ (h a ha)
theorem outs_nil : ∀ {al : List (List Str)} (b : Nat), (∀ w ∈ al, w = []) → outs b al = []
 | [], _, _ => rfl
 | w :: r, b, h => by
   have e := h w List.mem_cons_self
   subst e
   exact outs_nil (b + 1) fun w hw => h w (List.mem_cons_of_mem _ hw)
theorem outs_all {al : List (List Str)} : ∀ {b : Nat}, outs b al = [] → ∀ w ∈ al, w = [] := by
 induction al with
 | nil => intro b _ w hw; simp at hw
 | cons v r ih =>
   intro b h w hw
   cases v with
   | nil =>
     rcases List.mem_cons.mp hw with z | z
     · exact z
     · exact ih (b := b + 1) h w z
   | cons a u => cases h
theorem gone_acyc {ps : List Pt} {C F : List (Str × Str)} {ρ : Str → Nat} (hn : (ps.map (·.1)).Nodup) (hcl : ClosedB ps) (hρ : ∀ a ∈ ps.map (·.1), ∀ b ∈ ps.map (·.1), b ∈ k1 ps a → (a, b) ∉ C → ρ b < ρ a) (hF : ∀ c, c ∈ F ↔ c.1 ∈ ps.map (·.1) ∧ c.2 ∈ ps.map (·.1) ∧ c ∈ C) : Acyc (psW F ps) := by
 refine ⟨ρ, fun a ha b hb => ?_⟩
 rw [psW_names] at ha
 obtain ⟨h1, h2⟩ := (psW_k1 hn ha).mp hb
 have hbN := hcl a ha b h1
 exact hρ a ha b hbN h1 fun z => h2 ((hF (a, b)).mpr ⟨ha, hbN, z⟩)
theorem acyc_few {ps : List Pt} {css : List (List (Str × Str))} (hfit : PsFit ps) (hcl : ClosedB ps) (h : Acyc ps) (hc : Paired (CutL ps) css (knotsOf (k1 ps) (ps.map (·.1)) (ps.map (·.1)))) (hk : ∀ tg ∈ knotsOf (k1 ps) (ps.map (·.1)) (ps.map (·.1)), tg.length ≤ 8) : css.flatten = [] := by
 obtain ⟨ρ, hρ⟩ := h
 have := none_fewer (PpOf_nodup hfit.nd) (fun c => mem_PpOf) (List.Sublist.refl _) (fun c hc => hρ c.1 (mem_PpOf.mp hc).1 c.2 (mem_PpOf.mp hc).2.2) hfit.nd hc hk
 exact List.eq_nil_of_length_eq_zero (by omega)
theorem more_ring {ps : List Pt} {css : List (List (Str × Str))} {F G : List (Str × Str)} (hfit : PsFit ps) (hc : Paired (CutL ps) css (knotsOf (k1 ps) (ps.map (·.1)) (ps.map (·.1)))) (hk : ∀ tg ∈ knotsOf (k1 ps) (ps.map (·.1)) (ps.map (·.1)), tg.length ≤ 8) (hFl : F.length = css.flatten.length) (hG : G.length < F.length) (h : Acyc (psW G ps)) : False := by
 obtain ⟨ρ, hρ⟩ := h
 have hL : ∀ c ∈ (PpOf ps).filter (fun c => !decide (c ∈ G)), ρ c.2 < ρ c.1 := fun c hc' => by
   obtain ⟨a1, a2⟩ := List.mem_filter.mp hc'
   obtain ⟨b1, b2, b3⟩ := mem_PpOf.mp a1
   have hnG : c ∉ G := by simpa using a2
   exact hρ c.1 (by rw [psW_names]; exact b1) c.2 ((psW_k1 hfit.nd b1).mpr ⟨b3, hnG⟩)
 have h1 := none_fewer (PpOf_nodup hfit.nd) (fun c => mem_PpOf) List.filter_sublist hL hfit.nd hc hk
 have h2 := nodup_lenG (PpOf ps) ((PpOf ps).filter (fun c => !decide (c ∈ G)) ++ G) (PpOf_nodup hfit.nd) fun c hc' => by
   by_cases z : c ∈ G
   · exact List.mem_append_right _ z
   · exact List.mem_append_left _ (List.mem_filter.mpr ⟨hc', by simp [z]⟩)
 rw [List.length_append] at h2
 omega
theorem more_one {ps : List Pt} {css' : List (List (Str × Str))} {F : List (Str × Str)} {c : Str × Str} (hfit : PsFit ps) (hF : Acyc (psW F ps)) (hc : Paired (CutL (psW (F.filter fun d => !decide (d = c)) ps)) css' (knotsOf (k1 (psW (F.filter fun d => !decide (d = c)) ps)) ((psW (F.filter fun d => !decide (d = c)) ps).map (·.1)) ((psW (F.filter fun d => !decide (d = c)) ps).map (·.1)))) (hk : ∀ tg ∈ knotsOf (k1 (psW (F.filter fun d => !decide (d = c)) ps)) ((psW (F.filter fun d => !decide (d = c)) ps).map (·.1)) ((psW (F.filter fun d => !decide (d = c)) ps).map (·.1)), tg.length ≤ 8) : css'.flatten.length ≤ 1 := by
 obtain ⟨ρ, hρ⟩ := hF
 have hfit' := psW_fit (G := F.filter fun d => !decide (d = c)) hfit
 have hL : ∀ d ∈ (PpOf (psW (F.filter fun d => !decide (d = c)) ps)).filter (fun d => !decide (d = c)), ρ d.2 < ρ d.1 := fun d hd => by
   obtain ⟨a1, a2⟩ := List.mem_filter.mp hd
   obtain ⟨b1, b2, b3⟩ := mem_PpOf.mp a1
   have hdc : ¬ d = c := by simpa using a2
   rw [psW_names] at b1
   obtain ⟨e1, e2⟩ := (psW_k1 hfit.nd b1).mp b3
   refine hρ d.1 (by rw [psW_names]; exact b1) d.2 ((psW_k1 hfit.nd b1).mpr ⟨e1, fun z => e2 (List.mem_filter.mpr ⟨z, ?_⟩)⟩)
   have : ¬ (d.1, d.2) = c := hdc
   simp [this]
 have h1 := none_fewer (PpOf_nodup hfit'.nd) (fun c => mem_PpOf) List.filter_sublist hL hfit'.nd hc hk
 have h2 := nodup_lenG (PpOf (psW (F.filter fun d => !decide (d = c)) ps)) ((PpOf (psW (F.filter fun d => !decide (d = c)) ps)).filter (fun d => !decide (d = c)) ++ [c]) (PpOf_nodup hfit'.nd) fun d hd => by
   by_cases z : d = c
   · rw [z]; exact List.mem_append_right _ (List.mem_singleton.mpr rfl)
   · exact List.mem_append_left _ (List.mem_filter.mpr ⟨hd, by simp [z]⟩)
 rw [List.length_append] at h2
 simp only [List.length_singleton] at h2
 omega
noncomputable def fS (k : Nat) : Str := "f" ++ Str.ofString (toString ((k : Nat) : Int))
theorem fS_inj : ∀ i, i < 24 → ∀ j, j < 24 → fS i = fS j → i = j := by decide +kernel
theorem fS_len : ∀ i, i < 24 → (Str.ofString (toString ((i : Nat) : Int))).length ≤ 8 := by decide +kernel
noncomputable def flN (N : List Str) (m : Nat) : List (Str × Str) := (List.range m).map fun k => (N.getD k "", fS k)
noncomputable def rlN (m : Nat) : List (Str × Str) := (List.range m).map fun k => (fS k, fS k)
theorem inF_one {N : List Str} {k : Nat} (hk : k < N.length) (hN : N.length ≤ 24) : inF (flN N N.length) (fS k) = [N.getD k ""] := by
 unfold inF flN
 rw [List.filter_map, List.map_map]
 have e : (List.range N.length).filter ((fun x => decide (x.2 = fS k)) ∘ fun k => (N.getD k "", fS k)) = [k] := filter_one List.nodup_range (List.mem_range.mpr hk) _ fun j hj => by
   show decide (fS j = fS k) = true ↔ j = k
   rw [decide_eq_true_iff]
   exact ⟨fun z => fS_inj j (by have := List.mem_range.mp hj; omega) k (by omega) z, fun z => by rw [z]⟩
 rw [e]
 rfl
theorem ans_of {g : Str → List Str} {N : List Str} {al : List (List Str)} (hN : N.length ≤ 24) (h : Paired (OkA g (flN N N.length)) (rlN N.length) al) : Paired (fun n w => Ans g [n] [n] w) N al := by
 have hl : al.length = N.length := by rw [← Paired.length h]; unfold rlN; rw [List.length_map, List.length_range]
 have key : ∀ k, k < N.length → ∃ w, al[k]? = some w ∧ Ans g [N.getD k ""] [N.getD k ""] w := fun k hk => by
   have e : (rlN N.length)[k]? = some (fS k, fS k) := by unfold rlN; rw [List.getElem?_map, List.getElem?_range hk]; rfl
   obtain ⟨w, hw, ha⟩ := Paired.get? h e
   unfold OkA at ha
   rw [inF_one hk hN] at ha
   exact ⟨w, hw, ha⟩
 clear h hN
 induction N generalizing al with
 | nil =>
   have : al = [] := List.eq_nil_of_length_eq_zero hl
   subst this
   exact .nil
 | cons n r ih =>
   cases al with
   | nil => simp at hl
   | cons w al' =>
     refine .cons ?_ (ih (by simpa using hl) fun k hk => ?_)
     · obtain ⟨w', hw', ha⟩ := key 0 (by simp)
       cases hw'
       exact ha
     · obtain ⟨w', hw', ha⟩ := key (k + 1) (by simpa using hk)
       exact ⟨w', by rw [List.getElem?_cons_succ] at hw'; exact hw', ha⟩
theorem slA_any {K : PySem.W.Frag} {H : Hp} {Q : VK} {a : Addr} {xs : List V} {lo hi : Option Int} (ha : H a = some (.tup xs)) (q : ∀ (p : Addr) (ys : List V) (H' : Hp), Same H H' → H' p = some (.tup ys) → (∀ y ∈ ys, y ∈ xs) → Q (.ref p) H') : rSlA K (.ref a) lo hi H Q := by
 refine ⟨a, xs, rfl, SqT.of ha, ?_⟩
 by_cases z : HT.sIx xs.length 0 lo = 0 ∧ HT.sIx xs.length xs.length hi = xs.length
 · exact .inl ⟨z.1, z.2, q a xs H (Same.refl H) ha fun y h => h⟩
 · refine .inr ⟨z, fun p gp => q p _ _ ((Same.refl H).new gp) upd_same fun y h => ?_⟩
   unfold cutV at h
   exact List.mem_of_mem_drop (List.mem_of_mem_take h)
theorem small8 {ps : List Pt} (hn : (ps.map (·.1)).Nodup) (hN : (ps.map (·.1)).length ≤ 8) : ∀ tg ∈ knotsOf (k1 ps) (ps.map (·.1)) (ps.map (·.1)), tg.length ≤ 8 := fun tg htg =>
 Nat.le_trans (nodup_len tg _ (knot_nd hn htg) (knot_sub htg)) hN
theorem One_len {n : Nat} (h : n < 24) : (1 : Nat) + (Str.ofString (toString ((n : Nat) : Int))).length ≤ sizeLine := by
 have := fS_len n h
 exact Nat.le_of_lt (small1000 (by omega))
theorem eq_ones {K : PySem.W.Frag} {H : Hp} : ∀ {N : List Str} {xs ys : List V}, Paired (TsAt H) xs (N.map fun n => [n]) → Paired (TsAt H) ys (N.map fun n => [n]) → Paired (EqD K H 2) xs ys
 | [], _, _, .nil, .nil => .nil
 | n :: r, _, _, .cons ⟨t, e, h⟩ p, .cons ⟨t', e', h'⟩ p' => by
   subst e e'
   exact .cons (.inr ⟨t, t', _, _, rfl, rfl, SqT.of h, SqT.of h', .cons (.inl ⟨rfl, rfl⟩) .nil⟩) (eq_ones p p')
noncomputable def One8 (y : V) : Prop := ∃ n : Int, y = .int n ∧ 1 ≤ n ∧ n ≤ 8
noncomputable def spLaw (K : PySem.W.Frag) : Sp := fun vs H Q _ => ∃ (a : Addr) (ns : List Int), vs = [.ref a] ∧ SqL K H a (ns.map V.int) ∧ ns.length ≤ 63 ∧ ∀ H', Q (.bl true) H'
theorem law_fn {f : Addr} {fd : FuncData} (F : Fun K "law" "law" s_law f fd) (T : Txt K mg) : FnOk P w K mg base CX0 7 f fd ["_law_script"] (spLaw K) := by
 have C_law_cell_at := ok_cell (P := P) (w := w) (base := base) T
 have C_law_mixed := ok_mixed (P := P) (w := w) (base := base) T
 have C_law_names := ok_names (P := P) (w := w) (base := base) T
 have C_law_plain := ok_plain (P := P) (w := w) (base := base) T
 have C_law_pairs_of := ok_pairs (P := P) (w := w) (base := base) T
 have C_law_is_cut := ok_isCut (P := P) (w := w) (base := base) T
 have C_law_without := ok_without (P := P) (w := w) (base := base) T
 have C_law_rounds := ok_rounds (P := P) (w := w) (base := base) T
 have C_broken := ok_broken (P := P) (w := w) (base := base) T
 have C_tangles := ok_tangles (P := P) (w := w) (base := base) T
 have C_fewest := ok_fewest (P := P) (w := w) (base := base) T
 refine F.ok sc_law (fun vs H Q E h => ?_) (fun cdv A outer s H vs Q E hr h => ?_)
 · obtain ⟨a, ns, rfl, _⟩ := h
   rfl
 · obtain ⟨a, ns, rfl, hS, hlen, q⟩ := h
   have hu := hu_of hr
   have hu0 := Nat.lt_of_succ_lt hu
   have hu4 := Nat.lt_of_le_of_lt (Nat.add_le_add_left (by decide : 3 ≤ 64) _) hr.units
   refine ⟨_, (@pss_cons _ _ _ _ _ (@ps_set _ _ (1) _ _ _ _ sc_law.nd rfl (Or.inl rfl) (@pe_op _ _ _ _ _ _ _ _ (@op_add _) (@pe_int _ _ _ _) (@pe_op _ _ _ _ _ _ _ _ (@op_mod _) (@pe_fn _ _ _ _ _ _ _ _ _ _ _ C_law_cell_at hr (by rfl) (@pa_cons _ _ _ _ _ (@pv _ 0 _ _ (by rfl) (by first   | exact Or.inl rfl   | exact Or.inr (Or.inl rfl)   | exact Or.inr (Or.inr rfl)) (by decide) (by decide)) (@pa_cons _ _ _ _ _ (@pe_int _ _ _ _) (@pa_nil _) (by rfl)) (by rfl)) (by decide) (by decide) (by rfl) (by rfl)) (@pe_int _ _ _ _))) (by rfl) (by first   | exact .inl rfl   | exact .inr rfl   | assumption)) (@pss_cons _ _ _ _ _ (@ps_if _ _ _ _ _ _ _ _ (@pt_cmpR _ _ _ _ _ _ _ _ (@op_eq _) (@pe_op _ _ _ _ _ _ _ _ (@op_mod _) (@pe_op _ _ _ _ _ _ _ _ (@op_fdiv _) (@pe_fn _ _ _ _ _ _ _ _ _ _ _ C_law_cell_at hr (by rfl) (@pa_cons _ _ _ _ _ (@pv _ 0 _ _ (by rfl) (by first   | exact Or.inl rfl   | exact Or.inr (Or.inl rfl)   | exact Or.inr (Or.inr rfl)) (by decide) (by decide)) (@pa_cons _ _ _ _ _ (@pe_int _ _ _ _) (@pa_nil _) (by rfl)) (by rfl)) (by decide) (by decide) (by rfl) (by rfl)) (@pe_int _ _ _ _)) (@pe_int _ _ _ _)) (@pe_int _ _ _ _) (nomark _)) (@pss_one _ _ _ (@ps_set _ _ (1) _ _ _ _ sc_law.nd rfl (Or.inl rfl) (@pe_op _ _ _ _ _ _ _ _ (@op_add _) (@pe_int _ _ _ _) (@pe_op _ _ _ _ _ _ _ _ (@op_mod _) (@pe_op _ _ _ _ _ _ _ _ (@op_fdiv _) (@pe_fn _ _ _ _ _ _ _ _ _ _ _ C_law_cell_at hr (by rfl) (@pa_cons _ _ _ _ _ (@pv _ 0 _ _ (by rfl) (by first   | exact Or.inl rfl   | exact Or.inr (Or.inl rfl)   | exact Or.inr (Or.inr rfl)) (by decide) (by decide)) (@pa_cons _ _ _ _ _ (@pe_int _ _ _ _) (@pa_nil _) (by rfl)) (by rfl)) (by decide) (by decide) (by rfl) (by rfl)) (@pe_int _ _ _ _)) (@pe_int _ _ _ _))) (by rfl) (by first   | exact .inl rfl   | exact .inr rfl   | assumption))) (@pss_nil _)) (@pss_cons _ _ _ _ _ (@ps_set _ _ (2) _ _ _ _ sc_law.nd rfl (Or.inl rfl) (@pe_fn _ _ _ _ _ _ _ _ _ _ _ C_law_names hr (by rfl) (@pa_cons _ _ _ _ _ (@pe_fn _ _ _ _ _ _ _ _ _ _ _ C_law_cell_at hr (by rfl) (@pa_cons _ _ _ _ _ (@pv _ 0 _ _ (by rfl) (by first   | exact Or.inl rfl   | exact Or.inr (Or.inl rfl)   | exact Or.inr (Or.inr rfl)) (by decide) (by decide)) (@pa_cons _ _ _ _ _ (@pe_int _ _ _ _) (@pa_nil _) (by rfl)) (by rfl)) (by decide) (by decide) (by rfl) (by rfl)) (@pa_cons _ _ _ _ _ (@pv _ 1 _ _ (by rfl) (by first   | exact Or.inl rfl   | exact Or.inr (Or.inl rfl)   | exact Or.inr (Or.inr rfl)) (by decide) (by decide)) (@pa_nil _) (by rfl)) (by rfl)) (by decide) (by decide) (by rfl) (by rfl)) (by rfl) (by first   | exact .inl rfl   | exact .inr rfl   | assumption)) (@pss_cons _ _ _ _ _ (@ps_set _ _ (3) _ _ _ _ sc_law.nd rfl (Or.inl rfl) (@pe_fn _ _ _ _ _ _ _ _ _ _ _ C_law_plain hr (by rfl) (@pa_cons _ _ _ _ _ (@pv _ 0 _ _ (by rfl) (by first   | exact Or.inl rfl   | exact Or.inr (Or.inl rfl)   | exact Or.inr (Or.inr rfl)) (by decide) (by decide)) (@pa_cons _ _ _ _ _ (@pv _ 2 _ _ (by rfl) (by first   | exact Or.inl rfl   | exact Or.inr (Or.inl rfl)   | exact Or.inr (Or.inr rfl)) (by decide) (by decide)) (@pa_cons _ _ _ _ _ (@pe_op _ _ _ _ _ _ _ _ (@op_mod _) (@pe_fn _ _ _ _ _ _ _ _ _ _ _ C_law_cell_at hr (by rfl) (@pa_cons _ _ _ _ _ (@pv _ 0 _ _ (by rfl) (by first   | exact Or.inl rfl   | exact Or.inr (Or.inl rfl)   | exact Or.inr (Or.inr rfl)) (by decide) (by decide)) (@pa_cons _ _ _ _ _ (@pe_int _ _ _ _) (@pa_nil _) (by rfl)) (by rfl)) (by decide) (by decide) (by rfl) (by rfl)) (@pe_int _ _ _ _)) (@pa_nil _) (by rfl)) (by rfl)) (by rfl)) (by decide) (by decide) (by rfl) (by rfl)) (by rfl) (by first   | exact .inl rfl   | exact .inr rfl   | assumption)) (@pss_cons _ _ _ _ _ (@ps_set _ _ (4) _ _ _ _ sc_law.nd rfl (Or.inl rfl) (@pe_callTy _ _ _ _ _ _ _ _ _ (@call_tuple_of _) (by rfl) T.n_tuple boot_tuple (@pa_cons _ _ _ _ _ (@pe_comp _ _ _ _ _ _ _ (["_law_k", "_law_name"]) ([none, none]) _ _ _ _ (defScope s_law) ["_law_script", "_law_many", "_law_names_here", "_law_parts", "_law_folders", "_law_rules", "_law_pairs", "_law_cut", "_law_left", "_law_at", "_law_pair", "_law_more"] ⟨rfl, by decide +kernel, by decide +kernel, by decide +kernel, rfl, by decide +kernel, by decide +kernel⟩ (@pi_enumL _ _ _ _ _ _ _ _ (by rfl) T.n_enumerate (@pa_cons _ _ _ _ _ (@pv _ 2 _ _ (by rfl) (by first   | exact Or.inl rfl   | exact Or.inr (Or.inl rfl)   | exact Or.inr (Or.inr rfl)) (by decide) (by decide)) (@pa_nil _) (by rfl)) (by rfl)) (fun _ _ _ _ _ _ => (@pg_tupK _ (K) _ _ _ _ (2) rfl rfl (@pgs_cons _ _ _ _ _ (@pg_name _ _ (0) _ (show (["_law_k", "_law_name"] : List Str).Nodup by decide +kernel) rfl (Or.inl rfl) (by first   | exact .inl rfl   | exact .inr rfl   | assumption)) (@pgs_cons _ _ _ _ _ (@pg_name _ _ (1) _ (show (["_law_k", "_law_name"] : List Str).Nodup by decide +kernel) rfl (Or.inl rfl) (by first   | exact .inl rfl   | exact .inr rfl   | assumption)) (@pgs_nil _) (by rfl)) (by rfl)) (by rfl) (by rfl))) (fun _ _ _ _ _ _ => @pts_nil _) (fun _ _ _ _ _ _ => (@pe_tup _ _ _ _ _ (@pa_cons _ _ _ _ _ (@pv _ 1 _ _ (by rfl) (by first   | exact Or.inl rfl   | exact Or.inr (Or.inl rfl)   | exact Or.inr (Or.inr rfl)) (by decide) (by decide)) (@pa_cons _ _ _ _ _ (@pe_op _ _ _ _ _ _ _ _ (@op_add_str _) (@pe_str _ _ _ _) (@pe_callTy _ _ _ _ _ _ _ _ _ (@call_str_int _) (by rfl) T.n_str boot_str (@pa_cons _ _ _ _ _ (@pv _ 0 _ _ (by rfl) (by first   | exact Or.inl rfl   | exact Or.inr (Or.inl rfl)   | exact Or.inr (Or.inr rfl)) (by decide) (by decide)) (@pa_nil _) (by rfl)) (by decide) (by decide) (by rfl) (by rfl))) (@pa_nil _) (by rfl)) (by rfl)))) (by rfl) (by rfl) (by rfl) (by intro _; rfl)) (@pa_nil _) (by rfl)) (by decide) (by decide) (by rfl) (by rfl)) (by rfl) (by first   | exact .inl rfl   | exact .inr rfl   | assumption)) (@pss_cons _ _ _ _ _ (@ps_set _ _ (5) _ _ _ _ sc_law.nd rfl (Or.inl rfl) (@pe_callTy _ _ _ _ _ _ _ _ _ (@call_tuple_of _) (by rfl) T.n_tuple boot_tuple (@pa_cons _ _ _ _ _ (@pe_comp _ _ _ _ _ _ _ (["_law_k"]) ([none]) _ _ _ _ (defScope s_law) ["_law_script", "_law_many", "_law_names_here", "_law_parts", "_law_folders", "_law_rules", "_law_pairs", "_law_cut", "_law_left", "_law_at", "_law_pair", "_law_more"] ⟨rfl, by decide +kernel, by decide +kernel, by decide +kernel, rfl, by decide +kernel, by decide +kernel⟩ (@pi_range1 _ _ _ _ _ _ (by rfl) T.n_range (@pa_cons _ _ _ _ _ (@pe_callB _ _ _ _ _ _ _ _ _ (@call_len_seq _) (by rfl) T.n_len PySem.boot_len (@pa_cons _ _ _ _ _ (@pv _ 2 _ _ (by rfl) (by first   | exact Or.inl rfl   | exact Or.inr (Or.inl rfl)   | exact Or.inr (Or.inr rfl)) (by decide) (by decide)) (@pa_nil _) (by rfl)) (by decide) (by decide) (by rfl) (by rfl)) (@pa_nil _) (by rfl)) (by rfl)) (fun _ _ _ _ _ _ => (@pg_name _ _ (0) _ (show (["_law_k"] : List Str).Nodup by decide +kernel) rfl (Or.inl rfl) (by first   | exact .inl rfl   | exact .inr rfl   | assumption))) (fun _ _ _ _ _ _ => @pts_nil _) (fun _ _ _ _ _ _ => (@pe_tup _ _ _ _ _ (@pa_cons _ _ _ _ _ (@pe_op _ _ _ _ _ _ _ _ (@op_add_str _) (@pe_str _ _ _ _) (@pe_callTy _ _ _ _ _ _ _ _ _ (@call_str_int _) (by rfl) T.n_str boot_str (@pa_cons _ _ _ _ _ (@pv _ 0 _ _ (by rfl) (by first   | exact Or.inl rfl   | exact Or.inr (Or.inl rfl)   | exact Or.inr (Or.inr rfl)) (by decide) (by decide)) (@pa_nil _) (by rfl)) (by decide) (by decide) (by rfl) (by rfl))) (@pa_cons _ _ _ _ _ (@pe_op _ _ _ _ _ _ _ _ (@op_add_str _) (@pe_str _ _ _ _) (@pe_callTy _ _ _ _ _ _ _ _ _ (@call_str_int _) (by rfl) T.n_str boot_str (@pa_cons _ _ _ _ _ (@pv _ 0 _ _ (by rfl) (by first   | exact Or.inl rfl   | exact Or.inr (Or.inl rfl)   | exact Or.inr (Or.inr rfl)) (by decide) (by decide)) (@pa_nil _) (by rfl)) (by decide) (by decide) (by rfl) (by rfl))) (@pa_nil _) (by rfl)) (by rfl)))) (by rfl) (by rfl) (by rfl) (by intro _; rfl)) (@pa_nil _) (by rfl)) (by decide) (by decide) (by rfl) (by rfl)) (by rfl) (by first   | exact .inl rfl   | exact .inr rfl   | assumption)) (@pss_cons _ _ _ _ _ (@ps_set _ _ (6) _ _ _ _ sc_law.nd rfl (Or.inl rfl) (@pe_fn _ _ _ _ _ _ _ _ _ _ _ C_law_pairs_of hr (by rfl) (@pa_cons _ _ _ _ _ (@pv _ 3 _ _ (by rfl) (by first   | exact Or.inl rfl   | exact Or.inr (Or.inl rfl)   | exact Or.inr (Or.inr rfl)) (by decide) (by decide)) (@pa_nil _) (by rfl)) (by decide) (by decide) (by rfl) (by rfl)) (by rfl) (by first   | exact .inl rfl   | exact .inr rfl   | assumption)) (@pss_cons _ _ _ _ _ (@ps_if _ _ _ _ _ _ _ _ (@pt_not _ _ _ _ (@pt_val _ _ _ (@pe_fn _ _ _ _ _ _ _ _ _ _ _ C_law_rounds hr (by rfl) (@pa_cons _ _ _ _ _ (@pe_fn _ _ _ _ _ _ _ _ _ _ _ C_broken hr (by rfl) (@pa_cons _ _ _ _ _ (@pv _ 3 _ _ (by rfl) (by first   | exact Or.inl rfl   | exact Or.inr (Or.inl rfl)   | exact Or.inr (Or.inr rfl)) (by decide) (by decide)) (@pa_cons _ _ _ _ _ (@pv _ 4 _ _ (by rfl) (by first   | exact Or.inl rfl   | exact Or.inr (Or.inl rfl)   | exact Or.inr (Or.inr rfl)) (by decide) (by decide)) (@pa_cons _ _ _ _ _ (@pv _ 5 _ _ (by rfl) (by first   | exact Or.inl rfl   | exact Or.inr (Or.inl rfl)   | exact Or.inr (Or.inr rfl)) (by decide) (by decide)) (@pa_nil _) (by rfl)) (by rfl)) (by rfl)) (by decide) (by decide) (by rfl) (by rfl)) (@pa_cons _ _ _ _ _ (@pv _ 2 _ _ (by rfl) (by first   | exact Or.inl rfl   | exact Or.inr (Or.inl rfl)   | exact Or.inr (Or.inr rfl)) (by decide) (by decide)) (@pa_cons _ _ _ _ _ (@pv _ 6 _ _ (by rfl) (by first   | exact Or.inl rfl   | exact Or.inr (Or.inl rfl)   | exact Or.inr (Or.inr rfl)) (by decide) (by decide)) (@pa_nil _) (by rfl)) (by rfl)) (by rfl)) (by decide) (by decide) (by rfl) (by rfl)) (by intro _; rfl))) (@pss_one _ _ _ (@ps_ret _ _ _ _ (@pe_bl _ _ _ _))) (@pss_nil _)) (@pss_cons _ _ _ _ _ (@ps_set _ _ (7) _ _ _ _ sc_law.nd rfl (Or.inl rfl) (@pe_fn _ _ _ _ _ _ _ _ _ _ _ C_fewest hr (by rfl) (@pa_cons _ _ _ _ _ (@pv _ 3 _ _ (by rfl) (by first   | exact Or.inl rfl   | exact Or.inr (Or.inl rfl)   | exact Or.inr (Or.inr rfl)) (by decide) (by decide)) (@pa_nil _) (by rfl)) (by decide) (by decide) (by rfl) (by rfl)) (by rfl) (by first   | exact .inl rfl   | exact .inr rfl   | assumption)) (@pss_cons _ _ _ _ _ (@ps_if _ _ _ _ _ _ _ _ (@pt_not _ _ _ _ (@pt_val _ _ _ (@pe_fn _ _ _ _ _ _ _ _ _ _ _ C_law_is_cut hr (by rfl) (@pa_cons _ _ _ _ _ (@pv _ 7 _ _ (by rfl) (by first   | exact Or.inl rfl   | exact Or.inr (Or.inl rfl)   | exact Or.inr (Or.inr rfl)) (by decide) (by decide)) (@pa_cons _ _ _ _ _ (@pv _ 6 _ _ (by rfl) (by first   | exact Or.inl rfl   | exact Or.inr (Or.inl rfl)   | exact Or.inr (Or.inr rfl)) (by decide) (by decide)) (@pa_nil _) (by rfl)) (by rfl)) (by decide) (by decide) (by rfl) (by rfl)) (by intro _; rfl))) (@pss_one _ _ _ (@ps_ret _ _ _ _ (@pe_bl _ _ _ _))) (@pss_nil _)) (@pss_cons _ _ _ _ _ (@ps_set _ _ (8) _ _ _ _ sc_law.nd rfl (Or.inl rfl) (@pe_fn _ _ _ _ _ _ _ _ _ _ _ C_law_without hr (by rfl) (@pa_cons _ _ _ _ _ (@pv _ 3 _ _ (by rfl) (by first   | exact Or.inl rfl   | exact Or.inr (Or.inl rfl)   | exact Or.inr (Or.inr rfl)) (by decide) (by decide)) (@pa_cons _ _ _ _ _ (@pv _ 7 _ _ (by rfl) (by first   | exact Or.inl rfl   | exact Or.inr (Or.inl rfl)   | exact Or.inr (Or.inr rfl)) (by decide) (by decide)) (@pa_nil _) (by rfl)) (by rfl)) (by decide) (by decide) (by rfl) (by rfl)) (by rfl) (by first   | exact .inl rfl   | exact .inr rfl   | assumption)) (@pss_cons _ _ _ _ _ (@ps_if _ _ _ _ _ _ _ _ (PW.pt (@pw_or _ _ _ _ _ _ _ (@pt_cmpR _ _ _ _ _ _ _ _ (@op_neD _ 2 hu4) (@pe_fn _ _ _ _ _ _ _ _ _ _ _ C_tangles hr (by rfl) (@pa_cons _ _ _ _ _ (@pv _ 8 _ _ (by rfl) (by first   | exact Or.inl rfl   | exact Or.inr (Or.inl rfl)   | exact Or.inr (Or.inr rfl)) (by decide) (by decide)) (@pa_nil _) (by rfl)) (by decide) (by decide) (by rfl) (by rfl)) (@pe_callTy _ _ _ _ _ _ _ _ _ (@call_tuple_of _) (by rfl) T.n_tuple boot_tuple (@pa_cons _ _ _ _ _ (@pe_comp _ _ _ _ _ _ _ (["_law_name"]) ([none]) _ _ _ _ (defScope s_law) ["_law_script", "_law_many", "_law_names_here", "_law_parts", "_law_folders", "_law_rules", "_law_pairs", "_law_cut", "_law_left", "_law_at", "_law_pair", "_law_more"] ⟨rfl, by decide +kernel, by decide +kernel, by decide +kernel, rfl, by decide +kernel, by decide +kernel⟩ (@pi_list _ _ _ _ (@pv _ 2 _ _ (by rfl) (by first   | exact Or.inl rfl   | exact Or.inr (Or.inl rfl)   | exact Or.inr (Or.inr rfl)) (by decide) (by decide))) (fun _ _ _ _ _ _ => (@pg_name _ _ (0) _ (show (["_law_name"] : List Str).Nodup by decide +kernel) rfl (Or.inl rfl) (by first   | exact .inl rfl   | exact .inr rfl   | assumption))) (fun _ _ _ _ _ _ => @pts_nil _) (fun _ _ _ _ _ _ => (@pe_tup _ _ _ _ _ (@pa_cons _ _ _ _ _ (@pv _ 0 _ _ (by rfl) (by first   | exact Or.inl rfl   | exact Or.inr (Or.inl rfl)   | exact Or.inr (Or.inr rfl)) (by decide) (by decide)) (@pa_nil _) (by rfl)))) (by rfl) (by rfl) (by rfl) (by intro _; rfl)) (@pa_nil _) (by rfl)) (by decide) (by decide) (by rfl) (by rfl)) (nomark _)) (@pw_or1 _ _ _ _ (@pt_cmpR _ _ _ _ _ _ _ _ (@op_neD _ 2 hu4) (@pe_fn _ _ _ _ _ _ _ _ _ _ _ C_broken hr (by rfl) (@pa_cons _ _ _ _ _ (@pv _ 8 _ _ (by rfl) (by first   | exact Or.inl rfl   | exact Or.inr (Or.inl rfl)   | exact Or.inr (Or.inr rfl)) (by decide) (by decide)) (@pa_cons _ _ _ _ _ (@pv _ 4 _ _ (by rfl) (by first   | exact Or.inl rfl   | exact Or.inr (Or.inl rfl)   | exact Or.inr (Or.inr rfl)) (by decide) (by decide)) (@pa_cons _ _ _ _ _ (@pv _ 5 _ _ (by rfl) (by first   | exact Or.inl rfl   | exact Or.inr (Or.inl rfl)   | exact Or.inr (Or.inr rfl)) (by decide) (by decide)) (@pa_nil _) (by rfl)) (by rfl)) (by rfl)) (by decide) (by decide) (by rfl) (by rfl)) (@pe_tup _ _ _ _ _ (@pa_nil _)) (nomark _))))) (@pss_one _ _ _ (@ps_ret _ _ _ _ (@pe_bl _ _ _ _))) (@pss_nil _)) (@pss_cons _ _ _ _ _ (@ps_if _ _ _ _ _ _ _ _ (@pt_cmpR _ _ _ _ _ _ _ _ (@op_neD _ 2 hu4) (@pe_fn _ _ _ _ _ _ _ _ _ _ _ C_fewest hr (by rfl) (@pa_cons _ _ _ _ _ (@pv _ 8 _ _ (by rfl) (by first   | exact Or.inl rfl   | exact Or.inr (Or.inl rfl)   | exact Or.inr (Or.inr rfl)) (by decide) (by decide)) (@pa_nil _) (by rfl)) (by decide) (by decide) (by rfl) (by rfl)) (@pe_tup _ _ _ _ _ (@pa_nil _)) (nomark _)) (@pss_one _ _ _ (@ps_ret _ _ _ _ (@pe_bl _ _ _ _))) (@pss_nil _)) (@pss_cons _ _ _ _ _ (@ps_set _ _ (9) _ _ _ _ sc_law.nd rfl (Or.inl rfl) (@pe_op _ _ _ _ _ _ _ _ (@op_mod _) (@pe_fn _ _ _ _ _ _ _ _ _ _ _ C_law_mixed hr (by rfl) (@pa_cons _ _ _ _ _ (@pe_fn _ _ _ _ _ _ _ _ _ _ _ C_law_cell_at hr (by rfl) (@pa_cons _ _ _ _ _ (@pv _ 0 _ _ (by rfl) (by first   | exact Or.inl rfl   | exact Or.inr (Or.inl rfl)   | exact Or.inr (Or.inr rfl)) (by decide) (by decide)) (@pa_cons _ _ _ _ _ (@pe_int _ _ _ _) (@pa_nil _) (by rfl)) (by rfl)) (by decide) (by decide) (by rfl) (by rfl)) (@pa_cons _ _ _ _ _ (@pe_int _ _ _ _) (@pa_cons _ _ _ _ _ (@pe_int _ _ _ _) (@pa_nil _) (by rfl)) (by rfl)) (by rfl)) (by decide) (by decide) (by rfl) (by rfl)) (@pe_callB _ _ _ _ _ _ _ _ _ (@call_max2 _ rfl) (by rfl) T.n_max boot_max (@pa_cons _ _ _ _ _ (@pe_int _ _ _ _) (@pa_cons _ _ _ _ _ (@pe_callB _ _ _ _ _ _ _ _ _ (@call_len_seq _) (by rfl) T.n_len PySem.boot_len (@pa_cons _ _ _ _ _ (@pv _ 7 _ _ (by rfl) (by first   | exact Or.inl rfl   | exact Or.inr (Or.inl rfl)   | exact Or.inr (Or.inr rfl)) (by decide) (by decide)) (@pa_nil _) (by rfl)) (by decide) (by decide) (by rfl) (by rfl)) (@pa_nil _) (by rfl)) (by rfl)) (by decide) (by decide) (by rfl) (by rfl))) (by rfl) (by first   | exact .inl rfl   | exact .inr rfl   | assumption)) (@pss_cons _ _ _ _ _ (@ps_for _ _ _ _ _ _ _ _ PassesOwn.never rfl (@pi_tup _ _ _ _ (@pe_slice _ _ _ _ _ _ _ _ _ _ sl_tupA (@pv _ 7 _ _ (by rfl) (by first   | exact Or.inl rfl   | exact Or.inr (Or.inl rfl)   | exact Or.inr (Or.inr rfl)) (by decide) (by decide)) (@po_some _ _ _ (@pv _ 9 _ _ (by rfl) (by first   | exact Or.inl rfl   | exact Or.inr (Or.inl rfl)   | exact Or.inr (Or.inr rfl)) (by decide) (by decide))) (@po_some _ _ _ (@pe_op _ _ _ _ _ _ _ _ (@op_add _) (@pv _ 9 _ _ (by rfl) (by first   | exact Or.inl rfl   | exact Or.inr (Or.inl rfl)   | exact Or.inr (Or.inr rfl)) (by decide) (by decide)) (@pe_int _ _ _ _))))) (@pg_name _ _ (10) _ sc_law.nd rfl (Or.inr rfl) (by first   | exact .inl rfl   | exact .inr rfl   | assumption)) (@pss_cons _ _ _ _ _ (@ps_set _ _ (11) _ _ _ _ sc_law.nd rfl (Or.inl rfl) (@pe_fn _ _ _ _ _ _ _ _ _ _ _ C_law_without hr (by rfl) (@pa_cons _ _ _ _ _ (@pv _ 3 _ _ (by rfl) (by first   | exact Or.inl rfl   | exact Or.inr (Or.inl rfl)   | exact Or.inr (Or.inr rfl)) (by decide) (by decide)) (@pa_cons _ _ _ _ _ (@pe_comp _ _ _ _ _ _ _ (["_law_other_here", "_law_pair"]) ([none, some 10]) _ _ _ _ (defScope s_law) ["_law_script", "_law_many", "_law_names_here", "_law_parts", "_law_folders", "_law_rules", "_law_pairs", "_law_cut", "_law_left", "_law_at", "_law_pair", "_law_more"] ⟨rfl, by decide +kernel, by decide +kernel, by decide +kernel, rfl, by decide +kernel, by decide +kernel⟩ (@pi_tup _ _ _ _ (@pv _ 7 _ _ (by rfl) (by first   | exact Or.inl rfl   | exact Or.inr (Or.inl rfl)   | exact Or.inr (Or.inr rfl)) (by decide) (by decide))) (fun _ _ _ _ _ _ => (@pg_name _ _ (0) _ (show (["_law_other_here", "_law_pair"] : List Str).Nodup by decide +kernel) rfl (Or.inl rfl) (by first   | exact .inl rfl   | exact .inr rfl   | assumption))) (fun _ _ _ _ _ _ => (@pts_one _ _ _ (@pt_cmpR _ _ _ _ _ _ _ _ (@op_neP _ hu) (@pv _ 0 _ _ (by rfl) (by first   | exact Or.inl rfl   | exact Or.inr (Or.inl rfl)   | exact Or.inr (Or.inr rfl)) (by decide) (by decide)) (@pv _ 1 _ _ (by rfl) (by first   | exact Or.inl rfl   | exact Or.inr (Or.inl rfl)   | exact Or.inr (Or.inr rfl)) (by decide) (by decide)) (nomark _)))) (fun _ _ _ _ _ _ => (@pv _ 0 _ _ (by rfl) (by first   | exact Or.inl rfl   | exact Or.inr (Or.inl rfl)   | exact Or.inr (Or.inr rfl)) (by decide) (by decide))) (by rfl) (by rfl) (by rfl) (by intro _; rfl)) (@pa_nil _) (by rfl)) (by rfl)) (by decide) (by decide) (by rfl) (by rfl)) (by rfl) (by first   | exact .inl rfl   | exact .inr rfl   | assumption)) (@pss_one _ _ _ (@ps_if _ _ _ _ _ _ _ _ (PW.pt (@pw_or _ _ _ _ _ _ _ (@pt_cmpR _ _ _ _ _ _ _ _ (@op_eqT_nil _ hu0) (@pe_fn _ _ _ _ _ _ _ _ _ _ _ C_broken hr (by rfl) (@pa_cons _ _ _ _ _ (@pv _ 11 _ _ (by rfl) (by first   | exact Or.inl rfl   | exact Or.inr (Or.inl rfl)   | exact Or.inr (Or.inr rfl)) (by decide) (by decide)) (@pa_cons _ _ _ _ _ (@pv _ 4 _ _ (by rfl) (by first   | exact Or.inl rfl   | exact Or.inr (Or.inl rfl)   | exact Or.inr (Or.inr rfl)) (by decide) (by decide)) (@pa_cons _ _ _ _ _ (@pv _ 5 _ _ (by rfl) (by first   | exact Or.inl rfl   | exact Or.inr (Or.inl rfl)   | exact Or.inr (Or.inr rfl)) (by decide) (by decide)) (@pa_nil _) (by rfl)) (by rfl)) (by rfl)) (by decide) (by decide) (by rfl) (by rfl)) (@pe_tup _ _ _ _ _ (@pa_nil _)) (nomark _)) (@pw_or1 _ _ _ _ (@pt_cmpR _ _ _ _ _ _ _ _ (@op_ne _) (@pe_callB _ _ _ _ _ _ _ _ _ (@call_len_seq _) (by rfl) T.n_len PySem.boot_len (@pa_cons _ _ _ _ _ (@pe_fn _ _ _ _ _ _ _ _ _ _ _ C_fewest hr (by rfl) (@pa_cons _ _ _ _ _ (@pv _ 11 _ _ (by rfl) (by first   | exact Or.inl rfl   | exact Or.inr (Or.inl rfl)   | exact Or.inr (Or.inr rfl)) (by decide) (by decide)) (@pa_nil _) (by rfl)) (by decide) (by decide) (by rfl) (by rfl)) (@pa_nil _) (by rfl)) (by decide) (by decide) (by rfl) (by rfl)) (@pe_int _ _ _ _) (nomark _))))) (@pss_one _ _ _ (@ps_ret _ _ _ _ (@pe_bl _ _ _ _))) (@pss_nil _)))) (by intro _; rfl)) (@pss_one _ _ _ (@ps_ret _ _ _ _ (@pe_bl _ _ _ _)))))))))))))))))), ?_⟩
   refine ⟨_, rfl, a, ns, 1, rfl, hS, by decide, fun c => ⟨_, _, rfl, rfl, (by show (0 : Int) < 6; decide), _, _, rfl, rfl, ?_⟩⟩
   refine g_if_any (Pv := One8) (fun Q' h => ⟨_, rfl, a, ns, 1, rfl, hS, by decide, fun c1 => ⟨_, _, rfl, rfl, ⟨by decide, by decide⟩, _, _, rfl, rfl, (by show (0 : Int) < 8; decide), rfl, _, rfl, h _⟩⟩) (fun Q' h => ⟨_, rfl, a, ns, 1, rfl, hS, by decide, fun c1 => ⟨_, _, rfl, rfl, ⟨by decide, by decide⟩, _, _, rfl, rfl, (by show (0 : Int) < 2; decide), _, _, rfl, rfl, h _ ⟨_, rfl, by omega, by omega⟩⟩⟩) ⟨_, rfl, by omega, by omega⟩ ?_
   rintro _ ⟨n, rfl, hn1, hn2⟩
   refine ⟨_, rfl, a, ns, 0, rfl, hS, by decide, fun c0 => ⟨_, rfl, c0, n, rfl, hn1, by omega, fun nl nms H1 s1 _ hnl hnml hnd => ?_⟩⟩
   have hS1 : SqL K H1 a (ns.map V.int) := s1.seq hS
   have hN8 : 1 ≤ nms.length ∧ nms.length ≤ 8 := by omega
   refine ⟨_, rfl, _, rfl, _, rfl, a, ns, 2, rfl, hS1, by decide, fun d => ⟨_, _, rfl, rfl, (by show (0 : Int) < 6; decide), a, ns, d % 6, nl, nms, rfl, hS1, hlen, hnl, by omega, by omega, hnd, fun x ps H2 s2 hpf hnm hfit hinS => ?_⟩⟩
   have hcl := closedB_of hnm hnd fun pt hpt r hr => (hinS pt hpt r hr).1
   have hns : ∀ n ∈ ps.map (·.1), n ∉ k1 ps n := fun n hn => no_self hnm hnd hinS hn
   have hnl2 := s2 _ _ hnl
   have hS2 : SqL K H2 a (ns.map V.int) := s2.seq hS1
   refine ⟨_, rfl, nl, rfl, ⟨_, SqL.of hnl2⟩, fun D gD => ?_⟩
   refine comp_by nms.length (fun j σ H3 => ∃ (v0 v1 : Option V) (us : List V), σ = [v0, v1] ∧ Same H2 H3 ∧ H3 D = some (.lst us) ∧ Paired (FAt H3) us (flN nms j)) ⟨_, _, [], rfl, (Same.refl H2).new gD, upd_same, .nil⟩ ?_ ?_
   · rintro j σ H3 hj ⟨v0, v1, us, rfl, s3, hD3, hus⟩
     have hnj : nms[j]? = some nms[j] := by simp [hj]
     refine ⟨⟨_, .str nms[j], SqL.of (s3 _ _ hnl2), by simp [hj]⟩, ?_⟩
     rintro y H4 ⟨p, v, hv, gp, rfl, rfl⟩
     have ev : v = .str nms[j] := Option.some.inj ((hv _ (SqL.of (s3 _ _ hnl2))).symm.trans (by rw [List.getElem?_map, hnj]; rfl))
     subst ev
     have s4 : Same H3 (upd H3 p (.tup [.int (j : Int), .str nms[j]])) := (Same.refl H3).new gp
     refine ⟨p, _, rfl, SqT.of upd_same, rfl, _, _, rfl, _, _, rfl, rfl, nt ?_⟩
     refine ⟨_, rfl, _, rfl, _, rfl, log_small (by omega), _, _, rfl, rfl, One_len (by omega), (by show 2 ≤ sizeLine; decide), fun t gt => ?_⟩
     have s5 := s4.new (o := .tup [.str nms[j], .str (fS j)]) gt
     have hD5 := s5 _ _ hD3
     have T6 := Tups.lst (ys := us ++ [.ref t]) hD5
     have hul : us.length = j := by rw [Paired.length hus]; unfold flN; rw [List.length_map, List.length_range]
     refine ⟨us, hD5, small1000 (by omega), _, _, us ++ [.ref t], rfl, (s3.trans s5).put gD, upd_same, ?_⟩
     have e : flN nms (j + 1) = flN nms j ++ [(nms[j], fS j)] := by
       unfold flN
       rw [List.range_succ, List.map_append]
       show _ ++ [(nms.getD j "", fS j)] = _
       rw [List.getD_eq_getElem?_getD, hnj]
       rfl
     rw [e]
     exact Paired.snoc (Paired.mapP hus fun _ _ z => FAt.mono (s5.tups.trans T6) z) ⟨t, rfl, T6 _ _ upd_same⟩
   rintro σ H3 ⟨v0, v1, fous, rfl, s3, hD3, hfous⟩
   refine ⟨⟨_, SqL.of (s3 _ _ hnl2), by simp⟩, ?_⟩
   refine ⟨D, _, rfl, .inl ⟨SqL.of hD3, fun fo gfo => ?_⟩⟩
   have s4 : Same H3 (upd H3 fo (.tup fous)) := (Same.refl H3).new gfo
   have hfo4 : upd H3 fo (.tup fous) fo = some (.tup fous) := upd_same
   have hfous4 : Paired (FAt (upd H3 fo (.tup fous))) fous (flN nms nms.length) := Paired.mapP hfous fun _ _ z => FAt.mono s4.tups z
   generalize upd H3 fo (.tup fous) = H4 at s4 hfo4 hfous4 ⊢
   have s24 := s3.trans s4
   have hnl4 := s24 _ _ hnl2
   refine ⟨_, rfl, nl, _, rfl, .inl (SqL.of hnl4), _, rfl, by rw [List.length_map]; omega, by rw [List.length_map]; omega, fun D2 gD2 => ?_⟩
   rw [show ((((nms.map V.str).length : Nat) : Int)).toNat = nms.length by rw [List.length_map]; omega]
   refine comp_by nms.length (fun j σ H5 => ∃ (v0 : Option V) (us : List V), σ = [v0] ∧ Same H4 H5 ∧ H5 D2 = some (.lst us) ∧ Paired (FAt H5) us (rlN j)) ⟨_, [], rfl, (Same.refl H4).new gD2, upd_same, .nil⟩ ?_ ?_
   · rintro j σ H5 hj ⟨v0, us, rfl, s5, hD5, hus⟩
     refine ⟨hj, ?_⟩
     rintro y H6 ⟨rfl, rfl⟩
     refine ntG ?_
     rw [Int.zero_add]
     refine ⟨_, rfl, _, rfl, log_small (by omega), _, _, rfl, rfl, One_len (by omega), _, rfl, _, rfl, log_small (by omega), _, _, rfl, rfl, One_len (by omega), (by show 2 ≤ sizeLine; decide), fun t gt => ?_⟩
     have s6 := (Same.refl H6).new (o := .tup [.str (fS j), .str (fS j)]) gt
     have hD6 := s6 _ _ hD5
     have T6 := Tups.lst (ys := us ++ [.ref t]) hD6
     have hul : us.length = j := by rw [Paired.length hus]; unfold rlN; rw [List.length_map, List.length_range]
     refine ⟨us, hD6, small1000 (by omega), _, us ++ [.ref t], rfl, (s5.trans s6).put gD2, upd_same, ?_⟩
     have e : rlN (j + 1) = rlN j ++ [(fS j, fS j)] := by
       unfold rlN
       rw [List.range_succ, List.map_append]
       rfl
     rw [e]
     exact Paired.snoc (Paired.mapP hus fun _ _ z => FAt.mono (s6.tups.trans T6) z) ⟨t, rfl, T6 _ _ upd_same⟩
   rintro σ H5 ⟨v0, rus, rfl, s5, hD5, hrus⟩
   refine ⟨Nat.le_refl _, ?_⟩
   refine ⟨D2, _, rfl, .inl ⟨SqL.of hD5, fun ru gru => ?_⟩⟩
   have s6 : Same H5 (upd H5 ru (.tup rus)) := (Same.refl H5).new gru
   have hru6 : upd H5 ru (.tup rus) ru = some (.tup rus) := upd_same
   have hrus6 : Paired (FAt (upd H5 ru (.tup rus))) rus (rlN nms.length) := Paired.mapP hrus fun _ _ z => FAt.mono s6.tups z
   generalize upd H5 ru (.tup rus) = H6 at s6 hru6 hrus6 ⊢
   have s46 := s5.trans s6
   have s26 := s24.trans s46
   have hfo6 := s46 _ _ hfo4
   have hfous6 : Paired (FAt H6) fous (flN nms nms.length) := Paired.mapP hfous4 fun _ _ z => FAt.mono s46.tups z
   have hnl6 := s26 _ _ hnl2
   have hpf6 := s26.partsF hpf
   have hS6 : SqL K H6 a (ns.map V.int) := s26.seq hS2
   have hfl24 : (flN nms nms.length).length ≤ 24 := by unfold flN; rw [List.length_map, List.length_range]; omega
   have hrl10 : (rlN nms.length).length ≤ 10 := by unfold rlN; rw [List.length_map, List.length_range]; omega
   have hflN : ∀ {ps' : List Pt}, ps'.map (·.1) = nms → ∀ z ∈ flN nms nms.length, z.1 ∈ ps'.map (·.1) := fun e z hz => by
     rw [e]
     obtain ⟨k, hk, ez⟩ := List.mem_map.mp hz
     rw [← ez]
     exact getD_in (List.mem_range.mp hk)
   clear hfous hrus hD3 hD5 hfous4 hnl4 hnl2 hnl
   refine ⟨_, rfl, x, ps, rfl, hpf6, hfit, fun pl pws H7 s7 hpl7 hpws => ?_⟩
   have hpws' : Paired (TS2 H7) pws (PpOf ps) := hpws
   have hNps : (ps.map (·.1)).length ≤ 8 := by rw [hnm]; omega
   have hpwl : pws.length ≤ 600 := by
     rw [Paired.length hpws]
     exact Nat.le_trans (pairsOf_len _) (Nat.le_trans (Nat.mul_le_mul hNps hNps) (by decide))
   refine to_g ?_
   refine ⟨_, rfl, _, rfl, _, rfl, x, fo, ru, ps, fous, rus, flN nms nms.length, rlN nms.length, rfl, s7.partsF hpf6, hfit, hcl, s7 _ _ hfo6, Paired.mapP hfous6 (fun _ _ z => FAt.mono s7.tups z), hfl24, hflN hnm, s7 _ _ hru6, Paired.mapP hrus6 (fun _ _ z => FAt.mono s7.tups z), hrl10, fun bp zs al H8 s8 hbp hzs hal => ?_⟩
   have hAns := ans_of (by omega) hal
   have hAnsR : Paired (AnsR (PpOf ps)) nms al := by
     have : ∀ {N : List Str} {al : List (List Str)}, (∀ n ∈ N, n ∈ ps.map (·.1)) → Paired (fun n w => Ans (k1 ps) [n] [n] w) N al → Paired (AnsR (PpOf ps)) N al := fun {N al} hN hp => by
       induction hp with
       | nil => exact .nil
       | cons h _ ih => exact .cons (ansR_of hcl (hN _ List.mem_cons_self) (hns _ (hN _ List.mem_cons_self)) h) (ih fun n hn => hN n (List.mem_cons_of_mem _ hn))
     exact this (fun n hn => by rw [hnm]; exact hn) hAns
   have s68 := s7.trans s8
   refine ⟨_, rfl, _, rfl, bp, nl, pl, zs, pws, al, nms, PpOf ps, rfl, hbp, hzs, s68 _ _ hnl6, by omega, s8 _ _ hpl7, Paired.mapP hpws' (fun _ _ z => ts2_tups s8.tups z), PpOf_nodup hfit.nd, fun c hc => by rw [← hnm]; exact (mem_PpOf.mp hc).2.1, hpwl, hAnsR, fun H9 s9 => ⟨_, rfl, iteF ?_⟩⟩
   have s69 := s68.trans s9
   have h8 := small8 hfit.nd hNps
   refine ⟨_, rfl, x, ps, rfl, s69.partsF hpf6, hfit, hcl, h8, fun p fus css H10 s10 hp hfus hcss => ?_⟩
   obtain ⟨hCn, hCm, ρ, hρ⟩ := all_facts hfit.nd hcss
   have hfl : (pairsOf (ps.map (·.1)) fun a b => decide ((a, b) ∈ css.flatten)).length = css.flatten.length := cut_count hfit.nd hCn fun c hc => ⟨(hCm c hc).1, (hCm c hc).2.1⟩
   have s610 := s69.trans s10
   have hpl10 := s10 _ _ (s9 _ _ (s8 _ _ hpl7))
   have hpws10 : Paired (TS2 H10) pws (PpOf ps) := Paired.mapP hpws' fun _ _ z => ts2_tups ((s8.trans s9).trans s10).tups z
   refine to_g ?_
   refine ⟨_, rfl, _, rfl, p, pl, fus, pws, _, _, rfl, hp, hfus, hpl10, hpws10, cut_eq (fun c hc => decide_eq_true (hCm c hc).2.2), hpwl, fun H11 s11 => ⟨_, rfl, iteF ?_⟩⟩
   have hFm : ∀ c, c ∈ (pairsOf (ps.map (·.1)) fun a b => decide ((a, b) ∈ css.flatten)) ↔ c.1 ∈ ps.map (·.1) ∧ c.2 ∈ ps.map (·.1) ∧ c ∈ css.flatten := fun c => by
     rw [mem_pairsOf, decide_eq_true_iff]
   have hFn : (pairsOf (ps.map (·.1)) fun a b => decide ((a, b) ∈ css.flatten)).Nodup := pairsOf_nodup hfit.nd
   generalize (pairsOf (ps.map (·.1)) fun a b => decide ((a, b) ∈ css.flatten)) = FF at hfus hfl hFm hFn
   have s611 := s610.trans s11
   have hp11 := s11 _ _ hp
   have hfus11 : Paired (TS2 H11) fus FF := Paired.mapP hfus fun _ _ z => ts2_tups s11.tups z
   have hAc : Acyc (psW FF ps) := gone_acyc hfit.nd hcl hρ hFm
   refine ⟨_, rfl, _, rfl, x, p, ps, fus, FF, rfl, s611.partsF hpf6, hfit, .inr hp11, hfus11, fun x2 H12 s12 hpf2 => ?_⟩
   have hfit2 := psW_fit (G := FF) hfit
   have hcl2 := psW_closed (G := FF) hfit.nd hcl
   have hnm2 : (psW FF ps).map (·.1) = nms := (psW_names FF ps).trans hnm
   have h82 := small8 hfit2.nd (by rw [psW_names]; exact hNps)
   have hkn := acyc_knots hfit2.nd hcl2 hAc
   have s612 := s611.trans s12
   refine to_g ?_
   refine ⟨_, rfl, x2, psW FF ps, rfl, hpf2, hfit2, hcl2, fun tp tus H13 s13 htp htus => ?_⟩
   rw [hkn, hnm2] at htus
   have s613 := s612.trans s13
   have hnl13 := s613 _ _ hnl6
   refine ⟨_, rfl, nl, rfl, ⟨_, SqL.of hnl13⟩, fun D3 gD3 => ?_⟩
   refine comp_by nms.length (fun j σ H14 => ∃ (v0 : Option V) (us : List V), σ = [v0] ∧ Same H13 H14 ∧ H14 D3 = some (.lst us) ∧ Paired (TsAt H14) us ((nms.take j).map fun n => [n])) ⟨_, [], rfl, (Same.refl H13).new gD3, upd_same, by rw [List.take_zero]; exact .nil⟩ ?_ ?_
   · rintro j σ H14 hj ⟨v0, us, rfl, s14, hD14, hus⟩
     have hnj : nms[j]? = some nms[j] := by simp [hj]
     refine ⟨⟨_, .str nms[j], SqL.of (s14 _ _ hnl13), by simp [hj]⟩, ?_⟩
     rintro y H15 ⟨rfl, hy⟩
     have ey : y = .str nms[j] := Option.some.inj ((hy _ (SqL.of (s14 _ _ hnl13))).symm.trans (by rw [List.getElem?_map, hnj]; rfl))
     subst ey
     refine ntG ?_
     refine ⟨_, rfl, (by show 1 ≤ sizeLine; decide), fun t gt => ?_⟩
     have s15 := (Same.refl H15).new (o := .tup [.str nms[j]]) gt
     have hD15 := s15 _ _ hD14
     have T15 := Tups.lst (ys := us ++ [.ref t]) hD15
     have hul : us.length ≤ 8 := by rw [Paired.length hus, List.length_map, List.length_take]; omega
     refine ⟨us, hD15, small1000 (by omega), _, us ++ [.ref t], rfl, (s14.trans s15).put gD3, upd_same, ?_⟩
     rw [take_succ_get hnj, List.map_append]
     exact Paired.snoc (Paired.mapP hus fun _ _ z => by obtain ⟨t', e', h'⟩ := z; exact ⟨t', e', (s15.tups.trans T15) _ _ h'⟩) ⟨t, rfl, T15 _ _ upd_same⟩
   rintro σ H14 ⟨v0, ous, rfl, s14, hD14, hous⟩
   refine ⟨⟨_, SqL.of (s14 _ _ hnl13), by simp⟩, ?_⟩
   rw [List.take_length] at hous
   refine ⟨D3, _, rfl, .inl ⟨SqL.of hD14, fun tp2 gtp2 => ?_⟩⟩
   have s15 : Same H14 (upd H14 tp2 (.tup ous)) := (Same.refl H14).new gtp2
   have htp2 : upd H14 tp2 (.tup ous) tp2 = some (.tup ous) := upd_same
   have hous15 : Paired (TsAt (upd H14 tp2 (.tup ous))) ous (nms.map fun n => [n]) := Paired.mapP hous fun _ _ z => by obtain ⟨t', e', h'⟩ := z; exact ⟨t', e', s15 _ _ h'⟩
   generalize upd H14 tp2 (.tup ous) = H15 at s15 htp2 hous15 ⊢
   have s1315 := s14.trans s15
   refine ⟨tp, tp2, tus, ous, rfl, rfl, SqT.of (s1315 _ _ htp), SqT.of htp2, eq_ones (Paired.mapP htus fun _ _ z => by obtain ⟨t', e', h'⟩ := z; exact ⟨t', e', s1315 _ _ h'⟩) hous15, _, rfl, iteF ?_⟩
   have s615 := s613.trans s1315
   have s1215 := s13.trans s1315
   refine ⟨_, rfl, _, rfl, _, rfl, x2, fo, ru, psW FF ps, fous, rus, flN nms nms.length, rlN nms.length, rfl, s1215.partsF hpf2, hfit2, hcl2, s615 _ _ hfo6, Paired.mapP hfous6 (fun _ _ z => FAt.mono s615.tups z), hfl24, hflN hnm2, s615 _ _ hru6, Paired.mapP hrus6 (fun _ _ z => FAt.mono s615.tups z), hrl10, fun bp2 zs2 al2 H16 s16 hbp2 hzs2 hal2 => ?_⟩
   have hAns2 := ans_of (by omega) hal2
   have hal2n : ∀ w ∈ al2, w = [] := fun w hw => by
     obtain ⟨i, hi⟩ := List.getElem?_of_mem hw
     obtain ⟨n', hn', ha⟩ := Paired.get?' hAns2 hi
     rcases ha with ⟨h1, _⟩ | ⟨t, y, hb, hw', hy, _⟩
     · exact h1
     · exfalso
       obtain ⟨s', hs', y', hy', hk⟩ := hb.has
       rw [List.mem_singleton.mp hs', List.mem_singleton.mp hy'] at hk
       exact acyc_noway hcl2 hAc (by rw [hnm2]; exact List.mem_of_getElem? hn') ⟨t, hb.pos, hk⟩
   rw [outs_nil 0 hal2n] at hzs2
   have hz2 : zs2 = [] := by cases hzs2; rfl
   subst hz2
   refine ⟨(by show 0 ≤ sizeLine; decide), fun e1 ge1 => ⟨bp2, e1, _, _, rfl, rfl, SqT.of (upd_keep hbp2 ge1), SqT.of upd_same, .nil, _, rfl, iteF ?_⟩⟩
   have s17 : Same H16 (upd H16 e1 (.tup [])) := (Same.refl H16).new ge1
   generalize upd H16 e1 (.tup []) = H17 at s17 ⊢
   have s617 := (s615.trans s16).trans s17
   have s1217 := (s1215.trans s16).trans s17
   refine ⟨_, rfl, x2, psW FF ps, rfl, s1217.partsF hpf2, hfit2, hcl2, h82, fun fp fus2 css2 H18 s18 hfp hfus2 hcss2 => ?_⟩
   have hc2 := acyc_few hfit2 hcl2 hAc hcss2 h82
   have hf2 : fus2 = [] := by
     have e := Paired.length hfus2
     rw [hc2] at e
     have e2 : (pairsOf ((psW FF ps).map (·.1)) fun a b => decide ((a, b) ∈ ([] : List (Str × Str)))) = [] := by
       refine List.eq_nil_iff_forall_not_mem.mpr fun c hc => ?_
       have := (mem_pairsOf.mp hc).2.2
       simp at this
     rw [e2] at e
     exact List.eq_nil_of_length_eq_zero e
   subst hf2
   refine ⟨(by show 0 ≤ sizeLine; decide), fun e2 ge2 => ⟨fp, e2, _, _, rfl, rfl, SqT.of (upd_keep hfp ge2), SqT.of upd_same, .nil, _, rfl, iteF ?_⟩⟩
   have s19 : Same H18 (upd H18 e2 (.tup [])) := (Same.refl H18).new ge2
   generalize upd H18 e2 (.tup []) = H19 at s19 ⊢
   have s619 := (s617.trans s18).trans s19
   have s1119 : Same H11 H19 := (((s12.trans s1217).trans s18).trans s19)
   have hp19 := s1119 _ _ hp11
   have hfus19 : Paired (TS2 H19) fus FF := Paired.mapP hfus11 fun _ _ z => ts2_tups s1119.tups z
   have hpf19 := s619.partsF hpf6
   refine ⟨_, rfl, a, ns, 1, rfl, s619.seq hS6, by decide, fun c1 => ⟨c1, 3, 65519, rfl, by decide, by decide, by decide, ?_⟩⟩
   generalize mixM c1 3 65519 = mx
   refine ⟨_, rfl, p, _, rfl, .inr (SqT.of hp19), _, _, rfl, _, _, rfl, rfl, (by split <;> omega), ?_⟩
   refine ⟨_, rfl, _, rfl, _, rfl, _, rfl, _, _, rfl, rfl, _, rfl, slA_any hp19 fun qa ys H20 s20 hqa hsub => ?_⟩
   have s620 := s619.trans s20
   have hp20 := s20 _ _ hp19
   have hfus20 : Paired (TS2 H20) fus FF := Paired.mapP hfus19 fun _ _ z => ts2_tups s20.tups z
   refine ⟨qa, rfl, ⟨_, SqT.of hqa⟩, for_tup (K := K) (a := qa) (xs := ys) (fun i σ H21 => ∃ v9 v10 v11 : Option V, σ = [some (.ref a), some (.int n), some (.ref nl), some (.ref x), some (.ref fo), some (.ref ru), some (.ref pl), some (.ref p), some (.ref x2), v9, v10, v11] ∧ Same H20 H21)
     ⟨_, _, _, rfl, Same.refl H20⟩ (fun i σ H21 _ ⟨_, _, _, _, s21⟩ => SqT.of (s21 _ _ hqa)) ?_ ?_⟩
   · rintro i y σ H21 hy ⟨v9, v10, v11, rfl, s21⟩
     have hyf := hsub y (List.mem_of_getElem? hy)
     obtain ⟨ii, hii⟩ := List.getElem?_of_mem hyf
     obtain ⟨c, hc, r, er, hr0⟩ := Paired.get? hfus20 hii
     subst er
     have hcF : c ∈ FF := List.mem_of_getElem? hc
     have hr21 := s21 _ _ hr0
     have hp21 := s21 _ _ hp20
     have hfus21 : Paired (TS2 H21) fus FF := Paired.mapP hfus20 fun _ _ z => ts2_tups s21.tups z
     have hfl21 : fus.length ≤ 600 := by
       rw [Paired.length hfus21, ← Paired.length hfus20, Paired.length hfus20]
       have := nodup_lenG FF (PpOf ps) hFn fun c hc => mem_PpOf.mpr ⟨((hFm c).mp hc).1, ((hFm c).mp hc).2.1, (hCm c ((hFm c).mp hc).2.2).2.2⟩
       rw [← Paired.length hpws'] at this
       omega
     refine ⟨_, rfl, _, rfl, p, rfl, ⟨_, SqT.of hp21⟩, fun D4 gD4 => ?_⟩
     refine comp_by fus.length (fun j σ H22 => ∃ (v0 : Option V) (xs : List V), σ = [v0, some (.ref r)] ∧ Same H21 H22 ∧ H22 D4 = some (.lst xs) ∧ xs.length ≤ j ∧ Paired (TS2 H22) xs ((FF.take j).filter fun d => !decide (d = c))) ⟨_, [], rfl, (Same.refl H21).new gD4, upd_same, Nat.le_refl _, by rw [List.take_zero]; exact .nil⟩ ?_ ?_
     · rintro j σ H22 hj ⟨v0, xs, rfl, s22, hD22, hxl, hxs⟩
       refine ⟨⟨fus, fus[j], SqT.of (s22 _ _ hp21), by simp⟩, ?_⟩
       rintro y H23 ⟨rfl, hy⟩
       obtain ⟨d', hd', r', er', hr0'⟩ := Paired.get? hfus21 (hy _ (SqT.of (s22 _ _ hp21)))
       subst er'
       have hr' := s22 _ _ hr0'
       refine ⟨_, rfl, _, rfl, r', r, d', c, rfl, rfl, hr', s22 _ _ hr21, _, rfl, ?_⟩
       rw [take_succ_get hd', List.filter_append]
       have T23 := Tups.lst (ys := xs ++ [.ref r']) hD22
       by_cases hdc : d' = c
       · rw [decide_eq_true hdc]
         refine iteF ⟨_, xs, rfl, s22, hD22, by omega, ?_⟩
         have e : [d'].filter (fun d => !decide (d = c)) = [] := by simp [hdc]
         rw [e, List.append_nil]
         exact hxs
       · rw [decide_eq_false hdc]
         refine iteT ⟨_, rfl, xs, hD22, small1000 (by omega), _, xs ++ [.ref r'], rfl, s22.put gD4, upd_same, by rw [List.length_append]; simp; omega, ?_⟩
         have e : [d'].filter (fun d => !decide (d = c)) = [d'] := by simp [hdc]
         rw [e]
         exact Paired.snoc (Paired.mapP hxs fun _ _ z => ts2_tups T23 z) ⟨r', rfl, T23 _ _ hr'⟩
     rintro σ H22 ⟨v0, gs, rfl, s22, hD22, hgl, hgs⟩
     refine ⟨⟨fus, SqT.of (s22 _ _ hp21), Nat.le_refl _⟩, ?_⟩
     rw [Paired.length hfus21, List.take_length] at hgs
     have s2022 := s21.trans s22
     have s622 := s620.trans s2022
     have hGl : (FF.filter fun d => !decide (d = c)).length < FF.length := List.length_filter_lt_length_iff_exists.mpr ⟨c, hcF, by simp⟩
     have hmr := fun h => more_ring hfit hcss h8 hfl hGl h
     have hone := fun {css'} h1 h2 => more_one (css' := css') (c := c) hfit hAc h1 h2
     refine ⟨x, D4, ps, gs, _, rfl, s622.partsF hpf6, hfit, .inl hD22, hgs, fun x3 H23 s23 hpf3 => ?_⟩
     have hfit3 := psW_fit (G := FF.filter fun d => !decide (d = c)) hfit
     have hcl3 := psW_closed (G := FF.filter fun d => !decide (d = c)) hfit.nd hcl
     have hnm3 : (psW (FF.filter fun d => !decide (d = c)) ps).map (·.1) = nms := (psW_names _ ps).trans hnm
     have h83 := small8 hfit3.nd (by rw [psW_names]; exact hNps)
     have s623 := s622.trans s23
     refine ⟨_, rfl, _, rfl, _, rfl, x3, fo, ru, _, fous, rus, flN nms nms.length, rlN nms.length, rfl, hpf3, hfit3, hcl3, s623 _ _ hfo6, Paired.mapP hfous6 (fun _ _ z => FAt.mono s623.tups z), hfl24, hflN hnm3, s623 _ _ hru6, Paired.mapP hrus6 (fun _ _ z => FAt.mono s623.tups z), hrl10, fun bp3 zs3 al3 H24 s24' hbp3 hzs3 hal3 => ?_⟩
     have hAns3 := ans_of (by omega) hal3
     have hz3 : zs3.isEmpty = false := by
       cases zs3 with
       | cons _ _ => rfl
       | nil =>
         exfalso
         have ho : outs 0 al3 = [] := by
           generalize outs 0 al3 = oo at hzs3
           cases hzs3
           rfl
         have hall := outs_all ho
         refine hmr (noway_acyc hcl3 fun n' hn' ⟨t, ht1, hk⟩ => ?_)
         rw [hnm3] at hn'
         obtain ⟨i', hi'⟩ := List.getElem?_of_mem hn'
         obtain ⟨w', hw', ha⟩ := Paired.get? hAns3 hi'
         have hwn := hall w' (List.mem_of_getElem? hw')
         rcases ha with ⟨_, h2⟩ | ⟨t', y', hb, hway, _, _⟩
         · exact h2 n' (List.mem_singleton.mpr rfl) t ht1 n' (List.mem_singleton.mpr rfl) hk
         · have := hway.len
           rw [hwn] at this
           simp at this
     refine ⟨(by show 0 ≤ sizeLine; decide), fun e3 ge3 => ⟨bp3, e3, _, rfl, rfl, SqT.of (upd_keep hbp3 ge3), SqT.of upd_same, _, rfl, ?_⟩⟩
     rw [hz3]
     refine iteF ?_
     have s25 : Same H24 (upd H24 e3 (.tup [])) := (Same.refl H24).new ge3
     generalize upd H24 e3 (.tup []) = H25 at s25 ⊢
     have s2325 := s24'.trans s25
     refine ⟨_, rfl, x3, _, rfl, s2325.partsF hpf3, hfit3, hcl3, h83, fun fp3 fus3 css3 H26 s26' hfp3 hfus3 hcss3 => ⟨fp3, _, rfl, .inr (SqT.of hfp3), rfl, _, rfl, ?_⟩⟩
     obtain ⟨hCn3, hCm3, ρ3, hρ3⟩ := all_facts hfit3.nd hcss3
     have hle := hone hcss3 h83
     have hl3 : fus3.length = css3.flatten.length := by
       rw [Paired.length hfus3]
       exact cut_count hfit3.nd hCn3 fun c hc => ⟨(hCm3 c hc).1, (hCm3 c hc).2.1⟩
     have hge : css3.flatten.length ≠ 0 := fun z => by
       have hnil := List.eq_nil_of_length_eq_zero z
       rw [hnil] at hρ3
       exact hmr ⟨ρ3, fun a ha b hb => hρ3 a ha b (hcl3 a ha b hb) hb (by simp)⟩
     have h1 : fus3.length = 1 := by omega
     rw [h1]
     refine neIF ?_
     exact ⟨_, _, _, rfl, (((s21.trans s22).trans s23).trans s2325).trans s26'⟩
   · rintro σ H21 ⟨v9, v10, v11, rfl, s21⟩
     exact q _
end
end K88
set_option Elab.async false
set_option linter.all false
set_option maxRecDepth 100000
namespace K88
open PySem L2
theorem all_mk {l : PySem.W.OpenLaw} {w : World} {K : PySem.W.Frag} {h : Heap} {mg : Str → Option Value} {fa : Addr} (X : K.In h) (G : h.Ns mainGlobals mg) (hfa : mg "law" = some (.ref fa))
   {f0 : Addr} {od0 an0 : Option Addr} {sl0 : Array (Option Value)} {oc0 kV0 dc0 pm0 cd0 ct0 : Value}
   {f1 : Addr} {od1 an1 : Option Addr} {sl1 : Array (Option Value)} {oc1 kV1 dc1 pm1 cd1 ct1 : Value}
   {f2 : Addr} {od2 an2 : Option Addr} {sl2 : Array (Option Value)} {oc2 kV2 dc2 pm2 cd2 ct2 : Value}
   {f3 : Addr} {od3 an3 : Option Addr} {sl3 : Array (Option Value)} {oc3 kV3 dc3 pm3 cd3 ct3 : Value}
   {f4 : Addr} {od4 an4 : Option Addr} {sl4 : Array (Option Value)} {oc4 kV4 dc4 pm4 cd4 ct4 : Value}
   {f5 : Addr} {od5 an5 : Option Addr} {sl5 : Array (Option Value)} {oc5 kV5 dc5 pm5 cd5 ct5 : Value}
   {f6 : Addr} {od6 an6 : Option Addr} {sl6 : Array (Option Value)} {oc6 kV6 dc6 pm6 cd6 ct6 : Value}
   {f7 : Addr} {od7 an7 : Option Addr} {sl7 : Array (Option Value)} {oc7 kV7 dc7 pm7 cd7 ct7 : Value}
   {f8 : Addr} {od8 an8 : Option Addr} {sl8 : Array (Option Value)} {oc8 kV8 dc8 pm8 cd8 ct8 : Value}
   {f9 : Addr} {od9 an9 : Option Addr} {sl9 : Array (Option Value)} {oc9 kV9 dc9 pm9 cd9 ct9 : Value}
   {f10 : Addr} {od10 an10 : Option Addr} {sl10 : Array (Option Value)} {oc10 kV10 dc10 pm10 cd10 ct10 : Value}
   {f11 : Addr} {od11 an11 : Option Addr} {sl11 : Array (Option Value)} {oc11 kV11 dc11 pm11 cd11 ct11 : Value}
   {f12 : Addr} {od12 an12 : Option Addr} {sl12 : Array (Option Value)} {oc12 kV12 dc12 pm12 cd12 ct12 : Value}
   {f13 : Addr} {od13 an13 : Option Addr} {sl13 : Array (Option Value)} {oc13 kV13 dc13 pm13 cd13 ct13 : Value}
   {f14 : Addr} {od14 an14 : Option Addr} {sl14 : Array (Option Value)} {oc14 kV14 dc14 pm14 cd14 ct14 : Value}
   {f15 : Addr} {od15 an15 : Option Addr} {sl15 : Array (Option Value)} {oc15 kV15 dc15 pm15 cd15 ct15 : Value}
   {f16 : Addr} {od16 an16 : Option Addr} {sl16 : Array (Option Value)} {oc16 kV16 dc16 pm16 cd16 ct16 : Value}
   {f17 : Addr} {od17 an17 : Option Addr} {sl17 : Array (Option Value)} {oc17 kV17 dc17 pm17 cd17 ct17 : Value}
   {f18 : Addr} {od18 an18 : Option Addr} {sl18 : Array (Option Value)} {oc18 kV18 dc18 pm18 cd18 ct18 : Value}
   {f19 : Addr} {od19 an19 : Option Addr} {sl19 : Array (Option Value)} {oc19 kV19 dc19 pm19 cd19 ct19 : Value}
   {f20 : Addr} {od20 an20 : Option Addr} {sl20 : Array (Option Value)} {oc20 kV20 dc20 pm20 cd20 ct20 : Value}
   {f21 : Addr} {od21 an21 : Option Addr} {sl21 : Array (Option Value)} {oc21 kV21 dc21 pm21 cd21 ct21 : Value}
   {f22 : Addr} {od22 an22 : Option Addr} {sl22 : Array (Option Value)} {oc22 kV22 dc22 pm22 cd22 ct22 : Value}
   {f23 : Addr} {od23 an23 : Option Addr} {sl23 : Array (Option Value)} {oc23 kV23 dc23 pm23 cd23 ct23 : Value}
   {f24 : Addr} {od24 an24 : Option Addr} {sl24 : Array (Option Value)} {oc24 kV24 dc24 pm24 cd24 ct24 : Value}
   {f25 : Addr} {od25 an25 : Option Addr} {sl25 : Array (Option Value)} {oc25 kV25 dc25 pm25 cd25 ct25 : Value}
   {f26 : Addr} {od26 an26 : Option Addr} {sl26 : Array (Option Value)} {oc26 kV26 dc26 pm26 cd26 ct26 : Value}
   {f27 : Addr} {od27 an27 : Option Addr} {sl27 : Array (Option Value)} {oc27 kV27 dc27 pm27 cd27 ct27 : Value}
   {f28 : Addr} {od28 an28 : Option Addr} {sl28 : Array (Option Value)} {oc28 kV28 dc28 pm28 cd28 ct28 : Value}
   {tk0 : Tok}
   (a0 : PySem.W.nsIn K mainGlobals "brings" = some (some (.ref f0))) (l0 : K.lookup f0 = some ⟨oc0, od0, .func (PySem.W.fnOf "brings" "brings" (defArgs s_brings) (defBody s_brings) (defScope s_brings) .none kV0 dc0 pm0 an0 cd0 ct0), sl0⟩) (c0 : PySem.W.codeIn K cd0 "brings" = true) (k0 : PySem.W.keepIn K (.ref f0) = true)
   (a1 : PySem.W.nsIn K mainGlobals "bringings" = some (some (.ref f1))) (l1 : K.lookup f1 = some ⟨oc1, od1, .func (PySem.W.fnOf "bringings" "bringings" (defArgs s_bringings) (defBody s_bringings) (defScope s_bringings) .none kV1 dc1 pm1 an1 cd1 ct1), sl1⟩) (c1 : PySem.W.codeIn K cd1 "bringings" = true) (k1 : PySem.W.keepIn K (.ref f1) = true)
   (a2 : PySem.W.nsIn K mainGlobals "named_parts" = some (some (.ref f2))) (l2 : K.lookup f2 = some ⟨oc2, od2, .func (PySem.W.fnOf "named_parts" "named_parts" (defArgs s_named_parts) (defBody s_named_parts) (defScope s_named_parts) .none kV2 dc2 pm2 an2 cd2 ct2), sl2⟩) (c2 : PySem.W.codeIn K cd2 "named_parts" = true) (k2 : PySem.W.keepIn K (.ref f2) = true)
   (a3 : PySem.W.nsIn K mainGlobals "knots_in" = some (some (.ref f3))) (l3 : K.lookup f3 = some ⟨oc3, od3, .func (PySem.W.fnOf "knots_in" "knots_in" (defArgs s_knots_in) (defBody s_knots_in) (defScope s_knots_in) .none kV3 dc3 pm3 an3 cd3 ct3), sl3⟩) (c3 : PySem.W.codeIn K cd3 "knots_in" = true) (k3 : PySem.W.keepIn K (.ref f3) = true)
   (a4 : PySem.W.nsIn K mainGlobals "knot_around" = some (some (.ref f4))) (l4 : K.lookup f4 = some ⟨oc4, od4, .func (PySem.W.fnOf "knot_around" "knot_around" (defArgs s_knot_around) (defBody s_knot_around) (defScope s_knot_around) .none kV4 dc4 pm4 an4 cd4 ct4), sl4⟩) (c4 : PySem.W.codeIn K cd4 "knot_around" = true) (k4 : PySem.W.keepIn K (.ref f4) = true)
   (a5 : PySem.W.nsIn K mainGlobals "turned" = some (some (.ref f5))) (l5 : K.lookup f5 = some ⟨oc5, od5, .func (PySem.W.fnOf "turned" "turned" (defArgs s_turned) (defBody s_turned) (defScope s_turned) .none kV5 dc5 pm5 an5 cd5 ct5), sl5⟩) (c5 : PySem.W.codeIn K cd5 "turned" = true) (k5 : PySem.W.keepIn K (.ref f5) = true)
   (a6 : PySem.W.nsIn K mainGlobals "spread" = some (some (.ref f6))) (l6 : K.lookup f6 = some ⟨oc6, od6, .func (PySem.W.fnOf "spread" "spread" (defArgs s_spread) (defBody s_spread) (defScope s_spread) .none kV6 dc6 pm6 an6 cd6 ct6), sl6⟩) (c6 : PySem.W.codeIn K cd6 "spread" = true) (k6 : PySem.W.keepIn K (.ref f6) = true)
   (a7 : PySem.W.nsIn K mainGlobals "tangles" = some (some (.ref f7))) (l7 : K.lookup f7 = some ⟨oc7, od7, .func (PySem.W.fnOf "tangles" "tangles" (defArgs s_tangles) (defBody s_tangles) (defScope s_tangles) .none kV7 dc7 pm7 an7 cd7 ct7), sl7⟩) (c7 : PySem.W.codeIn K cd7 "tangles" = true) (k7 : PySem.W.keepIn K (.ref f7) = true)
   (a8 : PySem.W.nsIn K mainGlobals "numbers_in" = some (some (.ref f8))) (l8 : K.lookup f8 = some ⟨oc8, od8, .func (PySem.W.fnOf "numbers_in" "numbers_in" (defArgs s_numbers_in) (defBody s_numbers_in) (defScope s_numbers_in) .none kV8 dc8 pm8 an8 cd8 ct8), sl8⟩) (c8 : PySem.W.codeIn K cd8 "numbers_in" = true) (k8 : PySem.W.keepIn K (.ref f8) = true)
   (a9 : PySem.W.nsIn K mainGlobals "steps_within" = some (some (.ref f9))) (l9 : K.lookup f9 = some ⟨oc9, od9, .func (PySem.W.fnOf "steps_within" "steps_within" (defArgs s_steps_within) (defBody s_steps_within) (defScope s_steps_within) .none kV9 dc9 pm9 an9 cd9 ct9), sl9⟩) (c9 : PySem.W.codeIn K cd9 "steps_within" = true) (k9 : PySem.W.keepIn K (.ref f9) = true)
   (a10 : PySem.W.nsIn K mainGlobals "place_of" = some (some (.ref f10))) (l10 : K.lookup f10 = some ⟨oc10, od10, .func (PySem.W.fnOf "place_of" "place_of" (defArgs s_place_of) (defBody s_place_of) (defScope s_place_of) .none kV10 dc10 pm10 an10 cd10 ct10), sl10⟩) (c10 : PySem.W.codeIn K cd10 "place_of" = true) (k10 : PySem.W.keepIn K (.ref f10) = true)
   (a11 : PySem.W.nsIn K mainGlobals "best_lasts" = some (some (.ref f11))) (l11 : K.lookup f11 = some ⟨oc11, od11, .func (PySem.W.fnOf "best_lasts" "best_lasts" (defArgs s_best_lasts) (defBody s_best_lasts) (defScope s_best_lasts) .none kV11 dc11 pm11 an11 cd11 ct11), sl11⟩) (c11 : PySem.W.codeIn K cd11 "best_lasts" = true) (k11 : PySem.W.keepIn K (.ref f11) = true)
   (a12 : PySem.W.nsIn K mainGlobals "count_with_last" = some (some (.ref f12))) (l12 : K.lookup f12 = some ⟨oc12, od12, .func (PySem.W.fnOf "count_with_last" "count_with_last" (defArgs s_count_with_last) (defBody s_count_with_last) (defScope s_count_with_last) .none kV12 dc12 pm12 an12 cd12 ct12), sl12⟩) (c12 : PySem.W.codeIn K cd12 "count_with_last" = true) (k12 : PySem.W.keepIn K (.ref f12) = true)
   (a13 : PySem.W.nsIn K mainGlobals "fewest" = some (some (.ref f13))) (l13 : K.lookup f13 = some ⟨oc13, od13, .func (PySem.W.fnOf "fewest" "fewest" (defArgs s_fewest) (defBody s_fewest) (defScope s_fewest) .none kV13 dc13 pm13 an13 cd13 ct13), sl13⟩) (c13 : PySem.W.codeIn K cd13 "fewest" = true) (k13 : PySem.W.keepIn K (.ref f13) = true)
   (a14 : PySem.W.nsIn K mainGlobals "fewest_within" = some (some (.ref f14))) (l14 : K.lookup f14 = some ⟨oc14, od14, .func (PySem.W.fnOf "fewest_within" "fewest_within" (defArgs s_fewest_within) (defBody s_fewest_within) (defScope s_fewest_within) .none kV14 dc14 pm14 an14 cd14 ct14), sl14⟩) (c14 : PySem.W.codeIn K cd14 "fewest_within" = true) (k14 : PySem.W.keepIn K (.ref f14) = true)
   (a15 : PySem.W.nsIn K mainGlobals "broken" = some (some (.ref f15))) (l15 : K.lookup f15 = some ⟨oc15, od15, .func (PySem.W.fnOf "broken" "broken" (defArgs s_broken) (defBody s_broken) (defScope s_broken) .none kV15 dc15 pm15 an15 cd15 ct15), sl15⟩) (c15 : PySem.W.codeIn K cd15 "broken" = true) (k15 : PySem.W.keepIn K (.ref f15) = true)
   (a16 : PySem.W.nsIn K mainGlobals "laid_in" = some (some (.ref f16))) (l16 : K.lookup f16 = some ⟨oc16, od16, .func (PySem.W.fnOf "laid_in" "laid_in" (defArgs s_laid_in) (defBody s_laid_in) (defScope s_laid_in) .none kV16 dc16 pm16 an16 cd16 ct16), sl16⟩) (c16 : PySem.W.codeIn K cd16 "laid_in" = true) (k16 : PySem.W.keepIn K (.ref f16) = true)
   (a17 : PySem.W.nsIn K mainGlobals "shortest_way" = some (some (.ref f17))) (l17 : K.lookup f17 = some ⟨oc17, od17, .func (PySem.W.fnOf "shortest_way" "shortest_way" (defArgs s_shortest_way) (defBody s_shortest_way) (defScope s_shortest_way) .none kV17 dc17 pm17 an17 cd17 ct17), sl17⟩) (c17 : PySem.W.codeIn K cd17 "shortest_way" = true) (k17 : PySem.W.keepIn K (.ref f17) = true)
   (a18 : PySem.W.nsIn K mainGlobals "_law_cell_at" = some (some (.ref f18))) (l18 : K.lookup f18 = some ⟨oc18, od18, .func (PySem.W.fnOf "_law_cell_at" "_law_cell_at" (defArgs s_law_cell_at) (defBody s_law_cell_at) (defScope s_law_cell_at) .none kV18 dc18 pm18 an18 cd18 ct18), sl18⟩) (c18 : PySem.W.codeIn K cd18 "_law_cell_at" = true) (k18 : PySem.W.keepIn K (.ref f18) = true)
   (a19 : PySem.W.nsIn K mainGlobals "_law_mixed" = some (some (.ref f19))) (l19 : K.lookup f19 = some ⟨oc19, od19, .func (PySem.W.fnOf "_law_mixed" "_law_mixed" (defArgs s_law_mixed) (defBody s_law_mixed) (defScope s_law_mixed) .none kV19 dc19 pm19 an19 cd19 ct19), sl19⟩) (c19 : PySem.W.codeIn K cd19 "_law_mixed" = true) (k19 : PySem.W.keepIn K (.ref f19) = true)
   (a20 : PySem.W.nsIn K mainGlobals "_law_names" = some (some (.ref f20))) (l20 : K.lookup f20 = some ⟨oc20, od20, .func (PySem.W.fnOf "_law_names" "_law_names" (defArgs s_law_names) (defBody s_law_names) (defScope s_law_names) .none kV20 dc20 pm20 an20 cd20 ct20), sl20⟩) (c20 : PySem.W.codeIn K cd20 "_law_names" = true) (k20 : PySem.W.keepIn K (.ref f20) = true)
   (a21 : PySem.W.nsIn K mainGlobals "_law_other" = some (some (.ref f21))) (l21 : K.lookup f21 = some ⟨oc21, od21, .func (PySem.W.fnOf "_law_other" "_law_other" (defArgs s_law_other) (defBody s_law_other) (defScope s_law_other) .none kV21 dc21 pm21 an21 cd21 ct21), sl21⟩) (c21 : PySem.W.codeIn K cd21 "_law_other" = true) (k21 : PySem.W.keepIn K (.ref f21) = true)
   (a22 : PySem.W.nsIn K mainGlobals "_law_pairs_of" = some (some (.ref f22))) (l22 : K.lookup f22 = some ⟨oc22, od22, .func (PySem.W.fnOf "_law_pairs_of" "_law_pairs_of" (defArgs s_law_pairs_of) (defBody s_law_pairs_of) (defScope s_law_pairs_of) .none kV22 dc22 pm22 an22 cd22 ct22), sl22⟩) (c22 : PySem.W.codeIn K cd22 "_law_pairs_of" = true) (k22 : PySem.W.keepIn K (.ref f22) = true)
   (a23 : PySem.W.nsIn K mainGlobals "_law_is_cut" = some (some (.ref f23))) (l23 : K.lookup f23 = some ⟨oc23, od23, .func (PySem.W.fnOf "_law_is_cut" "_law_is_cut" (defArgs s_law_is_cut) (defBody s_law_is_cut) (defScope s_law_is_cut) .none kV23 dc23 pm23 an23 cd23 ct23), sl23⟩) (c23 : PySem.W.codeIn K cd23 "_law_is_cut" = true) (k23 : PySem.W.keepIn K (.ref f23) = true)
   (a24 : PySem.W.nsIn K mainGlobals "_law_plain" = some (some (.ref f24))) (l24 : K.lookup f24 = some ⟨oc24, od24, .func (PySem.W.fnOf "_law_plain" "_law_plain" (defArgs s_law_plain) (defBody s_law_plain) (defScope s_law_plain) .none kV24 dc24 pm24 an24 cd24 ct24), sl24⟩) (c24 : PySem.W.codeIn K cd24 "_law_plain" = true) (k24 : PySem.W.keepIn K (.ref f24) = true)
   (a25 : PySem.W.nsIn K mainGlobals "_law_without" = some (some (.ref f25))) (l25 : K.lookup f25 = some ⟨oc25, od25, .func (PySem.W.fnOf "_law_without" "_law_without" (defArgs s_law_without) (defBody s_law_without) (defScope s_law_without) .none kV25 dc25 pm25 an25 cd25 ct25), sl25⟩) (c25 : PySem.W.codeIn K cd25 "_law_without" = true) (k25 : PySem.W.keepIn K (.ref f25) = true)
   (a26 : PySem.W.nsIn K mainGlobals "_law_round" = some (some (.ref f26))) (l26 : K.lookup f26 = some ⟨oc26, od26, .func (PySem.W.fnOf "_law_round" "_law_round" (defArgs s_law_round) (defBody s_law_round) (defScope s_law_round) .none kV26 dc26 pm26 an26 cd26 ct26), sl26⟩) (c26 : PySem.W.codeIn K cd26 "_law_round" = true) (k26 : PySem.W.keepIn K (.ref f26) = true)
   (a27 : PySem.W.nsIn K mainGlobals "_law_rounds" = some (some (.ref f27))) (l27 : K.lookup f27 = some ⟨oc27, od27, .func (PySem.W.fnOf "_law_rounds" "_law_rounds" (defArgs s_law_rounds) (defBody s_law_rounds) (defScope s_law_rounds) .none kV27 dc27 pm27 an27 cd27 ct27), sl27⟩) (c27 : PySem.W.codeIn K cd27 "_law_rounds" = true) (k27 : PySem.W.keepIn K (.ref f27) = true)
   (a28 : PySem.W.nsIn K mainGlobals "law" = some (some (.ref f28))) (l28 : K.lookup f28 = some ⟨oc28, od28, .func (PySem.W.fnOf "law" "law" (defArgs s_law) (defBody s_law) (defScope s_law) .none kV28 dc28 pm28 an28 cd28 ct28), sl28⟩) (c28 : PySem.W.codeIn K cd28 "law" = true) (k28 : PySem.W.keepIn K (.ref f28) = true)
   (z0 : PySem.W.nsIn K mainGlobals "len" = some none)
   (z1 : PySem.W.nsIn K mainGlobals "range" = some none)
   (z2 : PySem.W.nsIn K mainGlobals "str" = some none)
   (z3 : PySem.W.nsIn K mainGlobals "tuple" = some none)
   (z4 : PySem.W.nsIn K mainGlobals "dict" = some none)
   (z5 : PySem.W.nsIn K mainGlobals "list" = some none)
   (z6 : PySem.W.nsIn K mainGlobals "isinstance" = some none)
   (z7 : PySem.W.nsIn K mainGlobals "min" = some none)
   (z8 : PySem.W.nsIn K mainGlobals "max" = some none)
   (z9 : PySem.W.nsIn K mainGlobals "zip" = some none)
   (z10 : PySem.W.nsIn K mainGlobals "sum" = some none)
   (z11 : PySem.W.nsIn K mainGlobals "enumerate" = some none)
   (gc0 : PySem.W.nsIn K mainGlobals "MOST_PARTS" = some (some (.int 8 tk0))) :
   ∃ fd : FuncData, (∀ (s : Shared) (v : Value), BindsTo s fd ⟨[v], []⟩ [("_law_script", v)]) ∧ ∀ base : Heap, K.In base → base.Ns mainGlobals mg → FnOk l.prog w K mg base CX0 7 fa fd ["_law_script"] (spLaw K) := by
 have e := hfa.symm.trans (PySem.W.mg_of X G a28)
 cases e
 have T : Txt K mg := ⟨PySem.W.mg_none_of X G z0, PySem.W.mg_none_of X G z1, PySem.W.mg_none_of X G z2, PySem.W.mg_none_of X G z3, PySem.W.mg_none_of X G z4, PySem.W.mg_none_of X G z5, PySem.W.mg_none_of X G z6, PySem.W.mg_none_of X G z7, PySem.W.mg_none_of X G z8, PySem.W.mg_none_of X G z9, PySem.W.mg_none_of X G z10, PySem.W.mg_none_of X G z11, ⟨_, PySem.W.mg_of X G gc0, ⟨_, rfl⟩⟩, hasDef_mk X G a0 l0 c0 k0, hasDef_mk X G a1 l1 c1 k1, hasDef_mk X G a2 l2 c2 k2, hasDef_mk X G a3 l3 c3 k3, hasDef_mk X G a4 l4 c4 k4, hasDef_mk X G a5 l5 c5 k5, hasDef_mk X G a6 l6 c6 k6, hasDef_mk X G a7 l7 c7 k7, hasDef_mk X G a8 l8 c8 k8, hasDef_mk X G a9 l9 c9 k9, hasDef_mk X G a10 l10 c10 k10, hasDef_mk X G a11 l11 c11 k11, hasDef_mk X G a12 l12 c12 k12, hasDef_mk X G a13 l13 c13 k13, hasDef_mk X G a14 l14 c14 k14, hasDef_mk X G a15 l15 c15 k15, hasDef_mk X G a16 l16 c16 k16, hasDef_mk X G a17 l17 c17 k17, hasDef_mk X G a18 l18 c18 k18, hasDef_mk X G a19 l19 c19 k19, hasDef_mk X G a20 l20 c20 k20, hasDef_mk X G a21 l21 c21 k21, hasDef_mk X G a22 l22 c22 k22, hasDef_mk X G a23 l23 c23 k23, hasDef_mk X G a24 l24 c24 k24, hasDef_mk X G a25 l25 c25 k25, hasDef_mk X G a26 l26 c26 k26, hasDef_mk X G a27 l27 c27 k27⟩
 exact ⟨_, fun s v => .of_eq rfl, fun base _ _ => law_fn (fun_mk (st := s_law) l28 c28 k28) T⟩
theorem walk {l : PySem.W.OpenLaw} {q : Program} {loose : List Str} {XP : (Str → Option Value) → Heap → Prop} {YP : World → Heap → Prop} {d : DefRec} {K : Params → PySem.W.Frag} (hn : l.most = some 63) (hdf : d.params.defaults = [])
   (hY : ∀ (w : World) (h : Heap), YP w h → (K w.params).In h)
   (F : ∀ (w : World) (mg : Str → Option Value) (fa : Addr) (h : Heap), (K w.params).In h → h.Ns mainGlobals mg → mg d.name = some (.ref fa) →
     ∃ fd : FuncData, (∀ (s : Shared) (u : Value), BindsTo s fd ⟨[u], []⟩ [("_law_script", u)]) ∧ ∀ base : Heap, (K w.params).In base → base.Ns mainGlobals mg → FnOk l.prog w (K w.params) mg base CX0 7 fa fd ["_law_script"] (spLaw (K w.params))) :
   PySem.W.WalkO q loose XP YP l.row.toRowW d [] (fun f vs => PySem.call f vs) :=
 L2.walk_of (n := 63) (k := 7) (x := "_law_script") (CX := fun _ => CX0) (sp := fun w => spLaw (K w.params)) hn (by decide) hdf ⟨rfl, by decide, by decide⟩ hY F (fun _ _ a ns hl _ hS => ⟨a, ns, rfl, hS, hl, fun _ => rfl⟩) fun _ _ _ _ _ z => z
end K88
open PySem PySem.W PyProof.Rows
set_option maxRecDepth 100000 in
set_option maxHeartbeats 0 in
theorem PySem.Challenge.cw_bundlehouse_k88_whole_rings_cut_holds : PySem.Challenge.rw_bundlehouse_k88_whole_rings_cut.Holds := by
 w_on
 refine HD.head_of (l := PySem.Challenge.rw_bundlehouse_k88_whole_rings_cut) (q := HD.cutTo PySem.Challenge.rw_bundlehouse_k88_whole_rings_cut.prog [1, 2, 4, 6, 7, 8, 10, 11, 12, 13, 15, 16, 17, 18, 19, 20, 21, 22, 24, 25, 26, 28, 29, 30, 31, 32, 33, 34, 35, 36, 37, 38, 39]) (K := K88.heapK) (as := K88.heapA) (N := 2834) K88.heapE K88.said K88.top_run (by rfl) (by rfl) (by rfl) (by rfl) (by decide +kernel) ⟨rfl, rfl, rfl, rfl, rfl, by decide +kernel⟩ ?hw ?hc
 (case hw => w_witness2)
 k_fill
 refine K88.walk (l := PySem.Challenge.rw_bundlehouse_k88_whole_rings_cut) rfl rfl (fun w h Y => PySem.W.kIn_of Y) ?F
 case F =>
   intro w mg fa h KX G hmg
   refine' K88.all_mk KX G hmg ?a0 ?l0 ?c0 ?k0 ?a1 ?l1 ?c1 ?k1 ?a2 ?l2 ?c2 ?k2 ?a3 ?l3 ?c3 ?k3 ?a4 ?l4 ?c4 ?k4 ?a5 ?l5 ?c5 ?k5 ?a6 ?l6 ?c6 ?k6 ?a7 ?l7 ?c7 ?k7 ?a8 ?l8 ?c8 ?k8 ?a9 ?l9 ?c9 ?k9 ?a10 ?l10 ?c10 ?k10 ?a11 ?l11 ?c11 ?k11 ?a12 ?l12 ?c12 ?k12 ?a13 ?l13 ?c13 ?k13 ?a14 ?l14 ?c14 ?k14 ?a15 ?l15 ?c15 ?k15 ?a16 ?l16 ?c16 ?k16 ?a17 ?l17 ?c17 ?k17 ?a18 ?l18 ?c18 ?k18 ?a19 ?l19 ?c19 ?k19 ?a20 ?l20 ?c20 ?k20 ?a21 ?l21 ?c21 ?k21 ?a22 ?l22 ?c22 ?k22 ?a23 ?l23 ?c23 ?k23 ?a24 ?l24 ?c24 ?k24 ?a25 ?l25 ?c25 ?k25 ?a26 ?l26 ?c26 ?k26 ?a27 ?l27 ?c27 ?k27 ?a28 ?l28 ?c28 ?k28 ?z0 ?z1 ?z2 ?z3 ?z4 ?z5 ?z6 ?z7 ?z8 ?z9 ?z10 ?z11 ?gc0
   (case a0 => k_is); (case l0 => k_is); (case c0 => k_is); (case k0 => k_is)
   (case a1 => k_is); (case l1 => k_is); (case c1 => k_is); (case k1 => k_is)
   (case a2 => k_is); (case l2 => k_is); (case c2 => k_is); (case k2 => k_is)
   (case a3 => k_is); (case l3 => k_is); (case c3 => k_is); (case k3 => k_is)
   (case a4 => k_is); (case l4 => k_is); (case c4 => k_is); (case k4 => k_is)
   (case a5 => k_is); (case l5 => k_is); (case c5 => k_is); (case k5 => k_is)
   (case a6 => k_is); (case l6 => k_is); (case c6 => k_is); (case k6 => k_is)
   (case a7 => k_is); (case l7 => k_is); (case c7 => k_is); (case k7 => k_is)
   (case a8 => k_is); (case l8 => k_is); (case c8 => k_is); (case k8 => k_is)
   (case a9 => k_is); (case l9 => k_is); (case c9 => k_is); (case k9 => k_is)
   (case a10 => k_is); (case l10 => k_is); (case c10 => k_is); (case k10 => k_is)
   (case a11 => k_is); (case l11 => k_is); (case c11 => k_is); (case k11 => k_is)
   (case a12 => k_is); (case l12 => k_is); (case c12 => k_is); (case k12 => k_is)
   (case a13 => k_is); (case l13 => k_is); (case c13 => k_is); (case k13 => k_is)
   (case a14 => k_is); (case l14 => k_is); (case c14 => k_is); (case k14 => k_is)
   (case a15 => k_is); (case l15 => k_is); (case c15 => k_is); (case k15 => k_is)
   (case a16 => k_is); (case l16 => k_is); (case c16 => k_is); (case k16 => k_is)
   (case a17 => k_is); (case l17 => k_is); (case c17 => k_is); (case k17 => k_is)
   (case a18 => k_is); (case l18 => k_is); (case c18 => k_is); (case k18 => k_is)
   (case a19 => k_is); (case l19 => k_is); (case c19 => k_is); (case k19 => k_is)
   (case a20 => k_is); (case l20 => k_is); (case c20 => k_is); (case k20 => k_is)
   (case a21 => k_is); (case l21 => k_is); (case c21 => k_is); (case k21 => k_is)
   (case a22 => k_is); (case l22 => k_is); (case c22 => k_is); (case k22 => k_is)
   (case a23 => k_is); (case l23 => k_is); (case c23 => k_is); (case k23 => k_is)
   (case a24 => k_is); (case l24 => k_is); (case c24 => k_is); (case k24 => k_is)
   (case a25 => k_is); (case l25 => k_is); (case c25 => k_is); (case k25 => k_is)
   (case a26 => k_is); (case l26 => k_is); (case c26 => k_is); (case k26 => k_is)
   (case a27 => k_is); (case l27 => k_is); (case c27 => k_is); (case k27 => k_is)
   (case a28 => k_is); (case l28 => k_is); (case c28 => k_is); (case k28 => k_is)
   (case z0 => k_is); (case z1 => k_is); (case z2 => k_is); (case z3 => k_is); (case z4 => k_is); (case z5 => k_is); (case z6 => k_is); (case z7 => k_is); (case z8 => k_is); (case z9 => k_is); (case z10 => k_is); (case z11 => k_is)
   (case gc0 => k_is)